import PyProof.Rows.All
import Wide.All
import OpenK.AllK
import Wide.FinOn
import Lean
import PyProof.EqAt
import PyProof.EqKinds
import PyProof.TupleCall
import PySem.Challenge.RW_evenkin_k14_whole_maps_of_trees
set_option Elab.async false
set_option linter.all false
set_option maxRecDepth 100000
/-! THE HAND LAYER, for ints, bools, texts, own classes, LISTS and tuples (index, slices, in, append, pop ..), calls, loops. Paste it whole ahead of your own text; what your proof does not reach may be deleted. -/
namespace L2
open PySem PySem.Spec PyProof.Rows

/-- a key: an int or a str -/
abbrev Key := Sum Int Str
def keyIs : Key → Value → Bool
  | .inl k, v => Value.isInt k v
  | .inr x, v => Value.isStrOf x v
def keyH (w : World) : Key → Int
  | .inl k => hashInt k
  | .inr x => hashStr w x
theorem keyIs_shape : ∀ {k : Key} {v : Value}, keyIs k v = true → (∃ i t, k = Sum.inl i ∧ v = Value.int i t) ∨ (∃ x t, k = Sum.inr x ∧ v = Value.str x t)
  | .inl i, v, h => by
    obtain ⟨t, e⟩ := Value.isInt_shape (k := i) (v := v) h
    exact .inl ⟨i, t, rfl, e⟩
  | .inr x, v, h => by
    obtain ⟨t, e⟩ := Value.isStrOf_shape (x := x) (v := v) h
    exact .inr ⟨x, t, rfl, e⟩
theorem key_ll (a b : Int) : decide ((Sum.inl a : Key) = Sum.inl b) = (a == b) := by
  by_cases e : a = b
  · subst e; simp
  · have h : ¬ (Sum.inl a : Key) = Sum.inl b := fun q => e (Sum.inl.inj q)
    rw [decide_eq_false h]
    exact (beq_eq_false_iff_ne.mpr e).symm
theorem key_rr (a b : Str) : decide ((Sum.inr a : Key) = Sum.inr b) = decide (a = b) := by
  by_cases e : a = b
  · subst e; simp
  · have h : ¬ (Sum.inr a : Key) = Sum.inr b := fun q => e (Sum.inr.inj q)
    rw [decide_eq_false h, decide_eq_false e]
theorem key_lr (a : Int) (b : Str) : decide ((Sum.inl a : Key) = Sum.inr b) = false := decide_eq_false (fun q => nomatch q)
theorem key_rl (a : Str) (b : Int) : decide ((Sum.inr a : Key) = Sum.inl b) = false := decide_eq_false (fun q => nomatch q)

def mixKind (prog : Program) (w : World) : PySem.KeyKind prog w Key where
  is := keyIs
  hash := keyH w
  inj := fun v a b ha hb => by
    rcases keyIs_shape ha with ⟨i, t, rfl, rfl⟩ | ⟨x, t, rfl, rfl⟩
    · rcases keyIs_shape hb with ⟨j, u, rfl, e⟩ | ⟨y, u, rfl, e⟩
      · injection e with e1 _; rw [e1]
      · exact nomatch e
    · rcases keyIs_shape hb with ⟨j, u, rfl, e⟩ | ⟨y, u, rfl, e⟩
      · exact nomatch e
      · injection e with e1 _; rw [e1]
  byValue := fun k v h => by
    rcases keyIs_shape h with ⟨i, t, rfl, rfl⟩ | ⟨x, t, rfl, rfl⟩ <;> rfl
  pyHash := fun hv h => by
    rcases keyIs_shape hv with ⟨i, t, rfl, rfl⟩ | ⟨x, t, rfl, rfl⟩
    · exact wpAny_pyHash_int h
    · exact wpAny_pyHash_str h
  eqBool := fun hu hv h => by
    rcases keyIs_shape hu with ⟨i, t, rfl, rfl⟩ | ⟨x, t, rfl, rfl⟩
    · rcases keyIs_shape hv with ⟨j, u, rfl, rfl⟩ | ⟨y, u, rfl, rfl⟩
      · rw [key_ll] at h; exact wpAny_eqBool_int h
      · rw [key_lr] at h; exact SeqAt.EqAt.int_str i t y u _ _ _ _ h
    · rcases keyIs_shape hv with ⟨j, u, rfl, rfl⟩ | ⟨y, u, rfl, rfl⟩
      · rw [key_rl] at h; exact SeqAt.EqAt.str_int x t j u _ _ _ _ h
      · rw [key_rr] at h; exact wpAny_eqBool_str h
  «strs» := fun k x t v h => by
    rcases keyIs_shape h with ⟨i, u, rfl, e⟩ | ⟨y, u, rfl, e⟩
    · exact nomatch e
    · injection e with e1 _
      subst e1
      cases v <;> rfl

end L2

namespace L2
open PySem PySem.Spec PyProof.Rows

/-- a value, without the heap -/
inductive V where
  | non | bl (b : Bool) | int (i : Int) | str (x : Str) | byt (b : Array UInt8) | flt (b : UInt64) | ref (a : Addr) | ty (n : String)
  deriving DecidableEq

def RelV : V → Value → Prop
  | .non, u => u = Value.none
  | .bl b, u => u = Value.bool b
  | .int i, u => ∃ t, u = Value.int i t
  | .str x, u => ∃ t, u = Value.str x t
  | .byt b, u => ∃ t, u = Value.bytes b t
  | .flt b, u => ∃ t, u = Value.float b t
  | .ref a, u => u = Value.ref a
  | .ty n, u => u = Value.type n

abbrev Vals : List V → List Value → Prop := Paired RelV
theorem Vals.length {xs : List V} {us : List Value} (r : Vals xs us) : xs.length = us.length := Paired.length r
theorem Vals.get : ∀ {xs : List V} {us : List Value} {i : Nat} {x : V}, Vals xs us → xs[i]? = some x → ∃ u, us[i]? = some u ∧ RelV x u
  | _, _, _, _, .nil, e => by simp at e
  | _, _, 0, _, .cons r _, e => by simp at e; subst e; exact ⟨_, rfl, r⟩
  | _, _, i + 1, x, .cons _ t, e => by
    obtain ⟨u, h1, h2⟩ := Vals.get (i := i) (x := x) t (by simpa using e)
    exact ⟨u, by simpa using h1, h2⟩
theorem Vals.set {x : V} {u : Value} (r : RelV x u) : ∀ {xs : List V} {us : List Value} (i : Nat), Vals xs us → Vals (xs.set i x) (us.set i u)
  | _, _, _, .nil => .nil
  | _, _, 0, .cons _ t => .cons r t
  | _, _, i + 1, .cons q t => .cons q (Vals.set r i t)
theorem Vals.append : ∀ {xs ys : List V} {us ws : List Value}, Vals xs us → Vals ys ws → Vals (xs ++ ys) (us ++ ws)
  | _, _, _, _, .nil, s => s
  | _, _, _, _, .cons r t, s => .cons r (Vals.append t s)
theorem Vals.take : ∀ {xs : List V} {us : List Value} (n : Nat), Vals xs us → Vals (xs.take n) (us.take n)
  | _, _, 0, _ => .nil
  | _, _, _ + 1, .nil => .nil
  | _, _, n + 1, .cons r t => .cons r (Vals.take n t)
theorem Vals.drop : ∀ {xs : List V} {us : List Value} (n : Nat), Vals xs us → Vals (xs.drop n) (us.drop n)
  | _, _, 0, r => r
  | _, _, _ + 1, .nil => .nil
  | _, _, n + 1, .cons _ t => Vals.drop n t
def RelO : Option V → Option Value → Prop
  | some v, some u => RelV v u
  | none, none => True
  | _, _ => False
def KV {κ : Type} : List (κ × V) → List (κ × Value) → Prop := Paired fun (p : κ × V) (q : κ × Value) => p.1 = q.1 ∧ RelV p.2 q.2

/-- a key of a dict (00_mix): an int or a text -/
def kV : Key → V
  | .inl i => .int i
  | .inr x => .str x

/-- what stands at a tracked address -/
inductive HO where
  /-- a list -/
  | lst (xs : List V)
  /-- a tuple (never changes) -/
  | tup (xs : List V)
  /-- a dict whose keys are ints and texts; one whose keys are tuples of ints and texts (the empty one is both) -/
  | dK (kvs : List (Key × V)) | dT (kvs : List (List Key × V))
  /-- a set of ints: its members, its size -/
  | set (S : Int → Bool) (n : Nat)
  /-- an instance of the class at C, its dict at dx, its attributes -/
  | ins (C dx : Addr) (fs : List (Str × V))
  /-- the dict of the instance at x -/
  | own (x : Addr)
  /-- the dict of an exception -/
  | xd (fs : List (Str × V))
  /-- a bound method, f of x -/
  | met (f x : Addr)
  /-- a range object lo, lo + 1, .. below hi -/
  | rng (lo hi : Int)
  /-- a thing that is known to the object (the script; a dict while a loop walks it): read, never written while it is so -/
  | frz (o : Obj) (u : HO)
  /-- a code object's table -/
  | tbl (ps : Array Value)
  /-- any other thing, by what is true of its one object (a def of one's own: SetO a S n := HO.ext fun h => ..) -/
  | ext (φ : Heap → Prop)

abbrev Hp := Addr → Option HO
def upd (H : Hp) (a : Addr) (o : HO) : Hp := fun b => if b = a then some o else H b
theorem upd_same {H : Hp} {a : Addr} {o : HO} : upd H a o a = some o := by unfold upd; rw [if_pos rfl]
theorem upd_ne {H : Hp} {a b : Addr} {o : HO} (h : b ≠ a) : upd H a o b = H b := by unfold upd; rw [if_neg h]
theorem upd_upd {H : Hp} {a : Addr} {o u : HO} : upd (upd H a o) a u = upd H a u := by
  funext b; unfold upd; split <;> rfl
theorem ne_of_none {H : Hp} {a b : Addr} {o : HO} (h : H a = some o) (h' : H b = none) : a ≠ b := by
  intro e; subst e; rw [h] at h'; cases h'

section
variable (P : Program) (w : World)
def ObjOk (H : Hp) (h : Heap) (a : Addr) : HO → Prop
  | .lst xs => xs.length ≤ sizeLine ∧ ∃ (its : List Value) (n : Nat), Vals xs its ∧ h.get? a = some { cls := .type "list", data := .seq its.toArray n }
  | .tup xs => xs.length ≤ sizeLine ∧ ∃ its : List Value, Vals xs its ∧ IsTup h a its.toArray
  | .dK kvs => kvs.length ≤ sizeLine ∧ (a == sysModules) = false ∧ ∃ vs, KV kvs vs ∧ h.DictOf (mixKind P w) a vs
  | .dT kvs => kvs.length ≤ sizeLine ∧ (a == sysModules) = false ∧ ∃ xs : List (List Key × Addr × Value),
      Paired (fun (p : List Key × V) (q : List Key × Addr × Value) => p.1 = q.1 ∧ H q.2.1 = some (.tup (p.1.map kV)) ∧ RelV p.2 q.2.2) kvs xs ∧
      ∃ o es ep, h.get? a = some o ∧ o.ExactDict ∧ o.data = .dict es ep ∧ es.toList = xs.map (entryOfKey (tupleKind (mixKind P w))) ∧ (xs.map (·.1)).Nodup
  | .set S n => h.SetOf (intKind P w) a S n
  | .ins C dx fs => H dx = some (.own a) ∧ fs.length ≤ 1000 ∧ dx ≠ a ∧ h.get? a = some (PySem.W.instObj C dx) ∧
      ∃ mA, h.Ns1 dx mA ∧ (∀ f, RelO (fs.lookup f) (mA f)) ∧ PySem.Within mA (fs.map (·.1))
  | .own _ => ∃ o, h.get? a = some o
  | .xd fs => ∃ mA, h.Ns1 a mA ∧ ∀ f, RelO (fs.lookup f) (mA f)
  | .rng lo hi => ∃ t u v, h.get? a = some { cls := .type "range", data := .fields #[.int lo t, .int hi u, .int 1 v] }
  | .frz o u => h.get? a = some o ∧ ObjOk H h a u
  | .tbl ps => h.get? a = some { cls := .none, data := .fields ps }
  | .met f x => h.get? a = some (PySem.W.methodObj (.ref f) (.ref x))
  | .ext φ => φ h ∧ (∃ o, h.get? a = some o) ∧ ∀ h1 h2 : Heap, φ h1 → (∀ o, h1.get? a = some o → h2.get? a = some o) → φ h2
/-- the abstract heap is held -/
def HOk (H : Hp) (h : Heap) : Prop := ∀ a o, H a = some o → ObjOk P w H h a o
end

section
variable {P : Program} {w : World} {H H' : Hp} {h h' : Heap} {a : Addr} {o : HO}
theorem ObjOk.lt (x : ObjOk P w H h a o) : a < h.objs.size := by
  cases o with
  | lst xs => obtain ⟨_, _, _, _, e⟩ := x; exact Heap.lt_size e
  | tup xs => obtain ⟨_, _, _, p⟩ := x; exact p.lt
  | dK kvs => obtain ⟨_, _, _, _, o, _, _, e, _⟩ := x; exact Heap.lt_size e
  | dT kvs => obtain ⟨_, _, _, _, o, _, _, e, _⟩ := x; exact Heap.lt_size e
  | set S n => obtain ⟨o, _, _, _, e, _⟩ := x; exact Heap.lt_size e
  | ins C dx fs => obtain ⟨_, _, _, e, _⟩ := x; exact Heap.lt_size e
  | own y => obtain ⟨_, e⟩ := x; exact Heap.lt_size e
  | xd fs => obtain ⟨_, ⟨_, _, _, e, _⟩, _⟩ := x; exact Heap.lt_size e
  | rng lo hi => obtain ⟨_, _, _, e⟩ := x; exact Heap.lt_size e
  | frz ob u => obtain ⟨e, _⟩ := x; exact Heap.lt_size e
  | tbl ps => exact Heap.lt_size (show h.get? a = some _ from x)
  | met f y => exact Heap.lt_size (show h.get? a = some _ from x)
  | ext φ => obtain ⟨_, ⟨_, e⟩, _⟩ := x; exact Heap.lt_size e
theorem Paired.mapP {α β : Type} {F G : α → β → Prop} : ∀ {l₁ : List α} {l₂ : List β}, Paired F l₁ l₂ → (∀ a b, F a b → G a b) → Paired G l₁ l₂
  | _, _, .nil, _ => .nil
  | _, _, .cons r t, f => .cons (f _ _ r) (Paired.mapP t f)
/-- what an object's description leans on: its own object, its own dict, the tuples -/
theorem ObjOk.stay (x : ObjOk P w H h a o) (k : ∀ b u, (b = a ∨ H b = some (.own a)) → h.get? b = some u → h'.get? b = some u)
    (ho : ∀ b, H b = some (.own a) → H' b = some (.own a)) (ht : ∀ b xs, H b = some (.tup xs) → H' b = some (.tup xs)) : ObjOk P w H' h' a o := by
  induction o with
  | lst xs => obtain ⟨z, its, n, r, e⟩ := x; exact ⟨z, its, n, r, k _ _ (.inl rfl) e⟩
  | tup xs => obtain ⟨z, its, r, ob, e, c⟩ := x; exact ⟨z, its, r, ob, k _ _ (.inl rfl) e, c⟩
  | dK kvs => obtain ⟨z, y, vs, r, ob, es, ep, e, c⟩ := x; exact ⟨z, y, vs, r, ob, es, ep, k _ _ (.inl rfl) e, c⟩
  | dT kvs =>
    obtain ⟨z, y, xs, r, ob, es, ep, e, c⟩ := x
    exact ⟨z, y, xs, Paired.mapP r fun p q z => ⟨z.1, ht _ _ z.2.1, z.2.2⟩, ob, es, ep, k _ _ (.inl rfl) e, c⟩
  | set S n => obtain ⟨ob, es, ep, t, e, c⟩ := x; exact ⟨ob, es, ep, t, k _ _ (.inl rfl) e, c⟩
  | ins C dx fs =>
    obtain ⟨d, z, ne, e, mA, ⟨od, es, ep, e2, c⟩, r⟩ := x
    exact ⟨ho _ d, z, ne, k _ _ (.inl rfl) e, mA, ⟨od, es, ep, k _ _ (.inr d) e2, c⟩, r⟩
  | own y => obtain ⟨ob, e⟩ := x; exact ⟨ob, k _ _ (.inl rfl) e⟩
  | xd fs => obtain ⟨mA, ⟨od, es, ep, e, c⟩, r⟩ := x; exact ⟨mA, ⟨od, es, ep, k _ _ (.inl rfl) e, c⟩, r⟩
  | rng lo hi => obtain ⟨t, u, v, e⟩ := x; exact ⟨t, u, v, k _ _ (.inl rfl) e⟩
  | frz ob u ih => obtain ⟨e, q⟩ := x; exact ⟨k _ _ (.inl rfl) e, ih q⟩
  | tbl ps =>
    have e : h.get? a = some { cls := .none, data := .fields ps } := x
    show h'.get? a = some { cls := .none, data := .fields ps }
    exact k a _ (.inl rfl) e
  | met f y =>
    have e : h.get? a = some (PySem.W.methodObj (.ref f) (.ref y)) := x
    show h'.get? a = some (PySem.W.methodObj (.ref f) (.ref y))
    exact k a _ (.inl rfl) e
  | ext φ => obtain ⟨p, ⟨o, e⟩, st⟩ := x; exact ⟨st _ _ p fun o q => k _ _ (.inl rfl) q, ⟨o, k _ _ (.inl rfl) e⟩, st⟩
theorem HOk.lt (x : HOk P w H h) (e : H a = some o) : a < h.objs.size := (x a o e).lt
theorem HOk.fresh (x : HOk P w H h) (e : h.objs.size ≤ a) : H a = none := by
  cases q : H a with
  | none => rfl
  | some u => exact absurd (Nat.lt_of_lt_of_le (x.lt q) e) (Nat.lt_irrefl _)
/-- every object of the heap is kept -/
theorem HOk.kept (x : HOk P w H h) (k : ∀ b u, h.get? b = some u → h'.get? b = some u) : HOk P w H h' := fun a o e =>
  (x a o e).stay (fun b u _ q => k b u q) (fun _ q => q) fun _ _ q => q
/-- a new object is laid and tracked -/
theorem HOk.laid (x : HOk P w H h) (k : ∀ b u, h.get? b = some u → h'.get? b = some u) (hp : h.objs.size ≤ a) (new : ObjOk P w (upd H a o) h' a o) : HOk P w (upd H a o) h' := fun b u e => by
  have hn := x.fresh hp
  by_cases hb : b = a
  · subst hb; rw [upd_same] at e; cases e; exact new
  · rw [upd_ne hb] at e
    exact (x b u e).stay (fun c v _ q => k c v q) (fun c q => by rw [upd_ne (ne_of_none q hn)]; exact q) fun c xs q => by rw [upd_ne (ne_of_none q hn)]; exact q
end

/-- what may be read as u: it is u, or a known u -/
def Rd (H : Hp) (a : Addr) (u : HO) : Prop := H a = some u ∨ ∃ o, H a = some (.frz o u)
theorem Rd.ok {P : Program} {w : World} {H : Hp} {h : Heap} {a : Addr} {u : HO} (r : Rd H a u) (x : HOk P w H h) : ObjOk P w H h a u := by
  rcases r with r | ⟨o, r⟩
  · exact x a u r
  · obtain ⟨_, q⟩ := x a _ r
    exact q
/-- what may be written -/
def Mut : Option HO → Prop
  | some (.lst _) => True
  | some (.dK _) => True
  | some (.dT _) => True
  | some (.set _ _) => True
  | some (.ins _ _ _) => True
  | some (.ext _) => True
  | _ => False
section
variable {P : Program} {w : World} {H : Hp} {h h' : Heap} {x e : Addr} {o' : HO}
/-- the object at e is changed: x itself, or the dict of the instance x -/
theorem HOk.write (ok : HOk P w H h) (mu : Mut (H x)) (he : e = x ∨ H e = some (.own x)) (k : ∀ b u, b ≠ e → h.get? b = some u → h'.get? b = some u) (heo : ∃ u, h'.get? e = some u)
    (new : ObjOk P w (upd H x o') h' x o') : HOk P w (upd H x o') h' := fun b u q => by
  have nown : ∀ c y, H c = some (.own y) → c ≠ x := fun c y r z => by subst z; rw [r] at mu; exact mu
  have ntup : ∀ c xs, H c = some (.tup xs) → c ≠ x := fun c xs r z => by subst z; rw [r] at mu; exact mu
  by_cases hb : b = x
  · subst hb; rw [upd_same] at q; cases q; exact new
  · rw [upd_ne hb] at q
    by_cases hbe : b = e
    · have q' : H b = some (.own x) := by
        rcases he with z | z
        · exact absurd (hbe.trans z) hb
        · rw [hbe]; exact z
      rw [q] at q'; cases q'
      obtain ⟨v, hv⟩ := heo
      exact ⟨v, by rw [hbe]; exact hv⟩
    · refine (ok b u q).stay (fun c v hc r => k c v ?_ r) (fun c r => by rw [upd_ne (nown c b r)]; exact r) fun c xs r => by rw [upd_ne (ntup c xs r)]; exact r
      rcases hc with rfl | hc
      · exact hbe
      · rintro rfl
        rcases he with z | z
        · exact nown c b hc z
        · rw [hc] at z; cases z; exact hb rfl
end

/-! ### kept unless tracked; of the frames at fs (the callers') the slots may change (an exception that passes writes there); of the records at ex (iterators) nothing is said -/
structure Un (fs ex : List Addr) (H H' : Hp) (h h' : Heap) : Prop where
  keep : ∀ b o, h.get? b = some o → H b = none → b ∉ fs → b ∉ ex → h'.get? b = some o
  slot : ∀ b o, h.get? b = some o → H b = none → b ∈ fs → b ∉ ex → ∃ sl, h'.get? b = some { o with slots := sl }
  free : ∀ b o, h.get? b = some o → H b = none → b ∉ ex → H' b = none
  there : ∀ b o, h.get? b = some o → b ∉ ex → ∃ o', h'.get? b = some o'
  tups : ∀ b xs, H b = some (.tup xs) → H' b = some (.tup xs)
  frzs : ∀ b o u, H b = some (.frz o u) → H' b = some (.frz o u)
  tbls : ∀ b ps, H b = some (.tbl ps) → ∃ more, H' b = some (.tbl (ps ++ more))
section
variable {fs fs' ex ex' : List Addr} {H H1 H2 : Hp} {h h1 h2 h' : Heap} {a x e : Addr} {o : HO}
theorem Un.any (u : Un fs ex H H1 h h1) {b : Addr} {ob : Obj} (q : h.get? b = some ob) (n : H b = none) (hx : b ∉ ex) : ∃ sl, h1.get? b = some { ob with slots := sl } := by
  by_cases hb : b ∈ fs
  · exact u.slot b ob q n hb hx
  · exact ⟨ob.slots, u.keep b ob q n hb hx⟩
theorem Un.kept (k : ∀ b u, h.get? b = some u → h'.get? b = some u) : Un fs ex H H h h' :=
  ⟨fun b ob q _ _ _ => k b ob q, fun b ob q _ _ _ => ⟨ob.slots, k b ob q⟩, fun _ _ _ n _ => n, fun b ob q _ => ⟨ob, k b ob q⟩, fun _ _ q => q, fun _ _ _ q => q, fun _ ps q => ⟨#[], by rw [q]; simp⟩⟩
theorem Un.refl : Un fs ex H H h h := Un.kept fun _ _ q => q
theorem Un.laid (k : ∀ b u, h.get? b = some u → h'.get? b = some u) (hp : h.objs.size ≤ a) (hn : H a = none) : Un fs ex H (upd H a o) h h' where
  keep := fun b u q _ _ _ => k b u q
  slot := fun b u q _ _ _ => ⟨u.slots, k b u q⟩
  free := fun b u q n _ => by rw [upd_ne (Nat.ne_of_lt (Nat.lt_of_lt_of_le (Heap.lt_size q) hp))]; exact n
  there := fun b u q _ => ⟨u, k b u q⟩
  tups := fun b xs q => by rw [upd_ne (ne_of_none q hn)]; exact q
  frzs := fun b u xs q => by rw [upd_ne (ne_of_none q hn)]; exact q
  tbls := fun b ps q => ⟨#[], by rw [upd_ne (ne_of_none q hn), q]; simp⟩
theorem Un.write (mu : Mut (H x)) (he : e = x ∨ H e = some (.own x)) (k : ∀ b u, b ≠ e → h.get? b = some u → h'.get? b = some u) (heo : ∃ u, h'.get? e = some u) : Un fs ex H (upd H x o) h h' := by
  have hx : ∀ b, H b = none → b ≠ x := fun b n z => by subst z; rw [n] at mu; exact mu
  have hb : ∀ b, H b = none → b ≠ e := fun b n z => by
    subst z
    rcases he with r | r
    · exact hx b n r
    · rw [n] at r; cases r
  have hm : ∀ b u, H b = some u → ¬ Mut (some u) → b ≠ x := fun b u q nm z => by subst z; rw [q] at mu; exact nm mu
  refine ⟨fun b u q n _ _ => k b u (hb b n) q, fun b u q n _ _ => ⟨u.slots, k b u (hb b n) q⟩, fun b u q n _ => by rw [upd_ne (hx b n)]; exact n, fun b u q _ => ?_,
    fun b xs q => by rw [upd_ne (hm b _ q fun z => z)]; exact q, fun b u xs q => by rw [upd_ne (hm b _ q fun z => z)]; exact q, fun b ps q => ⟨#[], by rw [upd_ne (hm b _ q fun z => z), q]; simp⟩⟩
  by_cases hbe : b = e
  · subst hbe; exact heo
  · exact ⟨u, k b u hbe q⟩
end

/-! ### the heap without what is tracked -/
def trk (h : Heap) (H : Hp) : List Addr := (List.range h.objs.size).filter fun a => (H a).isSome
def hidT (h : Heap) (H : Hp) : Heap := PySem.W.hideAll h (trk h H)
theorem hidT_size (h : Heap) (H : Hp) : (hidT h H).objs.size = h.objs.size := PySem.W.hideAll_size _ _
theorem hidT_get {h : Heap} {H : Hp} {b : Addr} {o : Obj} (e : h.get? b = some o) (n : H b = none) : (hidT h H).get? b = some o :=
  PySem.W.hideAll_get _ e fun hm => by
    have q : (H b).isSome = true := (List.mem_filter.mp hm).2
    rw [n] at q; simp at q
theorem of_hidT {h : Heap} {H : Hp} {b : Addr} {o : Obj} (e : (hidT h H).get? b = some o) : h.get? b = some o ∧ H b = none := by
  have e' : h.get? b = some o := PySem.W.of_hideAll (trk h H) e
  refine ⟨e', ?_⟩
  cases q : H b with
  | none => rfl
  | some x =>
    have hm : b ∈ trk h H := List.mem_filter.mpr ⟨List.mem_range.mpr (Heap.lt_size e'), by simp [q]⟩
    have z : (hidT h H).get? b = none := PySem.W.hideAll_none (trk h H) hm
    rw [z] at e; cases e

/-! ### OpenK's ledger, filled with every new object but one -/
def allNews (g h : Heap) (L : Addr) : List (Addr × Obj) := (List.range h.objs.size).filterMap fun a => if a = L ∨ (g.get? a).isSome = true then none else (h.get? a).map fun o => (a, o)
def rest (g h : Heap) (L d : Addr) : List (Addr × Obj) := (allNews g h L).filter fun p => decide (p.1 ≠ d)
end L2

namespace L2
open PySem PySem.Spec PyProof.Rows

/-- the module's facts, over the base: the heap at the law's entry without what is tracked there -/
structure Mod (K : PySem.W.Frag) (mg : Str → Option Value) (base : Heap) : Prop where
  kin : K.In base
  glob : base.Ns mainGlobals mg
  blt : ∃ mb, base.Ns builtinsNs mb ∧ ∀ x : Str, x ≠ "__name__" → mb x = bootBuiltins x
  nolimit : base.NoLimit

/-- the context: a def's body (or a comprehension's block) running. base: fixed through the whole law; s₀, H₀: the entry; outer: the frames whose slots others may change (a def's callers); stack: all frames that run;
   ex: iterators that were made ahead of the entry and are walked here (a comprehension's); fn: the names whose cells were made at the entry (a def: all; a comprehension's block: its own); calm: not within an except suite; pn: pins that every state bears; xe: what is wanted of an exception that leaves the code -/
structure Cx where
  prog : Program
  w : World
  K : PySem.W.Frag
  mg : Str → Option Value
  base : Heap
  A : Around
  N : List Str
  s₀ : Shared
  H₀ : Hp
  env : Env
  outer : List Env
  stack : List Env
  ex : List Addr
  fn : Str → Bool
  calm : Bool
  pn : List (Addr × Obj)
  xe : Value → Shared → Prop
/-- the callers' frames -/
def frs (l : List Env) : List Addr := l.filterMap (·.frame)
abbrev Cx.fs (X : Cx) : List Addr := frs X.outer

def Vis (sc : Scope) (x : Str) : Prop := sc.names.lookup x = some .local ∨ sc.names.lookup x = some .cell ∨ sc.names.lookup x = some .free
def Loc (sc : Scope) (x : Str) : Prop := sc.names.lookup x = some .local ∨ sc.names.lookup x = some .cell
def Look (env : Env) (h : Heap) (m : Str → Option Value) (x : Str) (u : Value) : Prop :=
  (env.kindOf x = some .local ∧ m x = some u) ∨ ((env.kindOf x = some .cell ∨ env.kindOf x = some .free) ∧ ∃ c, env.cells.lookup x = some c ∧ h.IsCell c (some u))

structure Cx.Ok (X : Cx) : Prop where
  mod : Mod X.K X.mg X.base
  kind : X.env.scope.kind = .function
  glob : X.env.globals = mainGlobals
  blt : X.env.builtins = builtinsNs
  above : X.s₀.heap.objs.size ≤ X.env.locals
  inj : ∀ x y c, X.env.cells.lookup x = some c → X.env.cells.lookup y = some c → x = y
  has : ∀ x, (X.env.kindOf x = some .cell ∨ X.env.kindOf x = some .free) → ∃ c, X.env.cells.lookup x = some c
  cab : ∀ x c, X.fn x = true → X.env.cells.lookup x = some c → X.s₀.heap.objs.size ≤ c
  hd : X.calm = true → X.A.handled = none
  frames : X.A.frames = some X.stack
  stk : X.stack = X.outer ∨ (X.stack = X.env :: X.outer ∧ X.env.frame = some X.env.locals)
  exf : ∀ b ∈ X.ex, b ≠ X.env.locals ∧ ∀ x c, X.env.cells.lookup x = some c → c ≠ b
  bs : ∀ b o, X.base.get? b = some o → X.s₀.heap.get? b = some o ∧ X.H₀ b = none
  bsz : X.base.objs.size ≤ X.s₀.heap.objs.size
  noex : ∀ b o, X.base.get? b = some o → b ∉ X.ex
  exfs : ∀ b ∈ X.ex, b ∉ X.fs
  funs : X.s₀.heap.FunFrames X.base X.outer
  frf : ∀ b ∈ X.fs, X.H₀ b = none

structure Inv (X : Cx) (pins : List (Addr × Obj)) (σ : List (Option V)) (H : Hp) (s : Shared) : Prop where
  ok : X.Ok
  os : s.os = X.s₀.os
  bare : AllBare s.gens
  base : Un X.fs X.ex X.H₀ H X.s₀.heap s.heap
  loc : ∃ m, s.heap.Ns X.env.locals m ∧ ∀ (i : Nat) (x : Str) (v : V), X.N[i]? = some x → σ[i]? = some (some v) → Vis X.env.scope x → ∃ u, RelV v u ∧ Look X.env s.heap m x u
  cell : ∀ x c, X.env.cells.lookup x = some c → ∃ v, s.heap.IsCell c v
  free : H X.env.locals = none
  freeC : ∀ x c, X.env.cells.lookup x = some c → H c = none
  pin : ∀ p ∈ X.pn ++ pins, s.heap.get? p.1 = some p.2 ∧ H p.1 = none ∧ p.1 ≠ X.env.locals ∧ p.1 ∉ X.fs ∧ ∀ v, p.2.data ≠ .cell v
  hok : HOk X.prog X.w H s.heap
  len : σ.length = X.N.length

section
variable {X : Cx} {pins : List (Addr × Obj)} {σ : List (Option V)} {H H' : Hp} {s : Shared} {h' : Heap}

theorem Cx.Ok.nofr (ok : X.Ok) {b : Addr} {o : Obj} (e : X.base.get? b = some o) : b ∉ X.fs := fun hb => by
  have := (ok.funs.mem hb).1
  rw [e] at this; cases this
theorem Inv.bs (I : Inv X pins σ H s) : ∀ b o, X.base.get? b = some o → s.heap.get? b = some o ∧ H b = none := fun b o e =>
  ⟨I.base.keep b o (I.ok.bs b o e).1 (I.ok.bs b o e).2 (I.ok.nofr e) (I.ok.noex b o e), I.base.free b o (I.ok.bs b o e).1 (I.ok.bs b o e).2 (I.ok.noex b o e)⟩
theorem Inv.bk (I : Inv X pins σ H s) : ∀ b o, X.base.get? b = some o → s.heap.get? b = some o := fun b o e => (I.bs b o e).1
theorem Inv.mod (I : Inv X pins σ H s) : Mod X.K X.mg X.base := I.ok.mod
theorem Inv.kIn (I : Inv X pins σ H s) : X.K.In s.heap := I.ok.mod.kin.keeps I.bk
theorem Inv.lt (I : Inv X pins σ H s) : X.env.locals < s.heap.objs.size := let ⟨_, hn, _⟩ := I.loc; hn.lt
theorem Inv.sz (I : Inv X pins σ H s) : X.s₀.heap.objs.size ≤ s.heap.objs.size := Nat.le_trans I.ok.above (Nat.le_of_lt I.lt)
theorem Inv.nofs (I : Inv X pins σ H s) {a : Addr} (h : s.heap.objs.size ≤ a) : a ∉ X.fs := fun hb => by
  obtain ⟨_, o, ho, _⟩ := I.ok.funs.mem hb
  exact absurd (Nat.lt_of_lt_of_le (Heap.lt_size ho) (Nat.le_trans I.sz h)) (Nat.lt_irrefl _)
theorem Inv.cne (I : Inv X pins σ H s) : ∀ x c, X.env.cells.lookup x = some c → c ≠ X.env.locals := fun x c e z => by
  obtain ⟨v, o, ho, hd⟩ := I.cell x c e
  obtain ⟨m, ⟨o', es, ep, ho', hd', _⟩, _⟩ := I.loc
  rw [z, ho'] at ho; cases ho; rw [hd'] at hd; cases hd
theorem Inv.funs (I : Inv X pins σ H s) : s.heap.FunFrames X.base X.outer := by
  have all : ∀ (l : List Env), (∀ b ∈ frs l, b ∈ X.fs) → X.s₀.heap.FunFrames X.base l → s.heap.FunFrames X.base l := by
    intro l
    induction l with
    | nil => intro _ _; trivial
    | cons env r ih =>
      intro hs hl
      obtain ⟨hk, ⟨L, o, hf, hn, ho, hd⟩, hr⟩ := hl
      have hL : L ∈ X.fs := hs L (by unfold frs; rw [List.filterMap_cons, hf]; exact List.mem_cons_self)
      obtain ⟨sl, e⟩ := I.base.slot L o ho (I.ok.frf L hL) hL fun z => I.ok.exfs L z hL
      exact ⟨hk, ⟨L, _, hf, hn, e, hd⟩, ih (fun b hb => hs b (by unfold frs; rw [List.filterMap_cons, hf]; exact List.mem_cons_of_mem _ hb)) hr⟩
  exact all X.outer (fun _ hb => hb) I.ok.funs

/-- the frames that run, for a call -/
theorem Inv.stack (I : Inv X pins σ H s) : s.heap.FunFrames X.base X.stack := by
  rcases I.ok.stk with e | ⟨e, hf⟩
  · rw [e]; exact I.funs
  · rw [e]
    obtain ⟨m, hn, _⟩ := I.loc
    refine .cons (by rw [I.ok.kind]; decide) hf hn ?_ I.funs
    exact Heap.get?_none_of_le (Nat.le_trans I.ok.bsz I.ok.above)
theorem Inv.stkSub (I : Inv X pins σ H s) : ∀ b ∈ frs X.stack, b ∈ X.env.locals :: X.fs := fun b hb => by
  rcases I.ok.stk with e | ⟨e, hf⟩
  · rw [e] at hb; exact List.mem_cons_of_mem _ hb
  · rw [e] at hb
    unfold frs at hb
    rw [List.filterMap_cons, hf] at hb
    exact hb
theorem Inv.stkFree (I : Inv X pins σ H s) : ∀ b ∈ frs X.stack, H b = none := fun b hb => by
  rcases List.mem_cons.mp (I.stkSub b hb) with e | hb
  · rw [e]; exact I.free
  · obtain ⟨_, o, ho, _⟩ := I.ok.funs.mem hb
    exact I.base.free b o ho (I.ok.frf b hb) fun z => I.ok.exfs b z hb

/-- THE STEP: the untracked objects but the frame and the records at ch are kept (the callers' frames up to slots), the frame's map is kept, the new abstract heap is held -/
theorem Inv.step {g' : Array GenState} {t' : Nat} {d' : Drawn} {ch : List Addr} (I : Inv X pins σ H s)
    (hch : ∀ b ∈ ch, (b ∈ X.ex ∨ X.s₀.heap.objs.size ≤ b) ∧ b ≠ X.env.locals ∧ (∀ x c, X.env.cells.lookup x = some c → c ≠ b) ∧ ∀ p ∈ X.pn ++ pins, p.1 ≠ b)
    (keep : ∀ b o, b ≠ X.env.locals → b ∉ X.fs → b ∉ ch → s.heap.get? b = some o → H b = none → h'.get? b = some o)
    (slot : ∀ b o, b ≠ X.env.locals → b ∈ X.fs → b ∉ ch → s.heap.get? b = some o → H b = none → ∃ sl, h'.get? b = some { o with slots := sl }) (free : ∀ b o, b ∉ ch → s.heap.get? b = some o → H b = none → H' b = none)
    (there : ∀ b o, b ∉ ch → s.heap.get? b = some o → ∃ o', h'.get? b = some o')
    (tups : ∀ b xs, H b = some (.tup xs) → H' b = some (.tup xs)) (frzs : ∀ b o u, H b = some (.frz o u) → H' b = some (.frz o u)) (tbls : ∀ b ps, H b = some (.tbl ps) → ∃ more, H' b = some (.tbl (ps ++ more)))
    (ns : ∀ m, s.heap.Ns X.env.locals m → h'.Ns X.env.locals m) (hok : HOk X.prog X.w H' h') (hg : AllBare g') :
    Inv X pins σ H' { s with heap := h', gens := g', drawn := d', toks := t' } := by
  have neL : ∀ b o, X.s₀.heap.get? b = some o → b ≠ X.env.locals := fun b o e => Nat.ne_of_lt (Nat.lt_of_lt_of_le (Heap.lt_size e) I.ok.above)
  have neC : ∀ b o, X.s₀.heap.get? b = some o → b ∉ X.ex → b ∉ ch := fun b o e hx hb => by
    rcases (hch b hb).1 with z | z
    · exact hx z
    · exact absurd (Nat.lt_of_lt_of_le (Heap.lt_size e) z) (Nat.lt_irrefl _)
  have cellK : ∀ x c, X.env.cells.lookup x = some c → ∀ v, s.heap.IsCell c v → h'.IsCell c v := fun x c e v ⟨o, ho, hd⟩ => by
    have nch : c ∉ ch := fun z => (hch c z).2.2.1 x c e rfl
    by_cases hc : c ∈ X.fs
    · obtain ⟨sl, q⟩ := slot c o (I.cne x c e) hc nch ho (I.freeC x c e)
      exact ⟨_, q, hd⟩
    · exact ⟨o, keep c o (I.cne x c e) hc nch ho (I.freeC x c e), hd⟩
  refine ⟨I.ok, I.os, hg, ⟨fun b o e n hb hx => ?_, fun b o e n hb hx => ?_, fun b o e n hx => ?_, fun b o e hx => ?_, fun b xs e => tups b xs (I.base.tups b xs e), fun b o xs e => frzs b o xs (I.base.frzs b o xs e), fun b ps e => ?_⟩, ?_, fun x c e => ?_, ?_, fun x c e => ?_, fun p hp => ?_, hok, I.len⟩
  · exact keep b o (neL b o e) hb (neC b o e hx) (I.base.keep b o e n hb hx) (I.base.free b o e n hx)
  · obtain ⟨sl, e1⟩ := I.base.slot b o e n hb hx
    obtain ⟨sl', e2⟩ := slot b _ (neL b o e) hb (neC b o e hx) e1 (I.base.free b o e n hx)
    exact ⟨sl', e2⟩
  · obtain ⟨o', e1⟩ := I.base.there b o e hx
    exact free b o' (neC b o e hx) e1 (I.base.free b o e n hx)
  · obtain ⟨o', e1⟩ := I.base.there b o e hx
    exact there b o' (neC b o e hx) e1
  · obtain ⟨m1, e1⟩ := I.base.tbls b ps e
    obtain ⟨m2, e2⟩ := tbls b _ e1
    exact ⟨m1 ++ m2, by rw [e2, Array.append_assoc]⟩
  · obtain ⟨m, hn, hl⟩ := I.loc
    refine ⟨m, ns m hn, fun i x v e1 e2 e3 => ?_⟩
    obtain ⟨u, r, l⟩ := hl i x v e1 e2 e3
    refine ⟨u, r, ?_⟩
    rcases l with l | ⟨k, c, e, z⟩
    · exact .inl l
    · exact .inr ⟨k, c, e, cellK x c e _ z⟩
  · obtain ⟨v, z⟩ := I.cell x c e
    exact ⟨v, cellK x c e v z⟩
  · obtain ⟨m, ⟨o, _, _, ho, _⟩, _⟩ := I.loc
    exact free _ o (fun z => (hch _ z).2.1 rfl) ho I.free
  · obtain ⟨v, o, ho, hd⟩ := I.cell x c e
    exact free c o (fun z => (hch c z).2.2.1 x c e rfl) ho (I.freeC x c e)
  · obtain ⟨e, n, ne, nf, d⟩ := I.pin p hp
    have nch : p.1 ∉ ch := fun z => (hch p.1 z).2.2.2 p hp rfl
    exact ⟨keep p.1 p.2 ne nf nch e n, free p.1 p.2 nch e n, ne, nf, d⟩
/-- .. where the frame's own object is kept too -/
theorem Inv.un {t' : Nat} (I : Inv X pins σ H s) (u : Un X.fs [] H H' s.heap h') (hok : HOk X.prog X.w H' h') : Inv X pins σ H' { s with heap := h', toks := t' } := by
  obtain ⟨m, ⟨o, es, ep, ho, r⟩, _⟩ := id I.loc
  obtain ⟨sl, hL⟩ := u.any ho I.free (by simp)
  exact I.step (g' := s.gens) (d' := s.drawn) (ch := []) (fun _ z => nomatch z) (fun b o _ hb _ e n => u.keep b o e n hb (by simp)) (fun b o _ hb _ e n => u.slot b o e n hb (by simp)) (fun b o _ e n => u.free b o e n (by simp)) (fun b o _ e => u.there b o e (by simp)) u.tups u.frzs u.tbls (fun m' hm => by
    obtain ⟨o', es', ep', ho', r'⟩ := hm
    rw [ho] at ho'; cases ho'
    exact ⟨_, es', ep', hL, r'⟩) hok I.bare
/-- behind a call (or a comprehension's block): the slots of this frame may have changed too, the records at ch may have turned -/
theorem Inv.call {g' : Array GenState} {t' : Nat} {d' : Drawn} {ch : List Addr} (I : Inv X pins σ H s) (u : Un (frs X.stack) ch H H' s.heap h') (hok : HOk X.prog X.w H' h') (hg : AllBare g')
    (hch : ∀ b ∈ ch, (b ∈ X.ex ∨ X.s₀.heap.objs.size ≤ b) ∧ b ≠ X.env.locals ∧ (∀ x c, X.env.cells.lookup x = some c → c ≠ b) ∧ ∀ p ∈ X.pn ++ pins, p.1 ≠ b) :
    Inv X pins σ H' { s with heap := h', gens := g', drawn := d', toks := t' } := by
  obtain ⟨m, ⟨o, es, ep, ho, r⟩, _⟩ := id I.loc
  obtain ⟨sl, hL⟩ := u.any ho I.free fun z => (hch _ z).2.1 rfl
  exact I.step (ch := ch) hch (fun b o hL hb hc e n => u.keep b o e n (fun z => (List.mem_cons.mp (I.stkSub b z)).elim hL hb) hc) (fun b o _ _ hc e n => u.any e n hc) (fun b o hc e n => u.free b o e n hc) (fun b o hc e => u.there b o e hc) u.tups u.frzs u.tbls (fun m' hm => by
    obtain ⟨o', es', ep', ho', r'⟩ := hm
    rw [ho] at ho'; cases ho'
    exact ⟨_, es', ep', hL, r'⟩) hok hg
/-- an untracked record of ours (an iterator) has turned -/
theorem Inv.turned {t' : Nat} {it : Addr} (I : Inv X pins σ H s) (k : ∀ b o, b ≠ it → s.heap.get? b = some o → h'.get? b = some o) (hn : H it = none) (hL : it ≠ X.env.locals)
    (h1 : it ∈ X.ex ∨ X.s₀.heap.objs.size ≤ it) (h2 : ∀ x c, X.env.cells.lookup x = some c → c ≠ it) (h3 : ∀ p ∈ X.pn ++ pins, p.1 ≠ it) : Inv X pins σ H { s with heap := h', toks := t' } := by
  have nit : ∀ b u, H b = some u → b ≠ it := fun b u e z => by rw [z, hn] at e; cases e
  refine I.step (g' := s.gens) (d' := s.drawn) (ch := [it]) (fun b hb => ?_) (fun b o _ _ hc e _ => k b o (fun z => hc (by simp [z])) e) (fun b o _ _ hc e _ => ⟨o.slots, k b o (fun z => hc (by simp [z])) e⟩) (fun _ _ _ _ n => n)
    (fun b o hc e => ⟨o, k b o (fun z => hc (by simp [z])) e⟩) (fun _ _ e => e) (fun _ _ _ e => e) (fun b ps e => ⟨#[], by rw [e]; simp⟩) (fun m hm => ?_) (fun b u e => ?_) I.bare
  · have e : b = it := by simpa using hb
    subst e
    exact ⟨h1, hL, h2, h3⟩
  · obtain ⟨o, es, ep, ho, r⟩ := hm
    exact ⟨o, es, ep, k _ o (Ne.symm hL) ho, r⟩
  · refine (I.hok b u e).stay (fun c v hc q => k c v ?_ q) (fun _ q => q) fun _ _ q => q
    rcases hc with z | z
    · rw [z]; exact nit b u e
    · exact nit c _ z
theorem Inv.tok (I : Inv X pins σ H s) (t : Nat) : Inv X pins σ H { s with toks := t } := I.un (h' := s.heap) (t' := t) Un.refl I.hok
/-- all objects kept -/
theorem Inv.kept {t' : Nat} (I : Inv X pins σ H s) (k : ∀ b u, s.heap.get? b = some u → h'.get? b = some u) : Inv X pins σ H { s with heap := h', toks := t' } := I.un (Un.kept k) (I.hok.kept k)
/-- a new object laid and tracked -/
theorem Inv.laid {a : Addr} {o : HO} {t' : Nat} (I : Inv X pins σ H s) (k : ∀ b u, s.heap.get? b = some u → h'.get? b = some u) (hp : s.heap.objs.size ≤ a) (new : ObjOk X.prog X.w (upd H a o) h' a o) :
    Inv X pins σ (upd H a o) { s with heap := h', toks := t' } := I.un (Un.laid k hp (I.hok.fresh hp)) (I.hok.laid k hp new)
/-- an object written -/
theorem Inv.write {x e : Addr} {o : HO} {t' : Nat} (I : Inv X pins σ H s) (mu : Mut (H x)) (he : e = x ∨ H e = some (.own x)) (k : ∀ b u, b ≠ e → s.heap.get? b = some u → h'.get? b = some u) (heo : ∃ u, h'.get? e = some u)
    (new : ObjOk X.prog X.w (upd H x o) h' x o) : Inv X pins σ (upd H x o) { s with heap := h', toks := t' } := I.un (Un.write mu he k heo) (I.hok.write mu he k heo new)
theorem Inv.pins_of {pins' : List (Addr × Obj)} (I : Inv X pins σ H s) (h : ∀ p ∈ pins', s.heap.get? p.1 = some p.2 ∧ H p.1 = none ∧ p.1 ≠ X.env.locals ∧ p.1 ∉ X.fs ∧ ∀ v, p.2.data ≠ .cell v) : Inv X pins' σ H s :=
  ⟨I.ok, I.os, I.bare, I.base, I.loc, I.cell, I.free, I.freeC, fun p hp => (List.mem_append.mp hp).elim (fun z => I.pin p (List.mem_append_left _ z)) (h p), I.hok, I.len⟩

theorem nodup_ix {N : List Str} (hN : N.Nodup) {i j : Nat} {x : Str} (a : N[i]? = some x) (b : N[j]? = some x) : i = j := by
  obtain ⟨h1, e1⟩ := List.getElem?_eq_some_iff.mp a
  obtain ⟨h2, e2⟩ := List.getElem?_eq_some_iff.mp b
  exact (List.getElem_inj hN).mp (e1.trans e2.symm)

/-- a name is stored; what changed -/
theorem store_ok2 {M : Model} {A : Around} {E : Value → Shared → Prop} {i : Nat} {x : Str} {v : V} {u : Value} {Q : Unit → Shared → Prop} (I : Inv X pins σ H s) (hN : X.N.Nodup) (hi : X.N[i]? = some x) (hx : Loc X.env.scope x) (r : RelV v u)
    (h : ∀ s', Inv X pins (σ.set i (some v)) H s' → (∃ a, Heap.SameBut a s.heap s'.heap ∧ (a = X.env.locals ∨ X.env.cells.lookup x = some a)) → Q () s') (hf : X.fn x = true ∨ X.env.scope.names.lookup x = some .local := by first | exact .inl rfl | exact .inr rfl | assumption) : wpAny M A (storeName X.env x u) Q E s := by
  obtain ⟨m, hn, hl⟩ := id I.loc
  have hcls : (X.env.scope.kind == .class || (X.env.scope.kind == .module && X.env.locals != X.env.globals)) = false := by rw [I.ok.kind]; rfl
  have hiσ : i < σ.length := by rw [I.len]; exact (List.getElem?_eq_some_iff.mp hi).1
  have cne := I.cne
  have tracked : ∀ {a : Addr} {h' : Heap}, (∃ o, s.heap.get? a = some o ∧ H a = none) → Heap.SameBut a s.heap h' → HOk X.prog X.w H h' := fun {a h'} ha hs b ob e => by
    obtain ⟨_, _, hfree⟩ := ha
    refine (I.hok b ob e).stay (fun c w' hc q => (hs.2 c ?_).trans q) (fun _ q => q) fun _ _ q => q
    rintro rfl
    rcases hc with rfl | hc
    · rw [hfree] at e; cases e
    · rw [hfree] at hc; cases hc
  rcases hx with hk | hk
  · refine wpAny_storeName_local hk hn (fun h' hn' hs => ?_) hcls
    obtain ⟨oL, _, _, hoL, _⟩ := id hn
    refine h _ ⟨I.ok, I.os, I.bare, ⟨fun b o e n hb hx => ?_, fun b o e n hb hx => ?_, I.base.free, fun b o e hx => ?_, I.base.tups, I.base.frzs, I.base.tbls⟩, ⟨_, hn', fun j y v' e1 e2 e3 => ?_⟩, fun y c e => ?_, I.free, I.freeC, fun p hp => ?_, tracked ⟨oL, hoL, I.free⟩ hs, by simpa using I.len⟩ ⟨_, hs, .inl rfl⟩
    · exact (hs.2 b (Nat.ne_of_lt (Nat.lt_of_lt_of_le (Heap.lt_size e) I.ok.above))).trans (I.base.keep b o e n hb hx)
    · obtain ⟨sl, e1⟩ := I.base.slot b o e n hb hx
      exact ⟨sl, (hs.2 b (Nat.ne_of_lt (Nat.lt_of_lt_of_le (Heap.lt_size e) I.ok.above))).trans e1⟩
    · obtain ⟨o', e1⟩ := I.base.there b o e hx
      exact ⟨o', (hs.2 b (Nat.ne_of_lt (Nat.lt_of_lt_of_le (Heap.lt_size e) I.ok.above))).trans e1⟩
    · by_cases hj : j = i
      · subst hj
        rw [hi] at e1; cases e1
        rw [List.getElem?_set_self hiσ] at e2
        cases e2
        exact ⟨u, r, .inl ⟨hk, by simp⟩⟩
      · rw [List.getElem?_set_ne (Ne.symm hj)] at e2
        obtain ⟨u', r', q⟩ := hl j y v' e1 e2 e3
        refine ⟨u', r', ?_⟩
        rcases q with ⟨k, e⟩ | ⟨k, c, e, z⟩
        · refine .inl ⟨k, ?_⟩
          have : y ≠ x := fun e => hj (nodup_ix hN e1 (e ▸ hi))
          simp [this, e]
        · exact .inr ⟨k, c, e, z.sameBut hs (cne y c e)⟩
    · obtain ⟨w', z⟩ := I.cell y c e
      exact ⟨w', z.sameBut hs (cne y c e)⟩
    · obtain ⟨e, n, ne, nf, d⟩ := I.pin p hp
      exact ⟨(hs.2 p.1 ne).trans e, n, ne, nf, d⟩
  · have hfn : X.fn x = true := by
      rcases hf with z | z
      · exact z
      · rw [z] at hk; cases hk
    obtain ⟨c, hc⟩ := I.ok.has x (.inl hk)
    obtain ⟨w', z⟩ := I.cell x c hc
    refine wpAny_storeName_cell I.ok.kind hk hc z (fun h' hc' hs => ?_)
    obtain ⟨oc, hoc, hocd⟩ := id z
    refine h { s with heap := h' } ⟨I.ok, I.os, I.bare, ⟨fun b o e n hb hx => ?_, fun b o e n hb hx => ?_, I.base.free, fun b o e hx => ?_, I.base.tups, I.base.frzs, I.base.tbls⟩, ⟨m, hn.sameBut hs (Ne.symm (cne x c hc)), fun j y v' e1 e2 e3 => ?_⟩, fun y c' e => ?_, I.free, I.freeC, fun p hp => ?_, tracked ⟨oc, hoc, I.freeC x c hc⟩ hs, by simpa using I.len⟩ ⟨c, hs, .inr hc⟩
    · exact (hs.2 b (Nat.ne_of_lt (Nat.lt_of_lt_of_le (Heap.lt_size e) (I.ok.cab x c hfn hc)))).trans (I.base.keep b o e n hb hx)
    · obtain ⟨sl, e1⟩ := I.base.slot b o e n hb hx
      exact ⟨sl, (hs.2 b (Nat.ne_of_lt (Nat.lt_of_lt_of_le (Heap.lt_size e) (I.ok.cab x c hfn hc)))).trans e1⟩
    · obtain ⟨o', e1⟩ := I.base.there b o e hx
      exact ⟨o', (hs.2 b (Nat.ne_of_lt (Nat.lt_of_lt_of_le (Heap.lt_size e) (I.ok.cab x c hfn hc)))).trans e1⟩
    · by_cases hj : j = i
      · subst hj
        rw [hi] at e1; cases e1
        rw [List.getElem?_set_self hiσ] at e2
        cases e2
        exact ⟨u, r, .inr ⟨.inl hk, c, hc, hc'⟩⟩
      · rw [List.getElem?_set_ne (Ne.symm hj)] at e2
        obtain ⟨u', r', q⟩ := hl j y v' e1 e2 e3
        refine ⟨u', r', ?_⟩
        rcases q with q | ⟨k, c', e, z'⟩
        · exact .inl q
        · refine .inr ⟨k, c', e, z'.sameBut hs ?_⟩
          rintro rfl
          exact hj (nodup_ix hN e1 (I.ok.inj _ _ _ e hc ▸ hi))
    · by_cases hcc : c' = c
      · subst hcc; exact ⟨_, hc'⟩
      · obtain ⟨w2, z2⟩ := I.cell y c' e
        exact ⟨w2, z2.sameBut hs hcc⟩
    · obtain ⟨e, n, ne, nf, d⟩ := I.pin p hp
      refine ⟨(hs.2 p.1 ?_).trans e, n, ne, nf, d⟩
      intro q
      rw [q, hoc] at e
      have q' : oc = p.2 := Option.some.inj e
      exact d w' (by rw [← q']; exact hocd)
theorem store_ok {M : Model} {A : Around} {E : Value → Shared → Prop} {i : Nat} {x : Str} {v : V} {u : Value} {Q : Unit → Shared → Prop} (I : Inv X pins σ H s) (hN : X.N.Nodup) (hi : X.N[i]? = some x) (hx : Loc X.env.scope x) (r : RelV v u)
    (h : ∀ s', Inv X pins (σ.set i (some v)) H s' → Q () s') (hf : X.fn x = true ∨ X.env.scope.names.lookup x = some .local := by first | exact .inl rfl | exact .inr rfl | assumption) : wpAny M A (storeName X.env x u) Q E s :=
  store_ok2 I hN hi hx r (fun s' I' _ => h s' I') hf
/-- behind a call or a block, the state as it is -/
theorem Inv.call' {s' : Shared} {ch : List Addr} (I : Inv X pins σ H s) (ho : s'.os = s.os) (u : Un (frs X.stack) ch H H' s.heap s'.heap) (hok : HOk X.prog X.w H' s'.heap) (hg : AllBare s'.gens)
    (hch : ∀ b ∈ ch, (b ∈ X.ex ∨ X.s₀.heap.objs.size ≤ b) ∧ b ≠ X.env.locals ∧ (∀ x c, X.env.cells.lookup x = some c → c ≠ b) ∧ ∀ p ∈ X.pn ++ pins, p.1 ≠ b) : Inv X pins σ H' s' := by
  obtain ⟨h', g', d', t', o'⟩ := s'
  have e : o' = s.os := ho
  subst e
  exact I.call (g' := g') (t' := t') (d' := d') u hok hg hch
end

/-! ### the judgements -/
/-- an exception: its class, its own dict's address (where it has one), the abstract heap behind it -/
abbrev XK := Value → Option Addr → Hp → Prop
abbrev St := List (Option V)
abbrev VK := V → Hp → Prop
/-- an expression's reading; a test's; an argument list's -/
abbrev TE := St → Hp → VK → Prop
abbrev TT := St → Hp → (Bool → Hp → Prop) → Prop
abbrev TA := St → Hp → (List V → Hp → Prop) → Prop
/-- what is wanted behind a statement -/
structure Ends where
  nx : St → Hp → Prop
  rt : VK
  bk : St → Hp → Prop := fun _ _ => False
  ct : St → Hp → Prop := fun _ _ => False
abbrev TS := Ends → St → Hp → Prop

def EP (X : Cx) (pins : List (Addr × Obj)) (σ : St) (Q : VK) (u : Value) (s' : Shared) : Prop := ∃ v H', Inv X pins σ H' s' ∧ RelV v u ∧ Q v H'
def TP (X : Cx) (pins : List (Addr × Obj)) (σ : St) (Q : Bool → Hp → Prop) (b : Bool) (s' : Shared) : Prop := ∃ H', Inv X pins σ H' s' ∧ Q b H'
def AP (X : Cx) (pins : List (Addr × Obj)) (σ : St) (Q : List V → Hp → Prop) (us : List Value) (s' : Shared) : Prop := ∃ vs H', Inv X pins σ H' s' ∧ Vals vs us ∧ Q vs H'
def SP (X : Cx) (pins : List (Addr × Obj)) (D : Ends) (f : Flow) (s' : Shared) : Prop :=
  match f with
  | .next => ∃ σ' H', Inv X pins σ' H' s' ∧ D.nx σ' H'
  | .brk => ∃ σ' H', Inv X pins σ' H' s' ∧ D.bk σ' H'
  | .cont => ∃ σ' H', Inv X pins σ' H' s' ∧ D.ct σ' H'
  | .ret u => ∃ v σ' H', Inv X pins σ' H' s' ∧ RelV v u ∧ D.rt v H'

def PE (X : Cx) (e : Expr) (t : TE) : Prop :=
  ∀ (pins : List (Addr × Obj)) (s : Shared) (σ : St) (H : Hp) (Q : VK), Inv X pins σ H s → t σ H Q → wpAny (model X.prog X.w) X.A (eval e X.env) (EP X pins σ Q) X.xe s
def PT (X : Cx) (e : Expr) (t : TT) : Prop :=
  ∀ (pins : List (Addr × Obj)) (s : Shared) (σ : St) (H : Hp) (Q : Bool → Hp → Prop), Inv X pins σ H s → t σ H Q → wpAny (model X.prog X.w) X.A (isTrue e X.env (eval e X.env)) (TP X pins σ Q) X.xe s
/-- a test whatever its 'whole' is (and, or) -/
def PW (X : Cx) (e : Expr) (t : TT) : Prop :=
  ∀ (whole : Sem Value) (pins : List (Addr × Obj)) (s : Shared) (σ : St) (H : Hp) (Q : Bool → Hp → Prop), Inv X pins σ H s → t σ H Q → wpAny (model X.prog X.w) X.A (isTrue e X.env whole) (TP X pins σ Q) X.xe s
theorem PW.pt {X : Cx} {e : Expr} {t : TT} (h : PW X e t) : PT X e t := h _
/-- an argument list (no star), from the left -/
def PA (X : Cx) (es : List Expr) (t : TA) : Prop :=
  ∀ (pos : Pos) (pins : List (Addr × Obj)) (s : Shared) (σ : St) (H : Hp) (Q : List V → Hp → Prop), Inv X pins σ H s → t σ H Q → wpAny (model X.prog X.w) X.A (spliced (backTo pos (starEach es X.env))) (AP X pins σ Q) X.xe s
def PS (X : Cx) (st : Stmt) (t : TS) : Prop :=
  ∀ (pins : List (Addr × Obj)) (s : Shared) (σ : St) (H : Hp) (D : Ends), Inv X pins σ H s → t D σ H → wpAny (model X.prog X.w) X.A (exec st X.env) (SP X pins D) X.xe s
def PSs (X : Cx) (st : List Stmt) (t : TS) : Prop :=
  ∀ (pins : List (Addr × Obj)) (s : Shared) (σ : St) (H : Hp) (D : Ends), Inv X pins σ H s → t D σ H → wpAny (model X.prog X.w) X.A (execs st X.env) (SP X pins D) X.xe s
/-- weaken the end -/
theorem thn {α : Type} {t : Sem α} {Q Q' : α → Shared → Prop} {M : Model} {A : Around} {E : Value → Shared → Prop} {s : Shared} (h : wpAny M A t Q E s) (hQ : ∀ a s, Q a s → Q' a s) : wpAny M A t Q' E s := wpAny_mono h hQ fun _ _ x => x
end L2

namespace L2
open PySem PySem.Spec PyProof.Rows
section
variable {X : Cx}

/-- two expressions in a row -/
theorem bin {a b : Expr} {ta tb : TE} (ha : PE X a ta) (hb : PE X b tb) {pins : List (Addr × Obj)} {s : Shared} {σ : St} {H : Hp} {R : V → V → Hp → Prop} (I : Inv X pins σ H s) (h : ta σ H fun x H1 => tb σ H1 fun y H2 => R x y H2)
    {α : Type} {Q : α → Shared → Prop} {f : Value → Value → Sem α}
    (hf : ∀ v u s2 x y H2, Inv X pins σ H2 s2 → RelV x v → RelV y u → R x y H2 → wpAny (model X.prog X.w) X.A (f v u) Q X.xe s2) :
    wpAny (model X.prog X.w) X.A (eval a X.env) (fun v s₁ => wpAny (model X.prog X.w) X.A (eval b X.env) (fun u s₂ => wpAny (model X.prog X.w) X.A (f v u) Q X.xe s₂) X.xe s₁) X.xe s := by
  refine thn (ha pins s σ H _ I h) fun v s1 ⟨x, H1, I1, r1, q1⟩ => ?_
  refine thn (hb pins s1 σ H1 _ I1 q1) fun u s2 ⟨y, H2, I2, r2, q2⟩ => ?_
  exact hf v u s2 x y H2 I2 r1 r2 q2

/-! ### names and constants -/
def tVar (i : Nat) : TE := fun σ H Q => ∃ v, σ[i]? = some (some v) ∧ Q v H
def tC (v : V) : TE := fun _ H Q => Q v H
theorem pe_var {i : Nat} {x : Str} {pos : Pos} (hN : X.N[i]? = some x) (hv : Vis X.env.scope x) (hd : (x == ("__debug__" : Str)) = false := by decide) (hcd : (x == ("__classdict__" : Str)) = false := by decide) : PE X (.Name x pos) (tVar i) := by
  intro pins s σ H Q I h
  obtain ⟨v, e, h⟩ := h
  obtain ⟨m, hn, hl⟩ := I.loc
  obtain ⟨u, r, l⟩ := hl i x v hN e hv
  have fin : EP X pins σ Q u s := ⟨v, H, I, r, h⟩
  rcases l with ⟨hk, hm⟩ | ⟨hk, c, hc, hcell⟩
  · exact wpAny_Name (wpAny_loadName_local I.ok.kind hk hn hm fin) hd
  · rcases hk with hk | hk
    · exact wpAny_Name (wpAny_loadName_cell I.ok.kind hk hc hcell fin) hd
    · exact wpAny_Name (wpAny_loadName_free I.ok.kind hk hc hcell fin hcd) hd
theorem pe_int {i j pos} : PE X (.Constant (.int i) j pos) (tC (.int i)) := fun _ _ _ H _ I h => wpAny_Constant_int ⟨.int i, H, I.tok _, ⟨_, rfl⟩, h⟩
theorem pe_bl {b j pos} : PE X (.Constant (.bool b) j pos) (tC (.bl b)) := fun _ _ _ H _ I h => Constant_bool ⟨.bl b, H, I, rfl, h⟩
theorem pe_non {j pos} : PE X (.Constant .none j pos) (tC .non) := fun _ _ _ H _ I h => Constant_none ⟨.non, H, I, rfl, h⟩
theorem pe_str {x j pos} : PE X (.Constant (.str x) j pos) (tC (.str x)) := fun _ _ _ H _ I h => Calls.Constant_str ⟨.str x, H, I.tok _, ⟨_, rfl⟩, h⟩

/-- a global name of the def -/
def Gl (X : Cx) (x : Str) : Prop := X.env.kindOf x = some .globalImplicit
theorem ld_glob {E : Value → Shared → Prop} {pins : List (Addr × Obj)} {s : Shared} {σ : St} {H : Hp} {x : Str} {u : Value} {pos : Pos} {Q : Value → Shared → Prop} (I : Inv X pins σ H s) (hg : Gl X x) (hm : X.mg x = some u) (h : Q u s)
    (hd : (x == ("__debug__" : Str)) = false := by decide) : wpAny (model X.prog X.w) X.A (eval (.Name x pos) X.env) Q E s :=
  Calls.Name_function_global I.ok.kind hg (Calls.loadGlobal_global (by rw [I.ok.glob]; exact I.mod.glob.keeps I.bk) hm h) hd
theorem ld_blt {E : Value → Shared → Prop} {pins : List (Addr × Obj)} {s : Shared} {σ : St} {H : Hp} {x : Str} {u : Value} {pos : Pos} {Q : Value → Shared → Prop} (I : Inv X pins σ H s) (hg : Gl X x) (hm : X.mg x = none) (hv : bootBuiltins x = some u) (h : Q u s)
    (hn : x ≠ "__name__" := by decide) (hd : (x == ("__debug__" : Str)) = false := by decide) : wpAny (model X.prog X.w) X.A (eval (.Name x pos) X.env) Q E s := by
  obtain ⟨mb, h1, h2⟩ := I.mod.blt
  exact Calls.Name_function_global I.ok.kind hg (Calls.loadGlobal_builtin (by rw [I.ok.glob]; exact I.mod.glob.keeps I.bk) hm (by rw [I.ok.blt]; exact h1.keeps I.bk) ((h2 x hn).trans hv) h) hd
/-- a module's constant, a class, a function, as a value -/
theorem pe_glob {x : Str} {v : V} {u : Value} {pos : Pos} (hg : Gl X x) (hm : X.mg x = some u) (r : RelV v u) (hd : (x == ("__debug__" : Str)) = false := by decide) : PE X (.Name x pos) (tC v) :=
  fun _ _ _ H _ I h => ld_glob I hg hm ⟨v, H, I, r, h⟩ hd
theorem pe_bltn {x : Str} {v : V} {u : Value} {pos : Pos} (hg : Gl X x) (hm : X.mg x = none) (hv : bootBuiltins x = some u) (r : RelV v u) (hn : x ≠ "__name__" := by decide) (hd : (x == ("__debug__" : Str)) = false := by decide) : PE X (.Name x pos) (tC v) :=
  fun _ _ _ H _ I h => ld_blt I hg hm hv ⟨v, H, I, r, h⟩ hn hd

/-! ### arithmetic -/
/-- two ints -/
def t2I (ta tb : TE) (k : Int → Int → Hp → Prop) : St → Hp → Prop := fun σ H => ta σ H fun x H1 => tb σ H1 fun y H2 => ∃ i j, x = .int i ∧ y = .int j ∧ k i j H2
def tAdd (ta tb : TE) : TE := fun σ H Q => t2I ta tb (fun i j H2 => Q (.int (i + j)) H2) σ H
def tSub (ta tb : TE) : TE := fun σ H Q => t2I ta tb (fun i j H2 => Q (.int (i - j)) H2) σ H
/-- the left factor below 2^64 -/
def tMul (ta tb : TE) : TE := fun σ H Q => t2I ta tb (fun i j H2 => (-(2 ^ 64) < i ∧ i < 2 ^ 64) ∧ Q (.int (i * j)) H2) σ H
variable {a b : Expr} {ta tb : TE} {pos : Pos}
/-! ### comparisons -/
def PC (X : Cx) (op : CmpOp) (a b : Expr) (t : TE) : Prop :=
  ∀ (pins : List (Addr × Obj)) (s : Shared) (σ : St) (H : Hp) (Q : VK), Inv X pins σ H s → t σ H Q →
    wpAny (model X.prog X.w) X.A (eval a X.env) (fun v s₁ => wpAny (model X.prog X.w) X.A (eval b X.env) (fun u s₂ => wpAny (model X.prog X.w) X.A (compareOp op v u) (EP X pins σ Q) X.xe s₂) X.xe s₁) X.xe s
def tCmp (p : Int → Int → Bool) (ta tb : TE) : TE := fun σ H Q => t2I ta tb (fun i j H2 => Q (.bl (p i j)) H2) σ H
abbrev tLt : TE → TE → TE := tCmp fun i j => decide (i < j)
abbrev tLe : TE → TE → TE := tCmp fun i j => decide (i ≤ j)
abbrev tGt : TE → TE → TE := tCmp fun i j => decide (j < i)
abbrev tGe : TE → TE → TE := tCmp fun i j => decide (j ≤ i)
abbrev tEqI : TE → TE → TE := tCmp fun i j => decide (i = j)
abbrev tNeI : TE → TE → TE := tCmp fun i j => !decide (i = j)
/-- is None -/
def tIsN (ta : TE) : TE := fun σ H Q => ta σ H fun x H1 => Q (.bl (decide (x = .non))) H1
def tNotN (ta : TE) : TE := fun σ H Q => ta σ H fun x H1 => Q (.bl (!decide (x = .non))) H1
/-- a comparison as a value, as a test -/
def tB (t : TE) : TT := fun σ H Q => t σ H fun x H1 => ∃ c, x = .bl c ∧ Q c H1
theorem pt_cmp {op : CmpOp} {t : TE} (h : PC X op a b t) (h1 : behindInMarks op b = false := by first | exact nobehind _ (by decide) (by decide) | rfl) : PT X (.Compare a [op] [b] pos) (tB t) := by
  intro pins s σ H Q I hw
  refine wpAny_isTrue_Compare1 (thn (h pins s σ H _ I hw) fun v s1 h1 => thn h1 fun u s2 h2 => thn h2 fun c s3 ⟨x, H1, I1, r1, q1⟩ => ?_) h1
  obtain ⟨d, rfl, q⟩ := q1
  cases r1
  exact wpAny_truthy_bool ⟨H1, I1, q⟩
/-- an expression whose value is a bool, as a test -/
theorem pt_val {e : Expr} {t : TE} (h : PE X e t) (he : ∀ whole, isTrue e X.env whole = (do let v ← whole; standAt e.pos; holding [v] (truthy v)) := by intro _; rfl) : PT X e (tB t) := by
  intro pins s σ H Q I hw
  refine isTrue_plain (thn (h pins s σ H _ I hw) fun v s1 ⟨x, H1, I1, r1, q1⟩ => ?_) (he _)
  obtain ⟨d, rfl, q⟩ := q1
  cases r1
  exact wpAny_truthy_bool ⟨H1, I1, q⟩

/-! ### and, or, not -/
variable {tA tB' : TT} {rest : List Expr}
def tAnd (t u : TT) : TT := fun σ H Q => t σ H fun c H1 => if c = true then u σ H1 Q else Q false H1
def tOr (t u : TT) : TT := fun σ H Q => t σ H fun c H1 => if c = true then Q true H1 else u σ H1 Q
def tNot (t : TT) : TT := fun σ H Q => t σ H fun c H1 => Q (!c) H1
theorem pw_and1 (ha : PT X a tA) : PW X (.BoolOp .And [a] pos) tA := by
  intro wh pins s σ H Q I h
  refine isTrue_and (thn (ha pins s σ H Q I h) fun c s1 e => ?_)
  cases c with
  | true => exact isTrue_and_nil e
  | false => exact e
theorem pw_or1 (ha : PT X a tA) : PW X (.BoolOp .Or [a] pos) tA := by
  intro wh pins s σ H Q I h
  refine isTrue_or (thn (ha pins s σ H Q I h) fun c s1 e => ?_)
  cases c with
  | false => exact isTrue_or_nil e
  | true => exact e
theorem pw_and (ha : PT X a tA) (hb : PW X (.BoolOp .And (b :: rest) pos) tB') : PW X (.BoolOp .And (a :: b :: rest) pos) (tAnd tA tB') := by
  intro wh pins s σ H Q I h
  refine isTrue_and (thn (ha pins s σ H _ I h) fun c s1 ⟨H1, I1, q1⟩ => ?_)
  cases c with
  | true => exact hb wh pins s1 σ H1 Q I1 q1
  | false => exact ⟨H1, I1, q1⟩
theorem pw_or (ha : PT X a tA) (hb : PW X (.BoolOp .Or (b :: rest) pos) tB') : PW X (.BoolOp .Or (a :: b :: rest) pos) (tOr tA tB') := by
  intro wh pins s σ H Q I h
  refine isTrue_or (thn (ha pins s σ H _ I h) fun c s1 ⟨H1, I1, q1⟩ => ?_)
  cases c with
  | true => exact ⟨H1, I1, q1⟩
  | false => exact hb wh pins s1 σ H1 Q I1 q1
theorem pt_not (ha : PT X a tA) : PT X (.UnaryOp .Not a pos) (tNot tA) := by
  intro pins s σ H Q I h
  exact isTrue_not (ha pins s σ H (fun c H1 => Q (!c) H1) I h)
/-- .. as values (bools) -/
def tAndV (ta tb : TE) : TE := fun σ H Q => ta σ H fun x H1 => ∃ c, x = .bl c ∧ if c = true then tb σ H1 Q else Q (.bl false) H1
def tOrV (ta tb : TE) : TE := fun σ H Q => ta σ H fun x H1 => ∃ c, x = .bl c ∧ if c = true then Q (.bl true) H1 else tb σ H1 Q
def tNotV (ta : TE) : TE := fun σ H Q => ta σ H fun x H1 => ∃ c, x = .bl c ∧ Q (.bl (!c)) H1
theorem pe_one {op} {t : TE} (h : PE X a t) : PE X (.BoolOp op [a] pos) t := fun pins s σ H Q I hw => BoolOp_one (h pins s σ H Q I hw)
theorem pe_and (ha : PE X a ta) (hb : PE X (.BoolOp .And (b :: rest) pos) tb) : PE X (.BoolOp .And (a :: b :: rest) pos) (tAndV ta tb) := by
  intro pins s σ H Q I h
  refine BoolOp_and (thn (ha pins s σ H _ I h) fun v s1 ⟨x, H1, I1, r1, q1⟩ => ?_)
  obtain ⟨c, rfl, q1⟩ := q1
  cases r1
  refine wpAny_truthy_bool ?_
  cases c with
  | true => exact hb pins s1 σ H1 Q I1 q1
  | false => exact ⟨.bl false, H1, I1, rfl, q1⟩
theorem pe_not (ha : PE X a ta) : PE X (.UnaryOp .Not a pos) (tNotV ta) := by
  intro pins s σ H Q I h
  refine UnaryOp_ (thn (ha pins s σ H _ I h) fun v s1 ⟨x, H1, I1, r1, q1⟩ => ?_)
  obtain ⟨c, rfl, q1⟩ := q1
  cases r1
  exact not_of (wpAny_truthy_bool ⟨.bl (!c), H1, I1, rfl, q1⟩)
/-- a if t else b -/
def tIf (t : TT) (ta tb : TE) : TE := fun σ H Q => t σ H fun c H1 => if c = true then ta σ H1 Q else tb σ H1 Q
theorem pe_ifExp {c : Expr} (hc : PT X c tA) (ha : PE X a ta) (hb : PE X b tb) : PE X (.IfExp c a b pos) (tIf tA ta tb) := by
  intro pins s σ H Q I h
  refine wpAny_IfExp (thn (hc pins s σ H _ I h) fun d s1 ⟨H1, I1, q1⟩ => ?_)
  cases d with
  | true => exact ha pins s1 σ H1 Q I1 q1
  | false => exact hb pins s1 σ H1 Q I1 q1
end
end L2

namespace L2
open PySem PySem.Spec PyProof.Rows

/-! ### a list, a tuple that is read: tracked, frozen, or an object of the module -/
def SqL (K : PySem.W.Frag) (H : Hp) (a : Addr) (xs : List V) : Prop :=
  Rd H a (.lst xs) ∨
    ∃ (o : Obj) (its : Array Value) (n : Nat), K.lookup a = some o ∧ o.cls = .type "list" ∧ o.dict = none ∧ o.data = .seq its n ∧ its.size ≤ sizeLine ∧ Vals xs its.toList
def SqT (K : PySem.W.Frag) (H : Hp) (a : Addr) (xs : List V) : Prop :=
  Rd H a (.tup xs) ∨
    ∃ (o : Obj) (its : Array Value) (n : Nat), K.lookup a = some o ∧ o.cls = .type "tuple" ∧ o.data = .seq its n ∧ its.size ≤ sizeLine ∧ Vals xs its.toList
def absV : Value → Option V
  | .none => some .non
  | .bool b => some (.bl b)
  | .int i _ => some (.int i)
  | .str x _ => some (.str x)
  | .bytes b _ => some (.byt b)
  | .float b _ => some (.flt b)
  | .ref a => some (.ref a)
  | .type n => some (.ty n)
  | _ => none
theorem RelV.abs {x : V} {u : Value} (r : RelV x u) : absV u = some x := by
  cases x with
  | non => cases r; rfl
  | bl _ => cases r; rfl
  | int _ => obtain ⟨t, rfl⟩ := r; rfl
  | str _ => obtain ⟨t, rfl⟩ := r; rfl
  | byt _ => obtain ⟨t, rfl⟩ := r; rfl
  | flt _ => obtain ⟨t, rfl⟩ := r; rfl
  | ref _ => cases r; rfl
  | ty _ => cases r; rfl
theorem RelV.inj {x y : V} {u : Value} (r : RelV x u) (q : RelV y u) : x = y := Option.some.inj (r.abs.symm.trans q.abs)
theorem Vals.inj : ∀ {xs ys : List V} {us : List Value}, Vals xs us → Vals ys us → xs = ys
  | _, _, _, .nil, .nil => rfl
  | _, _, _, .cons r t, .cons r' t' => by rw [r.inj r', Vals.inj t t']
section
variable {X : Cx} {pins : List (Addr × Obj)} {σ : St} {H : Hp} {s : Shared} {a : Addr} {xs ys : List V}
theorem SqL.of {K : PySem.W.Frag} (h : H a = some (.lst xs)) : SqL K H a xs := .inl (.inl h)
theorem SqT.of {K : PySem.W.Frag} (h : H a = some (.tup xs)) : SqT K H a xs := .inl (.inl h)
theorem Inv.list (I : Inv X pins σ H s) (h : SqL X.K H a xs) : ∃ its : List Value, Vals xs its ∧ PlainL s.heap a its.toArray ∧ xs.length ≤ sizeLine := by
  rcases h with h | ⟨o, its, n, hk, hc, hd, hs, hz, r⟩
  · obtain ⟨z, its, n, r, e⟩ := h.ok I.hok
    exact ⟨its, r, ⟨_, n, e, rfl, rfl, rfl⟩, z⟩
  · refine ⟨its.toList, r, ⟨o, n, I.kIn a o hk, hc, hd, by simpa using hs⟩, ?_⟩
    have e := r.length
    simp only [Array.length_toList] at e
    omega
theorem Inv.tuple (I : Inv X pins σ H s) (h : SqT X.K H a xs) : ∃ its : List Value, Vals xs its ∧ IsTup s.heap a its.toArray ∧ xs.length ≤ sizeLine := by
  rcases h with h | ⟨o, its, n, hk, hc, hs, hz, r⟩
  · obtain ⟨z, its, r, p⟩ := h.ok I.hok
    exact ⟨its, r, p, z⟩
  · refine ⟨its.toList, r, ⟨o, I.kIn a o hk, hc, n, by simpa using hs⟩, ?_⟩
    have e := r.length
    simp only [Array.length_toList] at e
    omega
theorem Inv.list_inj (I : Inv X pins σ H s) (h : SqL X.K H a xs) (h' : SqL X.K H a ys) : xs = ys := by
  obtain ⟨its, r, ⟨o, n, e, _, _, d⟩, _⟩ := I.list h
  obtain ⟨its', r', ⟨o', n', e', _, _, d'⟩, _⟩ := I.list h'
  rw [e] at e'; cases e'
  rw [d] at d'
  injection d' with d1 _
  have : its = its' := by simpa using congrArg Array.toList d1
  subst this
  exact r.inj r'
end

/-! ### another wish about exceptions -/
abbrev Cx.wish (X : Cx) (E : Value → Shared → Prop) : Cx := { X with xe := E }
/-- no exception leaves -/
abbrev Cx.nox (X : Cx) : Cx := X.wish fun _ _ => False
theorem Cx.Ok.wish {X : Cx} (ok : X.Ok) (E : Value → Shared → Prop) : (X.wish E).Ok :=
  ⟨ok.mod, ok.kind, ok.glob, ok.blt, ok.above, ok.inj, ok.has, ok.cab, ok.hd, ok.frames, ok.stk, ok.exf, ok.bs, ok.bsz, ok.noex, ok.exfs, ok.funs, ok.frf⟩
theorem Cx.Ok.unwish {X : Cx} {E : Value → Shared → Prop} (ok : (X.wish E).Ok) : X.Ok :=
  ⟨ok.mod, ok.kind, ok.glob, ok.blt, ok.above, ok.inj, ok.has, ok.cab, ok.hd, ok.frames, ok.stk, ok.exf, ok.bs, ok.bsz, ok.noex, ok.exfs, ok.funs, ok.frf⟩
section
variable {X : Cx} {pins : List (Addr × Obj)} {σ : St} {H : Hp} {s : Shared} {E : Value → Shared → Prop}
theorem Inv.wish (I : Inv X pins σ H s) (E : Value → Shared → Prop) : Inv (X.wish E) pins σ H s := ⟨I.ok.wish E, I.os, I.bare, I.base, I.loc, I.cell, I.free, I.freeC, I.pin, I.hok, I.len⟩
theorem Inv.unwish (I : Inv (X.wish E) pins σ H s) : Inv X pins σ H s := ⟨I.ok.unwish, I.os, I.bare, I.base, I.loc, I.cell, I.free, I.freeC, I.pin, I.hok, I.len⟩
theorem SP.unwish {D : Ends} {f : Flow} {s' : Shared} (h : SP (X.wish E) pins D f s') : SP X pins D f s' := by
  cases f with
  | next => obtain ⟨σ', H', I, q⟩ := h; exact ⟨σ', H', I.unwish, q⟩
  | brk => obtain ⟨σ', H', I, q⟩ := h; exact ⟨σ', H', I.unwish, q⟩
  | cont => obtain ⟨σ', H', I, q⟩ := h; exact ⟨σ', H', I.unwish, q⟩
  | ret u => obtain ⟨v, σ', H', I, r, q⟩ := h; exact ⟨v, σ', H', I.unwish, r, q⟩
theorem PSs.nox {st : List Stmt} {t : TS} (h : PSs X.nox st t) : PSs X st t := fun pins s σ H D I hw =>
  wpAny_mono (h pins s σ H D (I.wish _) hw) (fun _ _ q => q.unwish) fun _ _ z => False.elim z
end

/-! ### blocks and small statements -/
section
variable {X : Cx} {st : Stmt} {rest : List Stmt} {t u : TS} {e : Expr} {te : TE} {pos : Pos}
def tNext : TS := fun D σ H => D.nx σ H
def tSeq (t u : TS) : TS := fun D σ H => t { D with nx := u D } σ H
theorem pss_nil : PSs X [] tNext := fun _ _ σ H _ I h => wpAny_execs_nil ⟨σ, H, I, h⟩
theorem pss_cons (h1 : PS X st t) (h2 : PSs X rest u) : PSs X (st :: rest) (tSeq t u) := by
  intro pins s σ H D I h
  refine wpAny_execs_cons (thn (h1 pins s σ H { D with nx := u D } I h) fun f s1 q => ?_)
  cases f with
  | next =>
    obtain ⟨σ', H', I', q⟩ := q
    exact h2 pins s1 σ' H' D I' q
  | ret v => exact q
  | brk => exact q
  | cont => exact q
theorem pss_one (h1 : PS X st t) : PSs X [st] t := by
  intro pins s σ H D I h
  refine wpAny_execs_cons (thn (h1 pins s σ H D I h) fun f s1 q => ?_)
  cases f with
  | next => exact wpAny_execs_nil q
  | ret v => exact q
  | brk => exact q
  | cont => exact q
def tBreak : TS := fun D σ H => D.bk σ H
def tCont : TS := fun D σ H => D.ct σ H
/-- in a def's body nothing is shown -/
theorem Inv.quiet {pins : List (Addr × Obj)} {σ : St} {H : Hp} {s : Shared} (I : Inv X pins σ H s) : interactive X.env = false := by simp [interactive, I.ok.kind]
/-- an expression whose value is dropped -/
def tDrop (te : TE) : TS := fun D σ H => te σ H fun _ H1 => D.nx σ H1
theorem ps_expr (he : PE X e te) (hs : swapsWith e none pos.line X.env = pure false := by rfl) : PS X (.Expr e pos) (tDrop te) := by
  intro pins s σ H D I h
  exact wpAny_Expr_any (thn (he pins s σ H _ I h) fun v s1 ⟨x, H1, I1, r1, q1⟩ => ⟨σ, H1, I1, q1⟩) I.quiet hs
def tRet (te : TE) : TS := fun D σ H => te σ H D.rt
theorem ps_ret (he : PE X e te) : PS X (.Return (some e) pos) (tRet te) := by
  intro pins s σ H D I h
  exact wpAny_Return_some (thn (he pins s σ H _ I h) fun v s1 ⟨x, H1, I1, r1, q1⟩ => ⟨x, σ, H1, I1, r1, q1⟩)
def tRetN : TS := fun D _ H => D.rt .non H
def tIfS (c : TT) (t u : TS) : TS := fun D σ H => c σ H fun b H1 => if b = true then t D σ H1 else u D σ H1
theorem ps_if {c : Expr} {a b : List Stmt} {tc : TT} (hc : PT X c tc) (ha : PSs X a t) (hb : PSs X b u) : PS X (.If c a b pos) (tIfS tc t u) := by
  intro pins s σ H D I h
  refine wpAny_If (thn (hc pins s σ H _ I h) fun d s1 ⟨H1, I1, q1⟩ => ?_)
  cases d with
  | true => exact ha pins s1 σ H1 D I1 q1
  | false => exact hb pins s1 σ H1 D I1 q1
/-- code that the proof never comes to -/
def tNever : TS := fun _ _ _ => False
theorem pss_never {sts : List Stmt} : PSs X sts tNever := fun _ _ _ _ _ _ h => h.elim
end

/-! ### targets -/
abbrev TG := V → St → Hp → (St → Hp → Prop) → Prop
abbrev TGs := List V → St → Hp → (St → Hp → Prop) → Prop
def PG (X : Cx) (target : Expr) (t : TG) : Prop :=
  ∀ (pins : List (Addr × Obj)) (s : Shared) (σ : St) (H : Hp) (v : V) (u : Value) (Q : St → Hp → Prop), Inv X pins σ H s → RelV v u → t v σ H Q →
    wpAny (model X.prog X.w) X.A (assign target X.env u) (fun _ s' => ∃ σ' H', Inv X pins σ' H' s' ∧ Q σ' H') X.xe s
/-- several targets, one after another -/
def PGs (X : Cx) (ts : List Expr) (t : TGs) : Prop :=
  ∀ (pins : List (Addr × Obj)) (s : Shared) (σ : St) (H : Hp) (vs : List V) (us : List Value) (Q : St → Hp → Prop), Inv X pins σ H s → Vals vs us → t vs σ H Q →
    wpAny (model X.prog X.w) X.A (assignInOrder ((assignEach ts X.env).map (·.2)) us) (fun _ s' => ∃ σ' H', Inv X pins σ' H' s' ∧ Q σ' H') X.xe s
/-- o[i] = v, by values -/
abbrev TSet := V → V → V → Hp → (Hp → Prop) → Prop
def PSet (X : Cx) (t : TSet) : Prop :=
  ∀ (pins : List (Addr × Obj)) (s : Shared) (σ : St) (H : Hp) (o i v : V) (ov iv u : Value) (Q : Hp → Prop), Inv X pins σ H s → RelV o ov → RelV i iv → RelV v u → t o i v H Q →
    wpAny (model X.prog X.w) X.A (setItem ov iv u) (fun _ s' => ∃ H', Inv X pins σ H' s' ∧ Q H') X.xe s
/-- a op= b, by values -/
abbrev TIp := V → V → Hp → VK → Prop
def PIp (X : Cx) (op : Operator) (t : TIp) : Prop :=
  ∀ (pins : List (Addr × Obj)) (s : Shared) (σ : St) (H : Hp) (x y : V) (v u : Value) (Q : VK), Inv X pins σ H s → RelV x v → RelV y u → t x y H Q →
    wpAny (model X.prog X.w) X.A (inplaceOp op v u) (EP X pins σ Q) X.xe s
section
variable {X : Cx} {pos : Pos}
def gName (i : Nat) : TG := fun v σ H Q => Q (σ.set i (some v)) H
theorem pg_name {i : Nat} {x : Str} (hN : X.N.Nodup) (hi : X.N[i]? = some x) (hx : Loc X.env.scope x) (hf : X.fn x = true ∨ X.env.scope.names.lookup x = some .local := by first | exact .inl rfl | exact .inr rfl | assumption) : PG X (.Name x pos) (gName i) := by
  intro pins s σ H v u Q I r h
  exact wpAny_assign_Name (store_ok I hN hi hx r (fun s' I' => ⟨_, H, I', h⟩) hf)
def gNil : TGs := fun vs σ H Q => vs = [] ∧ Q σ H
def gCons (t : TG) (u : TGs) : TGs := fun vs σ H Q => ∃ v r, vs = v :: r ∧ t v σ H fun σ' H' => u r σ' H' Q
theorem pgs_nil : PGs X [] gNil := by
  intro pins s σ H vs us Q I r h
  obtain ⟨e, h⟩ := h
  subst e
  cases r
  exact assignInOrder_nil ⟨σ, H, I, h⟩
theorem pgs_cons {e : Expr} {es : List Expr} {t : TG} {u : TGs} (h1 : PG X e t) (h2 : PGs X es u)
    (hs : (assignEach (e :: es) X.env).map (·.2) = assign e X.env :: (assignEach es X.env).map (·.2) := by rfl) : PGs X (e :: es) (gCons t u) := by
  intro pins s σ H vs us Q I r h
  obtain ⟨v, vr, e1, h⟩ := h
  subst e1
  cases r with
  | cons r rr =>
    rw [hs]
    refine assignInOrder_cons (thn (h1 pins s σ H _ _ _ I r h) fun _ s1 ⟨σ1, H1, I1, q1⟩ => ?_)
    exact h2 pins s1 σ1 H1 _ _ Q I1 rr q1
/-- (a, b, ..) = a tuple of that length -/
def gTup (K : PySem.W.Frag) (n : Nat) (t : TGs) : TG := fun v σ H Q => ∃ a xs, v = .ref a ∧ SqT K H a xs ∧ xs.length = n ∧ t xs σ H Q
theorem pg_tup {es : List Expr} {k : Nat} {t : TGs} {n : Nat} (hc : X.calm = true) (h : PGs X es t)
    (hn : (assignEach es X.env).length = n := by rfl) (hst : (assignEach es X.env).findIdx? (·.1) = none := by rfl) : PG X (.Tuple es k pos) (gTup X.K n t) := by
  intro pins s σ H v u Q I r hw
  obtain ⟨a, xs, e1, hq, hl, hw⟩ := hw
  subst e1
  cases r
  obtain ⟨its, rv, ht, hz⟩ := I.tuple hq
  refine assign_Tuple_tuple (I.ok.hd hc) ht (by simp [hn, ← hl, rv.length]) hst fun h' hx => ?_
  have I1 : Inv X pins σ H { s with heap := h' } := I.kept (t' := s.toks) fun b o e => hx b o (Nat.ne_of_lt (Heap.lt_size e)) e
  exact h pins _ σ H xs _ Q I1 (by simpa using rv) hw
/-- o[i] = .. -/
def gSub (to ti : TE) (t : TSet) : TG := fun v σ H Q => to σ H fun o H1 => ti σ H1 fun i H2 => t o i v H2 fun H3 => Q σ H3
theorem pg_sub {o i : Expr} {to ti : TE} {t : TSet} (ho : PE X o to) (hi : PE X i ti) (hs : PSet X t)
    (ha : ∀ v, assign (.Subscript o i pos) X.env v = (do
      let ov ← holding [v] (eval o X.env)
      let iv ← holding [v, ov] (eval i X.env)
      standAt pos
      holding [v, ov, iv] (setItem ov iv v)
      release [v, ov, iv] []) := by intro _; rfl) : PG X (.Subscript o i pos) (gSub to ti t) := by
  intro pins s σ H v u Q I r h
  rw [ha]
  refine wpAny_bind (wpAny_holding (thn (ho pins s σ H _ I h) fun ov s1 ⟨x, H1, I1, r1, q1⟩ => ?_))
  refine wpAny_bind (wpAny_holding (thn (hi pins s1 σ H1 _ I1 q1) fun iv s2 ⟨y, H2, I2, r2, q2⟩ => ?_))
  refine wpAny_bind (wpAny_standAt (wpAny_bind (wpAny_holding (thn (hs pins s2 σ H2 x y v ov iv u _ I2 r1 r2 r q2) fun _ s3 ⟨H3, I3, q3⟩ => ?_))))
  exact wpAny_release ⟨σ, H3, I3, q3⟩
/-- target = value -/
def tAsg (te : TE) (g : TG) : TS := fun D σ H => te σ H fun x H1 => g x σ H1 D.nx
theorem ps_asg {tg e : Expr} {te : TE} {g : TG} (he : PE X e te) (hg : PG X tg g) (hs : swapsWithSole [tg] e pos.line X.env = pure false := by rfl) (hw : swappedStores [tg] e X.env = pure none := by rfl)
    (h1 : (assignEach [tg] X.env).map (·.2) = [assign tg X.env] := by rfl) : PS X (.Assign [tg] e pos) (tAsg te g) := by
  intro pins s σ H D I h
  refine wpAny_Assign_stores (thn (he pins s σ H _ I h) fun v s1 ⟨x, H1, I1, r1, q1⟩ => ?_) hs hw
  rw [h1]
  exact thn (hg pins s1 σ H1 x v _ I1 r1 q1) fun _ s2 q => q
/-- name = value -/
theorem ps_set {i : Nat} {x : Str} {e : Expr} {te : TE} {pos' : Pos} (hN : X.N.Nodup) (hi : X.N[i]? = some x) (hx : Loc X.env.scope x) (he : PE X e te) (hs : swapsWith e (some (.Name x pos')) pos.line X.env = pure false := by rfl) (hf : X.fn x = true ∨ X.env.scope.names.lookup x = some .local := by first | exact .inl rfl | exact .inr rfl | assumption) :
    PS X (.Assign [.Name x pos'] e pos) (tAsg te (gName i)) := by
  intro pins s σ H D I h
  refine wpAny_Assign_Name (thn (he pins s σ H _ I h) fun v s1 ⟨y, H1, I1, r1, q1⟩ => ?_) hs
  exact store_ok I1 hN hi hx r1 (fun s2 I2 => ⟨_, H1, I2, q1⟩) hf
/-- a, b = x, y with plain local names: stored from the right; the pair itself is not tracked (the opening rows as in PyProof/Rows/TupAssign.lean:23) -/
def tPar (i j : Nat) (ta : TA) : TS := fun D σ H => ta σ H fun vs H1 => ∃ v w, vs = [v, w] ∧ D.nx ((σ.set i (some v)).set j (some w)) H1
/-- name op= e -/
def tAug (i : Nat) (te : TE) (ti : TIp) : TS := fun D σ H => ∃ x, σ[i]? = some (some x) ∧ te σ H fun y H1 => ti x y H1 fun z H2 => D.nx (σ.set i (some z)) H2
/-- o[i] op= e -/
def tAugS (to ti te : TE) (tget : V → V → Hp → VK → Prop) (tip : TIp) (tset : TSet) : TS := fun D σ H => to σ H fun o H1 => ti σ H1 fun i H2 => tget o i H2 fun x H3 => te σ H3 fun y H4 => tip x y H4 fun z H5 => tset o i z H5 fun H6 => D.nx σ H6
/-- o[i], by values -/
def PGet (X : Cx) (t : V → V → Hp → VK → Prop) : Prop :=
  ∀ (pins : List (Addr × Obj)) (s : Shared) (σ : St) (H : Hp) (o i : V) (ov iv : Value) (Q : VK), Inv X pins σ H s → RelV o ov → RelV i iv → t o i H Q →
    wpAny (model X.prog X.w) X.A (getItem ov iv) (EP X pins σ Q) X.xe s
/-- ints -/
def ipI (f : Int → Int → Int) : TIp := fun x y H Q => ∃ i j, x = .int i ∧ y = .int j ∧ Q (.int (f i j)) H
end

/-! ### while -/
section
variable {X : Cx} {pos : Pos}
/-- the invariant W with its measure -/
def tWhile (c : TT) (tb : TS) : TS := fun D σ H => ∃ W : Nat → St → Hp → Prop, (∃ m, W m σ H) ∧ ∀ m σ H, W m σ H →
  c σ H fun b H1 => if b = true then ∃ N : St → Hp → Prop, (∀ σ' H', N σ' H' → ∃ m', m' < m ∧ W m' σ' H') ∧ tb { D with nx := N, ct := N, bk := D.nx } σ H1 else D.nx σ H1
theorem ps_while {c : Expr} {body : List Stmt} {tc : TT} {tb : TS} (hp : PassesOwn (model X.prog X.w) X.A X.env X.xe) (hc : PT X c tc) (hb : PSs X body tb) : PS X (.While c body [] pos) (tWhile tc tb) := by
  intro pins s σ H D I h
  obtain ⟨W, ⟨m0, w0⟩, turn⟩ := h
  refine wpAny_While (codeAny_whileLoop (fun n s' => ∃ σ' H', Inv X pins σ' H' s' ∧ W n σ' H') ?_ m0 ⟨σ, H, I, w0⟩)
  rintro n s1 ⟨σ1, H1, I1, w1⟩
  refine wpAny_passesOwn hp (thn (hc pins s1 σ1 H1 _ I1 (turn n σ1 H1 w1)) fun b s2 ⟨H2, I2, q2⟩ => ?_)
  cases b with
  | true =>
    obtain ⟨N, hN, q2⟩ := q2
    rw [if_pos rfl]
    refine wpAny_passesOwn hp (thn (hb pins s2 σ1 H2 _ I2 q2) fun f s3 q3 => ?_)
    cases f with
    | next =>
      obtain ⟨σ3, H3, I3, n3⟩ := q3
      obtain ⟨m', hm, w3⟩ := hN σ3 H3 n3
      exact ⟨m', hm, σ3, H3, I3, w3⟩
    | cont =>
      obtain ⟨σ3, H3, I3, n3⟩ := q3
      obtain ⟨m', hm, w3⟩ := hN σ3 H3 n3
      exact ⟨m', hm, σ3, H3, I3, w3⟩
    | brk => exact q3
    | ret v => exact q3
  | false =>
    rw [if_neg Bool.false_ne_true]
    exact wpAny_execs_nil ⟨σ1, H2, I2, q2⟩
end

/-! ### what a loop or a comprehension walks -/
/-- at turn i: it yields x (the heap may grow), or it stops -/
structure It where
  go : Nat → Hp → Prop
  yld : Nat → Hp → V → Hp → Prop
  stop : Nat → Hp → Prop
/-- the iterator's own objects may turn: they are not the frame's, not pinned, younger than the entry (or a comprehension's own) -/
def FpOk (X : Cx) (pins : List (Addr × Obj)) (H : Hp) (b : Addr) : Prop :=
  H b = none ∧ b ≠ X.env.locals ∧ b ∉ X.fs ∧ (b ∈ X.ex ∨ X.s₀.heap.objs.size ≤ b) ∧ (∀ x c, X.env.cells.lookup x = some c → c ≠ b) ∧ ∀ p ∈ X.pn ++ pins, p.1 ≠ b
theorem Inv.fpOk {X : Cx} {pins : List (Addr × Obj)} {σ : St} {H H' : Hp} {s : Shared} {b : Addr} (I : Inv X pins σ H s) (hb : s.heap.objs.size ≤ b) (hn : H' b = none) : FpOk X pins H' b := by
  refine ⟨hn, Nat.ne_of_gt (Nat.lt_of_lt_of_le I.lt hb), I.nofs hb, .inr (Nat.le_trans I.sz hb), fun x c e z => ?_, fun p hp z => ?_⟩
  · obtain ⟨v, q⟩ := I.cell x c e
    exact absurd (Nat.lt_of_lt_of_le q.lt (by rw [z]; exact hb)) (Nat.lt_irrefl _)
  · exact absurd (Nat.lt_of_lt_of_le (Heap.lt_size (I.pin p hp).1) (by rw [z]; exact hb)) (Nat.lt_irrefl _)
structure Turn (P : Program) (w : World) (K : PySem.W.Frag) (tg : Expr) (J : It) (fp : List Addr) (it : Addr) (tn : Nat → Heap → Prop) : Prop where
  mem : it ∈ fp
  obj : ∀ i h, tn i h → ∀ b ∈ fp, ∃ o, h.get? b = some o ∧ ∀ v, o.data ≠ .cell v
  keep : ∀ i h h', tn i h → (∀ b ∈ fp, ∀ o, h.get? b = some o → h'.get? b = some o) → tn i h'
  item : ∀ (X : Cx), X.prog = P → X.w = w → X.K = K → X.calm = true → ∀ (i : Nat) (pins : List (Addr × Obj)) (s : Shared) (σ : St) (H : Hp) (E : Value → Shared → Prop), Inv X pins σ H s → (∀ b ∈ fp, FpOk X pins H b) → tn i s.heap → J.go i H →
    wpAny (model P w) X.A (pyNext (.ref it)) (fun r s1 => ∃ u, r = some u ∧
      wpAny (model P w) X.A (letOwnedTupleGo tg (.ref it) u) (fun _ s2 => ∃ x H', Inv X pins σ H' s2 ∧ RelV x u ∧ J.yld i H x H' ∧ tn (i + 1) s2.heap ∧ ∀ b ∈ fp, H' b = none) E s1) E s
  done : ∀ (X : Cx), X.prog = P → X.w = w → X.K = K → X.calm = true → ∀ (i : Nat) (pins : List (Addr × Obj)) (s : Shared) (σ : St) (H : Hp) (E : Value → Shared → Prop), Inv X pins σ H s → (∀ b ∈ fp, FpOk X pins H b) → tn i s.heap → J.stop i H →
    wpAny (model P w) X.A (pyNext (.ref it)) (fun r s1 => r = none ∧ Inv X pins σ H s1) E s
  self : ∀ (A : Around) (i : Nat) (s : Shared) (Q : Value → Shared → Prop) (E : Value → Shared → Prop), tn i s.heap → Q (.ref it) s → wpAny (model P w) A (pyIter (.ref it)) Q E s
abbrev TI := St → Hp → (It → Hp → Prop) → Prop
/-- an iterator has come -/
def PIE (X : Cx) (pins : List (Addr × Obj)) (σ : St) (tg : Expr) (R : It → Hp → Prop) (itv : Value) (s2 : Shared) : Prop :=
  ∃ (it : Addr) (fp : List Addr) (tn : Nat → Heap → Prop) (J : It) (H' : Hp), itv = .ref it ∧ Inv X pins σ H' s2 ∧ Turn X.prog X.w X.K tg J fp it tn ∧ tn 0 s2.heap ∧ (∀ b ∈ fp, FpOk X pins H' b) ∧ R J H'
def PI (X : Cx) (tg iter : Expr) (wi : TI) : Prop :=
  ∀ (pins : List (Addr × Obj)) (s : Shared) (σ : St) (H : Hp) (R : It → Hp → Prop), Inv X pins σ H s → wi σ H R →
    wpAny (model X.prog X.w) X.A (eval iter X.env) (fun v s1 => wpAny (model X.prog X.w) X.A (pyIter v) (PIE X pins σ tg R) X.xe s1) X.xe s

/-- the step ahead of the store is nothing for an iterator that keeps no tuple -/
theorem go_of {M : Model} {A : Around} {E : Value → Shared → Prop} {s : Shared} {tg : Expr} {it : Addr} {u : Value} {o : Obj} {n : String} {vs : Array Value} {Q : Unit → Shared → Prop} (ho : s.heap.get? it = some o) (hc : o.cls = .type n) (hd : o.data = .fields vs)
    (hn : ["enumerate", "zip", "dict_itemiterator", "dict_reverseitemiterator", "odict_iterator", "itertools.zip_longest", "itertools.pairwise"].contains n = false) (hQ : Q () s) : wpAny M A (letOwnedTupleGo tg (.ref it) u) Q E s := by
  unfold letOwnedTupleGo
  cases tg <;> first
    | exact wpAny_pure hQ
    | (cases u <;> first
        | exact wpAny_pure hQ
        | (refine wpAny_bind (wpAny_load ho ?_)
           rw [hc, hd]
           show wpAny M A (if (["enumerate", "zip", "dict_itemiterator", "dict_reverseitemiterator", "odict_iterator", "itertools.zip_longest", "itertools.pairwise"].contains n && vs[0]? == some (rawInt _)) = true then _ else _) Q E s
           rw [if_neg (by intro h; rw [hn, Bool.false_and] at h; cases h)]
           exact wpAny_pure hQ))

/-- the list at a, as it stands at each turn (a loop may append to it) -/
def Itl (K : PySem.W.Frag) (a : Addr) : It :=
  ⟨fun i H => ∃ xs x, SqL K H a xs ∧ xs[i]? = some x, fun i H x H' => H' = H ∧ ∀ xs, SqL K H a xs → xs[i]? = some x, fun i H => ∃ xs, SqL K H a xs ∧ xs.length ≤ i⟩
def Itt (K : PySem.W.Frag) (a : Addr) : It :=
  ⟨fun i H => ∃ xs x, SqT K H a xs ∧ xs[i]? = some x, fun i H x H' => H' = H ∧ ∀ xs, SqT K H a xs → xs[i]? = some x, fun i H => ∃ xs, SqT K H a xs ∧ xs.length ≤ i⟩
/-- lo, lo + 1, .. (n of them) -/
def Itr (lo : Int) (n : Nat) : It := ⟨fun i _ => i < n, fun i H x H' => H' = H ∧ x = .int (lo + i), fun i _ => n ≤ i⟩
theorem turn_list {P : Program} {w : World} {K : PySem.W.Frag} {tg : Expr} (a it : Addr) : Turn P w K tg (Itl K a) [it] it (fun i h => h.IsListIter it a i) where
  mem := by simp
  obj := fun i h st b hb => by
    have e : b = it := by simpa using hb
    subst e
    obtain ⟨o, e, c, d⟩ := st
    exact ⟨o, e, fun v z => by rw [d] at z; cases z⟩
  keep := fun i h h' st k => st.at fun o e => k it (by simp) o e
  item := by
    intro X hP hw hK hc i pins s σ H E I hf st hg
    subst hP hw hK
    obtain ⟨xs, x, hq, hx⟩ := hg
    obtain ⟨its, rv, p, hz⟩ := I.list hq
    obtain ⟨u, hu, ru⟩ := rv.get hx
    obtain ⟨f0, f1, f2, f3, f4, f5⟩ := hf it (by simp)
    refine wpAny_pyNext_list_item st p.isList (x := u) (by simpa using hu) fun h' st' sb => ?_
    have I1 : Inv X pins σ H { s with heap := h' } := I.turned (t' := s.toks) (fun b o hb e => (sb.2 b hb).trans e) f0 f1 f3 f4 f5
    obtain ⟨o, e, c, d⟩ := id st'
    exact ⟨u, rfl, go_of (s := { s with heap := h' }) e c d (by decide) ⟨x, H, I1, ru, ⟨rfl, fun ys hy => by rw [I.list_inj hy hq]; exact hx⟩, st', fun b hb => (hf b hb).1⟩⟩
  done := by
    intro X hP hw hK hc i pins s σ H E I hf st hg
    subst hP hw hK
    obtain ⟨xs, hq, hx⟩ := hg
    obtain ⟨its, rv, p, hz⟩ := I.list hq
    obtain ⟨f0, f1, f2, f3, f4, f5⟩ := hf it (by simp)
    have hl := rv.length
    exact wpAny_pyNext_list_end (I.ok.hd hc) st p.isList (by simp; omega) fun h' eb => ⟨rfl, I.turned (t' := s.toks) (fun b o hb e => eb b o hb e) f0 f1 f3 f4 f5⟩
  self := fun _ _ _ _ _ st h => wpAny_pyIter_listiter st h
theorem turn_range {P : Program} {w : World} {K : PySem.W.Frag} {tg : Expr} (it : Addr) (lo : Int) (n : Nat) : Turn P w K tg (Itr lo n) [it] it (fun i h => IsRangeIter h it (lo + (i : Nat) * 1) ((n : Int) - (i : Nat)) 1) where
  mem := by simp
  obj := fun i h st b hb => by
    have e : b = it := by simpa using hb
    subst e
    exact ⟨_, st, fun v z => by
      have z' : Data.fields _ = Data.cell v := z
      cases z'⟩
  keep := fun i h h' st k => k it (by simp) _ st
  item := by
    intro X hP hw hK hc i pins s σ H E I hf st hg
    subst hP hw hK
    obtain ⟨f0, f1, f2, f3, f4, f5⟩ := hf it (by simp)
    have W := Walks.range (prog := X.prog) (w := X.w) (I.ok.hd hc) it lo 1 n
    refine W.item i s _ _ hg st fun v h' tk hv st' kk => ?_
    obtain ⟨t, rfl⟩ := hv
    have I1 : Inv X pins σ H { s with heap := h', toks := tk } := I.turned (fun b o hb e => kk b o (by simpa using hb) e) f0 f1 f3 f4 f5
    refine ⟨_, rfl, go_of (s := { s with heap := h', toks := tk }) (n := "range_iterator") st' rfl rfl (by decide) ⟨.int (lo + i), H, I1, ⟨t, ?_⟩, ⟨rfl, rfl⟩, st', fun b hb => (hf b hb).1⟩⟩
    rw [Int.mul_one]
  done := by
    intro X hP hw hK hc i pins s σ H E I hf st hg
    subst hP hw hK
    obtain ⟨f0, f1, f2, f3, f4, f5⟩ := hf it (by simp)
    exact wpAny_pyNext_range_end (I.ok.hd hc) st (by have : n ≤ i := hg; omega) fun h' eb => ⟨rfl, I.turned (t' := s.toks) (fun b o hb e => eb b o hb e) f0 f1 f3 f4 f5⟩
  self := fun _ _ _ _ _ st h => wpAny_pyIter_rangeiter st h
end L2

namespace L2
open PySem PySem.Spec PyProof.Rows
section
variable {X : Cx} {tg : Expr}
def iList (K : PySem.W.Frag) (tl : TE) : TI := fun σ H R => tl σ H fun x H1 => ∃ a, x = .ref a ∧ (∃ xs, SqL K H1 a xs) ∧ R (Itl K a) H1
def iTup (K : PySem.W.Frag) (tl : TE) : TI := fun σ H R => tl σ H fun x H1 => ∃ a, x = .ref a ∧ (∃ xs, SqT K H1 a xs) ∧ R (Itt K a) H1
theorem pi_list {l : Expr} {tl : TE} (hl : PE X l tl) : PI X tg l (iList X.K tl) := by
  intro pins s σ H R I h
  refine thn (hl pins s σ H _ I h) fun v s1 ⟨x, H1, I1, r1, q1⟩ => ?_
  obtain ⟨a, e, ⟨xs, hq⟩, q⟩ := q1
  subst e
  cases r1
  obtain ⟨its, rv, p, hz⟩ := I1.list hq
  refine wpAny_pyIter_list p.isList ?_
  refine ⟨s1.heap.objs.size, [s1.heap.objs.size], _, _, H1, rfl, I1.kept (t' := s1.toks) fun b o e => Heap.get?_push_of_some _ e, turn_list a _, ⟨_, Heap.get?_push_size _ rfl, rfl, rfl⟩, fun b hb => ?_, q⟩
  have e : b = s1.heap.objs.size := by simpa using hb
  subst e
  exact I1.fpOk (Nat.le_refl _) (I1.hok.fresh (Nat.le_refl _))
/-- a range object just made, walked -/
theorem range_it {pins : List (Addr × Obj)} {σ : St} {H : Hp} {s : Shared} {R : It → Hp → Prop} {E : Value → Shared → Prop} {lo hi : Int} {t u v : Tok} {tk : Nat} (I : Inv X pins σ H s) (h1 : -(2 ^ 62) ≤ lo) (h2 : lo < 2 ^ 62) (h3 : -(2 ^ 62) ≤ hi) (h4 : hi < 2 ^ 62)
    (q : R (Itr lo (hi - lo).toNat) H) : wpAny (model X.prog X.w) X.A (pyIter (.ref s.heap.objs.size)) (PIE X pins σ tg R) E { s with heap := s.heap.push { cls := .type "range", data := .fields #[.int lo t, .int hi u, .int 1 v] }, toks := tk } := by
  refine wpAny_pyIter_range (IsRange.new ..) (small_one h1 h2 h3 h4) ?_
  have I1 : Inv X pins σ H { s with heap := s.heap.push { cls := .type "range", data := .fields #[.int lo t, .int hi u, .int 1 v] }, toks := tk } := I.kept fun b o e => Heap.get?_push_of_some _ e
  refine ⟨(s.heap.push { cls := .type "range", data := .fields #[.int lo t, .int hi u, .int 1 v] }).objs.size, [(s.heap.push { cls := .type "range", data := .fields #[.int lo t, .int hi u, .int 1 v] }).objs.size], _, _, H, rfl,
    I1.kept (t' := tk) fun b o e => Heap.get?_push_of_some _ e, turn_range _ lo (hi - lo).toNat, ?_, fun b hb => ?_, q⟩
  · have e1 : lo + ((0 : Nat) : Int) * 1 = lo := by simp
    have e2 : (((hi - lo).toNat : Nat) : Int) - ((0 : Nat) : Int) = Builtin.Range.rangeSize lo hi 1 := by rw [rangeSize_one]; split <;> omega
    show IsRangeIter _ _ (lo + ((0 : Nat) : Int) * 1) ((((hi - lo).toNat : Nat) : Int) - ((0 : Nat) : Int)) 1
    rw [e1, e2]
    exact Heap.get?_push_size _ rfl
  · have e : b = (s.heap.push { cls := .type "range", data := .fields #[.int lo t, .int hi u, .int 1 v] }).objs.size := by simpa using hb
    subst e
    exact I1.fpOk (Nat.le_refl _) (I1.hok.fresh (Nat.le_refl _))
def iRng1 (ta : TA) : TI := fun σ H R => ta σ H fun vs H1 => ∃ j : Int, vs = [.int j] ∧ -(2 ^ 62) ≤ j ∧ j < 2 ^ 62 ∧ R (Itr 0 j.toNat) H1
def iRng2 (ta : TA) : TI := fun σ H R => ta σ H fun vs H1 => ∃ i j : Int, vs = [.int i, .int j] ∧ (-(2 ^ 62) ≤ i ∧ i < 2 ^ 62 ∧ -(2 ^ 62) ≤ j ∧ j < 2 ^ 62) ∧ R (Itr i (j - i).toNat) H1
theorem pi_range1 {a : Expr} {ta : TA} {p pos : Pos} (hg : Gl X "range") (hm : X.mg "range" = none) (ha : PA X [a] ta) (hs : starEach [a] X.env = [(false, eval a X.env)] := by rfl) : PI X tg (.Call (.Name "range" p) [a] [] pos) (iRng1 ta) := by
  intro pins s σ H R I h
  refine Call_ (ld_blt I hg hm boot_range (PyProof.Rows.callWith_type1 (thn (ha pos pins s σ H _ I h) fun us s1 ⟨vs, H1, I1, r1, q1⟩ => ?_) hs rfl))
  obtain ⟨j, e, q1, q2, q⟩ := q1
  subst e
  cases r1 with
  | cons r rr =>
    cases rr
    obtain ⟨t, rfl⟩ := r
    exact call_range_1 (range_it I1 (by omega) (by omega) q1 q2 (by simpa using q))
theorem pi_range2 {a b : Expr} {ta : TA} {p pos : Pos} (hg : Gl X "range") (hm : X.mg "range" = none) (ha : PA X [a, b] ta) (hs : starEach [a, b] X.env = [(false, eval a X.env), (false, eval b X.env)] := by rfl) (hs2 : starEach [b] X.env = [(false, eval b X.env)] := by rfl) :
    PI X tg (.Call (.Name "range" p) [a, b] [] pos) (iRng2 ta) := by
  intro pins s σ H R I h
  refine Call_ (ld_blt I hg hm boot_range (PyProof.Rows.callWith_type1 (thn (ha pos pins s σ H _ I h) fun us s1 ⟨vs, H1, I1, r1, q1⟩ => ?_) (by rw [hs, hs2]) (by rw [hs2]; rfl)))
  obtain ⟨i, j, e, ⟨q1, q2, q3, q4⟩, q⟩ := q1
  subst e
  cases r1 with
  | cons r rr =>
    cases rr with
    | cons r' rr =>
      cases rr
      obtain ⟨t, rfl⟩ := r
      obtain ⟨t', rfl⟩ := r'
      exact call_range_2 (range_it I1 q1 q2 q3 q4 q)

/-! ### for -/
/-- W: the invariant by the turn and a measure; N: what the body is to reach -/
def tFor (wi : TI) (g : TG) (tb : TS) : TS := fun D σ H => wi σ H fun J H1 => ∃ W : Nat → Nat → St → Hp → Prop, (∃ m, W 0 m σ H1) ∧ ∀ i m σ H, W i m σ H →
  (J.stop i H ∧ D.nx σ H) ∨ (J.go i H ∧ ∃ N : St → Hp → Prop, (∀ σ' H', N σ' H' → ∃ m', m' < m ∧ W (i + 1) m' σ' H') ∧ ∀ x H', J.yld i H x H' → g x σ H' fun σ2 H2 => tb { D with nx := N, ct := N, bk := D.nx } σ2 H2)
/-- the records at fp as they stand -/
def pinsAt (fp : List Addr) (h : Heap) : List (Addr × Obj) := fp.filterMap fun b => (h.get? b).map fun o => (b, o)
theorem mem_pinsAt {fp : List Addr} {h : Heap} {b : Addr} {o : Obj} (hb : b ∈ fp) (e : h.get? b = some o) : (b, o) ∈ pinsAt fp h := List.mem_filterMap.mpr ⟨b, hb, by rw [e]; rfl⟩
theorem of_pinsAt {fp : List Addr} {h : Heap} {p : Addr × Obj} (hp : p ∈ pinsAt fp h) : p.1 ∈ fp ∧ h.get? p.1 = some p.2 := by
  obtain ⟨b, hb, e⟩ := List.mem_filterMap.mp hp
  cases q : h.get? b with
  | none => rw [q] at e; cases e
  | some o =>
    rw [q] at e
    have e' : (b, o) = p := Option.some.inj e
    subst e'
    exact ⟨hb, q⟩
theorem Inv.pinned {pins : List (Addr × Obj)} {σ : St} {H : Hp} {s : Shared} {fp : List Addr} (I : Inv X pins σ H s) (hf : ∀ b ∈ fp, FpOk X pins H b) (ho : ∀ b ∈ fp, ∃ o, s.heap.get? b = some o ∧ ∀ v, o.data ≠ .cell v) : Inv X (pins ++ pinsAt fp s.heap) σ H s :=
  I.pins_of fun p hp => (List.mem_append.mp hp).elim (fun z => I.pin p (List.mem_append_right _ z)) fun z => by
    obtain ⟨hb, e⟩ := of_pinsAt z
    obtain ⟨f0, f1, f2, _⟩ := hf p.1 hb
    obtain ⟨o, e', d⟩ := ho p.1 hb
    rw [e] at e'; cases e'
    exact ⟨e, f0, f1, f2, d⟩
theorem Inv.unpinned {pins pl : List (Addr × Obj)} {σ : St} {H : Hp} {s : Shared} (I : Inv X (pins ++ pl) σ H s) : Inv X pins σ H s := I.pins_of fun p hp => I.pin p (List.mem_append_right _ (List.mem_append_left _ hp))
theorem ps_for {iter : Expr} {body : List Stmt} {wi : TI} {g : TG} {tb : TS} {pos : Pos} (hp : PassesOwn (model X.prog X.w) X.A X.env X.xe) (hc : X.calm = true) (hi : PI X tg iter wi) (hg : PG X tg g) (hb : PSs X body tb)
    (hs : ∀ x, foldedSetIterable iter X.env x = pure x := by intro _; rfl) : PS X (.For tg iter body [] pos) (tFor wi g tb) := by
  intro pins s σ H D I h
  refine wpAny_For (thn (hi pins s σ H _ I h) fun v s1 h1 => thn h1 fun itv s2 h2 => ?_) hs
  obtain ⟨it, fp, tn, J, H2, e, I2, T, st2, f2, W, ⟨m0, w0⟩, turn⟩ := h2
  subst e
  -- what stays true of the iterator's objects through the loop
  have stat : ∀ {H' : Hp}, (∀ b ∈ fp, H' b = none) → ∀ b ∈ fp, FpOk X pins H' b := fun hn b hb => ⟨hn b hb, (f2 b hb).2⟩
  refine codeAny_forLoop_any (fun n s' => ∃ i σ' H', Inv X pins σ' H' s' ∧ tn i s'.heap ∧ (∀ b ∈ fp, H' b = none) ∧ W i n σ' H') ?_ m0 ⟨0, σ, H2, I2, st2, fun b hb => (f2 b hb).1, w0⟩
  rintro n s3 ⟨i, σ3, H3, I3, st3, fr3, w3⟩
  rcases turn i n σ3 H3 w3 with ⟨stop, qn⟩ | ⟨go, N, hN, step⟩
  · refine wpAny_passesOwn hp (thn (T.done X rfl rfl rfl hc i pins s3 σ3 H3 X.xe I3 (stat fr3) st3 stop) fun r s4 ⟨hr, I4⟩ => ?_)
    subst hr
    exact wpAny_execs_nil ⟨σ3, H3, I4, qn⟩
  · refine wpAny_passesOwn hp (thn (T.item X rfl rfl rfl hc i pins s3 σ3 H3 X.xe I3 (stat fr3) st3 go) fun r s4 ⟨u, hr, h4⟩ => ?_)
    subst hr
    refine wpAny_passesOwn hp (thn h4 fun _ s5 ⟨x, H5, I5, r5, y5, st5, fr5⟩ => ?_)
    have I5' := I5.pinned (stat fr5) (T.obj _ _ st5)
    refine wpAny_passesOwn hp (thn (hg _ s5 σ3 H5 x u _ I5' r5 (step x H5 y5)) fun _ s6 ⟨σ6, H6, I6, q6⟩ => ?_)
    refine wpAny_passesOwn hp (thn (hb _ s6 σ6 H6 _ I6 q6) fun f s7 q7 => ?_)
    have again : ∀ {σ7 : St} {H7 : Hp}, Inv X (pins ++ pinsAt fp s5.heap) σ7 H7 s7 → N σ7 H7 → ∃ m, m < n ∧ ∃ i σ' H', Inv X pins σ' H' s7 ∧ tn i s7.heap ∧ (∀ b ∈ fp, H' b = none) ∧ W i m σ' H' := fun {σ7 H7} I7 n7 => by
      obtain ⟨m', hm, w7⟩ := hN σ7 H7 n7
      refine ⟨m', hm, i + 1, σ7, H7, I7.unpinned, T.keep _ _ _ st5 fun b hb o e => (I7.pin (b, o) (List.mem_append_right _ (List.mem_append_right _ (mem_pinsAt hb e)))).1, fun b hb => ?_, w7⟩
      obtain ⟨o, e, d⟩ := T.obj _ _ st5 b hb
      exact (I7.pin (b, o) (List.mem_append_right _ (List.mem_append_right _ (mem_pinsAt hb e)))).2.1
    cases f with
    | next => obtain ⟨σ7, H7, I7, n7⟩ := q7; exact again I7 n7
    | cont => obtain ⟨σ7, H7, I7, n7⟩ := q7; exact again I7 n7
    | brk => obtain ⟨σ7, H7, I7, q7⟩ := q7; exact ⟨σ7, H7, I7.unpinned, q7⟩
    | ret v => obtain ⟨x7, σ7, H7, I7, r7, q7⟩ := q7; exact ⟨x7, σ7, H7, I7.unpinned, r7, q7⟩
end

/-! ### the forms one uses -/
/-- over a list that the body leaves as it is -/
theorem for_list {K : PySem.W.Frag} {a : Addr} {xs : List V} {g : TG} {tb : TS} {D : Ends} {σ : St} {H : Hp} (Pv : Nat → St → Hp → Prop) (h0 : Pv 0 σ H) (hl : ∀ i σ H, i ≤ xs.length → Pv i σ H → SqL K H a xs)
    (hs : ∀ i x σ H, xs[i]? = some x → Pv i σ H → g x σ H fun σ2 H2 => tb { D with nx := Pv (i + 1), ct := Pv (i + 1), bk := D.nx } σ2 H2) (hd : ∀ σ H, Pv xs.length σ H → D.nx σ H) :
    ∃ W : Nat → Nat → St → Hp → Prop, (∃ m, W 0 m σ H) ∧ ∀ i m σ H, W i m σ H →
      ((Itl K a).stop i H ∧ D.nx σ H) ∨ ((Itl K a).go i H ∧ ∃ N : St → Hp → Prop, (∀ σ' H', N σ' H' → ∃ m', m' < m ∧ W (i + 1) m' σ' H') ∧ ∀ x H', (Itl K a).yld i H x H' → g x σ H' fun σ2 H2 => tb { D with nx := N, ct := N, bk := D.nx } σ2 H2) := by
  refine ⟨fun i m σ H => m = xs.length - i ∧ i ≤ xs.length ∧ Pv i σ H, ⟨xs.length, by simp, Nat.zero_le _, h0⟩, ?_⟩
  rintro i m σ H ⟨rfl, hi, p⟩
  have q := hl i σ H hi p
  by_cases hlt : i < xs.length
  · refine .inr ⟨⟨xs, xs[i], q, by simp [hlt]⟩, Pv (i + 1), fun σ' H' p' => ⟨xs.length - (i + 1), by omega, rfl, hlt, p'⟩, fun x H' y => ?_⟩
    obtain ⟨e, y⟩ := y
    subst e
    exact hs i x σ _ (y xs q) p
  · have e : i = xs.length := by omega
    subst e
    exact .inl ⟨⟨xs, q, Nat.le_refl _⟩, hd σ H p⟩
theorem for_range {lo : Int} {n : Nat} {g : TG} {tb : TS} {D : Ends} {σ : St} {H : Hp} (Pv : Nat → St → Hp → Prop) (h0 : Pv 0 σ H)
    (hs : ∀ i σ H, i < n → Pv i σ H → g (.int (lo + i)) σ H fun σ2 H2 => tb { D with nx := Pv (i + 1), ct := Pv (i + 1), bk := D.nx } σ2 H2) (hd : ∀ σ H, Pv n σ H → D.nx σ H) :
    ∃ W : Nat → Nat → St → Hp → Prop, (∃ m, W 0 m σ H) ∧ ∀ i m σ H, W i m σ H →
      ((Itr lo n).stop i H ∧ D.nx σ H) ∨ ((Itr lo n).go i H ∧ ∃ N : St → Hp → Prop, (∀ σ' H', N σ' H' → ∃ m', m' < m ∧ W (i + 1) m' σ' H') ∧ ∀ x H', (Itr lo n).yld i H x H' → g x σ H' fun σ2 H2 => tb { D with nx := N, ct := N, bk := D.nx } σ2 H2) := by
  refine ⟨fun i m σ H => m = n - i ∧ i ≤ n ∧ Pv i σ H, ⟨n, by simp, Nat.zero_le _, h0⟩, ?_⟩
  rintro i m σ H ⟨rfl, hi, p⟩
  by_cases hlt : i < n
  · refine .inr ⟨hlt, Pv (i + 1), fun σ' H' p' => ⟨n - (i + 1), by omega, rfl, hlt, p'⟩, fun x H' y => ?_⟩
    obtain ⟨e, y⟩ := y
    subst e y
    exact hs i σ _ hlt p
  · have e : i = n := by omega
    subst e
    exact .inl ⟨Nat.le_refl _, hd σ H p⟩
/-- while, by a word and a measure of the state -/
theorem while_by {c : TT} {tb : TS} {D : Ends} {σ : St} {H : Hp} (Pv : St → Hp → Prop) (μ : St → Hp → Nat) (h0 : Pv σ H)
    (hs : ∀ σ H, Pv σ H → c σ H fun b H1 => if b = true then tb { D with nx := fun σ' H' => Pv σ' H' ∧ μ σ' H' < μ σ H, ct := fun σ' H' => Pv σ' H' ∧ μ σ' H' < μ σ H, bk := D.nx } σ H1 else D.nx σ H1)
    (mono : ∀ σ H Q Q', (∀ b H1, Q b H1 → Q' b H1) → c σ H Q → c σ H Q') : tWhile c tb D σ H := by
  refine ⟨fun m σ H => m = μ σ H ∧ Pv σ H, ⟨_, rfl, h0⟩, ?_⟩
  rintro m σ H ⟨rfl, p⟩
  refine mono σ H _ _ (fun b H1 q => ?_) (hs σ H p)
  cases b with
  | true => exact ⟨_, fun σ' H' ⟨p', l⟩ => ⟨_, l, rfl, p'⟩, q⟩
  | false => exact q
end L2

namespace L2
open PySem PySem.Spec PyProof.Rows

abbrev R2 := V → V → Hp → VK → Prop
/-- a two-place operation on values: f is binaryOp op, inplaceOp op or compareOp op -/
def OpR (X : Cx) (f : Value → Value → Sem Value) (r : R2) : Prop :=
  ∀ (pins : List (Addr × Obj)) (s : Shared) (σ : St) (H : Hp) (x y : V) (v u : Value) (Q : VK), Inv X pins σ H s → RelV x v → RelV y u → r x y H Q →
    wpAny (model X.prog X.w) X.A (f v u) (EP X pins σ Q) X.xe s
/-- a one-place operation -/
def UnR (X : Cx) (f : Value → Sem Value) (r : V → Hp → VK → Prop) : Prop :=
  ∀ (pins : List (Addr × Obj)) (s : Shared) (σ : St) (H : Hp) (x : V) (v : Value) (Q : VK), Inv X pins σ H s → RelV x v → r x H Q →
    wpAny (model X.prog X.w) X.A (f v) (EP X pins σ Q) X.xe s
/-- a call of a value that is known (a builtin, a type) with values -/
def CallR (X : Cx) (f : Value) (r : List V → Hp → VK → Prop) : Prop :=
  ∀ (pins : List (Addr × Obj)) (s : Shared) (σ : St) (H : Hp) (xs : List V) (us : List Value) (Q : VK), Inv X pins σ H s → Vals xs us → r xs H Q →
    wpAny (model X.prog X.w) X.A (call f us) (EP X pins σ Q) X.xe s
/-- a value's truth -/
def TruR (X : Cx) (r : V → Hp → (Bool → Hp → Prop) → Prop) : Prop :=
  ∀ (pins : List (Addr × Obj)) (s : Shared) (σ : St) (H : Hp) (x : V) (v : Value) (Q : Bool → Hp → Prop), Inv X pins σ H s → RelV x v → r x H Q →
    wpAny (model X.prog X.w) X.A (truthy v) (TP X pins σ Q) X.xe s

def tOp (r : R2) (ta tb : TE) : TE := fun σ H Q => ta σ H fun x H1 => tb σ H1 fun y H2 => r x y H2 Q
def tUn (r : V → Hp → VK → Prop) (ta : TE) : TE := fun σ H Q => ta σ H fun x H1 => r x H1 Q
/-- ints in, under C, and a value out -/
def rI (C : Int → Int → Prop) (g : Int → Int → V) : R2 := fun x y H Q => ∃ i j, x = .int i ∧ y = .int j ∧ C i j ∧ Q (g i j) H
def rI0 (g : Int → Int → V) : R2 := fun x y H Q => ∃ i j, x = .int i ∧ y = .int j ∧ Q (g i j) H
def rU (g : Int → V) : V → Hp → VK → Prop := fun x H Q => ∃ i, x = .int i ∧ Q (g i) H

section
variable {X : Cx} {a b c : Expr} {ta tb tc : TE} {pos : Pos}

theorem binT (ha : PE X a ta) (hb : PE X b tb) {pins : List (Addr × Obj)} {s : Shared} {σ : St} {H : Hp} {R : V → V → Hp → Prop} (I : Inv X pins σ H s)
    (h : ta σ H fun x H1 => tb σ H1 fun y H2 => R x y H2) {Q : Value → Shared → Prop} {f : Value → Value → Sem Value}
    (hf : ∀ v u s2 x y H2, Inv X pins σ H2 s2 → RelV x v → RelV y u → R x y H2 → wpAny (model X.prog X.w) X.A (f v u) Q X.xe s2) :
    wpAny (model X.prog X.w) X.A (eval a X.env) (fun v s₁ => wpAny (model X.prog X.w) X.A (eval b X.env) (fun u s₂ => wpAny (model X.prog X.w) X.A (f v u) Q X.xe s₂) X.xe s₁) X.xe s := by
  refine thn (ha pins s σ H _ I h) fun v s1 ⟨x, H1, I1, r1, q1⟩ => ?_
  refine thn (hb pins s1 σ H1 _ I1 q1) fun u s2 ⟨y, H2, I2, r2, q2⟩ => ?_
  exact hf v u s2 x y H2 I2 r1 r2 q2

theorem pe_op {op : Operator} {r : R2} (ho : OpR X (binaryOp op) r) (ha : PE X a ta) (hb : PE X b tb) : PE X (.BinOp a op b pos) (tOp r ta tb) := by
  intro pins s σ H Q I h
  exact wpAny_BinOp (binT ha hb I h fun v u s2 x y H2 I2 rx ry q => ho pins s2 σ H2 x y v u Q I2 rx ry q)
theorem pe_un {op : UnaryOp} {r : V → Hp → VK → Prop} (ho : UnR X (unaryOp op) r) (ha : PE X a ta) : PE X (.UnaryOp op a pos) (tUn r ta) := by
  intro pins s σ H Q I h
  exact UnaryOp_ (thn (ha pins s σ H _ I h) fun v s1 ⟨x, H1, I1, r1, q1⟩ => ho pins s1 σ H1 x v Q I1 r1 q1)
/-! ### ints -/
theorem opI {f : Value → Value → Sem Value} {C : Int → Int → Prop} {g : Int → Int → Int}
    (rule : ∀ (i j : Int) (t u : Tok) (s : Shared) (Q : Value → Shared → Prop) (E : Value → Shared → Prop), C i j → Q (.int (g i j) s.toks) { s with toks := s.toks + 1 } → wpAny (model X.prog X.w) X.A (f (.int i t) (.int j u)) Q E s) :
    OpR X f (rI C fun i j => .int (g i j)) := by
  intro pins s σ H x y v u Q I rx ry h
  obtain ⟨i, j, rfl, rfl, hc, q⟩ := h
  obtain ⟨t, rfl⟩ := rx
  obtain ⟨t', rfl⟩ := ry
  exact rule i j t t' s _ _ hc ⟨.int (g i j), H, I.tok _, ⟨_, rfl⟩, q⟩
theorem opI0 {f : Value → Value → Sem Value} {g : Int → Int → Int}
    (rule : ∀ (i j : Int) (t u : Tok) (s : Shared) (Q : Value → Shared → Prop) (E : Value → Shared → Prop), Q (.int (g i j) s.toks) { s with toks := s.toks + 1 } → wpAny (model X.prog X.w) X.A (f (.int i t) (.int j u)) Q E s) :
    OpR X f (rI0 fun i j => .int (g i j)) := by
  intro pins s σ H x y v u Q I rx ry h
  obtain ⟨i, j, rfl, rfl, q⟩ := h
  obtain ⟨t, rfl⟩ := rx
  obtain ⟨t', rfl⟩ := ry
  exact rule i j t t' s _ _ ⟨.int (g i j), H, I.tok _, ⟨_, rfl⟩, q⟩
theorem opB0 {f : Value → Value → Sem Value} {g : Int → Int → Bool}
    (rule : ∀ (i j : Int) (t u : Tok) (s : Shared) (Q : Value → Shared → Prop) (E : Value → Shared → Prop), Q (.bool (g i j)) s → wpAny (model X.prog X.w) X.A (f (.int i t) (.int j u)) Q E s) :
    OpR X f (rI0 fun i j => .bl (g i j)) := by
  intro pins s σ H x y v u Q I rx ry h
  obtain ⟨i, j, rfl, rfl, q⟩ := h
  obtain ⟨t, rfl⟩ := rx
  obtain ⟨t', rfl⟩ := ry
  exact rule i j t t' s _ _ ⟨.bl (g i j), H, I, rfl, q⟩

def CDiv (i j : Int) : Prop := 0 < j ∧ j < 1073741824
def CDivN (i j : Int) : Prop := j ≠ 0 ∧ j.natAbs < 1073741824
def CPow (i j : Int) : Prop := 0 ≤ j ∧ j ≤ 1000000 ∧ i.natAbs < 2 ^ 64
def CMul (i j : Int) : Prop := (-(2 ^ 64) < i ∧ i < 2 ^ 64) ∨ (-(2 ^ 64) < j ∧ j < 2 ^ 64)
theorem CMul.ok {i j : Int} (h : CMul i j) : IntMulOk i j := by
  rcases h with ⟨h1, h2⟩ | ⟨h1, h2⟩
  · exact .of_left (intBits_le_64 h1 h2)
  · exact .of_right (intBits_le_64 h1 h2)
theorem op_add : OpR X (binaryOp .Add) (rI0 fun i j => .int (i + j)) := opI0 fun _ _ _ _ _ _ _ q => add_int q
theorem op_sub : OpR X (binaryOp .Sub) (rI0 fun i j => .int (i - j)) := opI0 fun _ _ _ _ _ _ _ q => sub_int q
theorem op_mul : OpR X (binaryOp .Mult) (rI CMul fun i j => .int (i * j)) := opI fun _ _ _ _ _ _ _ hc q => mul_int q hc.ok
/-- // by a positive divisor -/
theorem op_fdiv : OpR X (binaryOp .FloorDiv) (rI CDiv fun i j => .int (i / j)) := opI fun i j _ _ _ _ _ hc q => by
  have h1 : (0 : Int) < j := hc.1
  have h2 : j < 1073741824 := hc.2
  exact floordiv_int (by omega) (by rw [Int.fdiv_eq_ediv_of_nonneg i (by omega)]; exact q) (.inl (PyProof.noPylong_small (by omega)))
/-- % by a positive divisor of any size -/
theorem op_mod : OpR X (binaryOp .Mod) (rI (fun _ j => 0 < j) fun i j => .int (i % j)) := opI fun i j _ _ _ _ _ hc q => by
  have h1 : (0 : Int) < j := hc
  exact mod_int' (by omega) (by rw [Int.fmod_eq_emod_of_nonneg i (by omega)]; exact q)
theorem op_modN : OpR X (binaryOp .Mod) (rI (fun _ j => j ≠ 0) fun i j => .int (i.fmod j)) := opI fun _ _ _ _ _ _ _ hc q => mod_int' hc q
theorem op_pow : OpR X (binaryOp .Pow) (rI CPow fun i j => .int (i ^ j.toNat)) := opI fun _ _ _ _ _ _ _ hc q => pow_int_small hc.1 hc.2.1 hc.2.2 q
theorem unI {f : Value → Sem Value} {g : Int → Int}
    (rule : ∀ (i : Int) (t : Tok) (s : Shared) (Q : Value → Shared → Prop) (E : Value → Shared → Prop), Q (.int (g i) s.toks) { s with toks := s.toks + 1 } → wpAny (model X.prog X.w) X.A (f (.int i t)) Q E s) :
    UnR X f (rU fun i => .int (g i)) := by
  intro pins s σ H x v Q I rx h
  obtain ⟨i, rfl, q⟩ := h
  obtain ⟨t, rfl⟩ := rx
  exact rule i t s _ _ ⟨.int (g i), H, I.tok _, ⟨_, rfl⟩, q⟩
theorem un_neg : UnR X (unaryOp .USub) (rU fun i => .int (-i)) := unI fun _ _ _ _ _ q => neg_int q
/-! ### bools among ints: n += (a < b) -/
end

/-! ### comparisons -/
/-- the scalars that == tells apart as data does -/
def scal : V → V → Bool
  | .non, .non => true | .non, .int _ => true | .int _, .non => true | .non, .bl _ => true | .bl _, .non => true | .non, .str _ => true | .str _, .non => true
  | .int _, .int _ => true | .bl _, .bl _ => true | .str _, .str _ => true | .byt _, .byt _ => true
  | .int _, .str _ => true | .str _, .int _ => true | .bl _, .str _ => true | .str _, .bl _ => true
  | _, _ => false
def rEq : R2 := fun x y H Q => scal x y = true ∧ Q (.bl (decide (x = y))) H
def rNe : R2 := fun x y H Q => scal x y = true ∧ Q (.bl (!decide (x = y))) H

theorem dec_int {i j : Int} : decide (V.int i = V.int j) = (i == j) := by
  rw [Bool.eq_iff_iff]
  simp
theorem dec_bl {i j : Bool} : decide (V.bl i = V.bl j) = (i == j) := by
  rw [Bool.eq_iff_iff]
  simp
theorem dec_str {i j : Str} : decide (V.str i = V.str j) = (i == j) := by
  rw [Bool.eq_iff_iff]
  simp
theorem dec_byt {i j : Array UInt8} : decide (V.byt i = V.byt j) = (i.toList == j.toList) := by
  rw [Bool.eq_iff_iff]
  cases i
  cases j
  simp

section
variable {X : Cx} {a b c : Expr} {ta tb tc : TE} {pos : Pos}
theorem fin_bl {pins : List (Addr × Obj)} {σ : St} {H : Hp} {s : Shared} {Q : VK} {k k' : Bool} (I : Inv X pins σ H s) (q : Q (.bl k) H) (e : k = k') : EP X pins σ Q (.bool k') s := by
  subst e
  exact ⟨.bl k, H, I, rfl, q⟩
theorem op_eq : OpR X (compareOp .Eq) rEq := by
  intro pins s σ H x y v u Q I rx ry h
  obtain ⟨hs, q⟩ := h
  cases x with
  | non =>
    cases rx
    cases y with
    | non => cases ry; exact PySem.EqNone.eq_none_none (fin_bl I q (by simp))
    | bl j => cases ry; exact PySem.EqNone.eq_none_bool (fin_bl I q (by simp))
    | int j => obtain ⟨t', rfl⟩ := ry; exact PySem.EqNone.eq_none_int (fin_bl I q (by simp))
    | str j => obtain ⟨t', rfl⟩ := ry; exact PySem.EqNone.eq_none_str (fin_bl I q (by simp))
    | _ => exact absurd (show false = true from hs) Bool.false_ne_true
  | bl i =>
    cases rx
    cases y with
    | non => cases ry; exact PySem.EqNone.eq_bool_none (fin_bl I q (by simp))
    | bl j => cases ry; exact eq_bool (fin_bl I q dec_bl)
    | str j => obtain ⟨t', rfl⟩ := ry; exact PySem.EqMixed.eq_bool_str (fin_bl I q (by simp))
    | _ => exact absurd (show false = true from hs) Bool.false_ne_true
  | int i =>
    obtain ⟨t, rfl⟩ := rx
    cases y with
    | non => cases ry; exact PySem.EqNone.eq_int_none (fin_bl I q (by simp))
    | int j => obtain ⟨t', rfl⟩ := ry; exact eq_int (fin_bl I q dec_int)
    | str j => obtain ⟨t', rfl⟩ := ry; exact PySem.EqMixed.eq_int_str (fin_bl I q (by simp))
    | _ => exact absurd (show false = true from hs) Bool.false_ne_true
  | str i =>
    obtain ⟨t, rfl⟩ := rx
    cases y with
    | non => cases ry; exact PySem.EqNone.eq_str_none (fin_bl I q (by simp))
    | bl j => cases ry; exact PySem.EqMixed.eq_str_bool (fin_bl I q (by simp))
    | int j => obtain ⟨t', rfl⟩ := ry; exact PySem.EqMixed.eq_str_int (fin_bl I q (by simp))
    | str j => obtain ⟨t', rfl⟩ := ry; exact eq_str (fin_bl I q dec_str)
    | _ => exact absurd (show false = true from hs) Bool.false_ne_true
  | byt i =>
    obtain ⟨t, rfl⟩ := rx
    cases y with
    | byt j => obtain ⟨t', rfl⟩ := ry; exact PySem.W.eq_bytes (fin_bl I q dec_byt)
    | _ => exact absurd (show false = true from hs) Bool.false_ne_true
  | _ => cases y <;> exact absurd (show false = true from hs) Bool.false_ne_true
theorem op_ne : OpR X (compareOp .NotEq) rNe := by
  intro pins s σ H x y v u Q I rx ry h
  obtain ⟨hs, q⟩ := h
  cases x with
  | non =>
    cases rx
    cases y with
    | non => cases ry; exact PySem.EqNone.ne_none_none (fin_bl I q (by simp))
    | bl j => cases ry; exact PySem.EqNone.ne_none_bool (fin_bl I q (by simp))
    | int j => obtain ⟨t', rfl⟩ := ry; exact PySem.EqNone.ne_none_int (fin_bl I q (by simp))
    | str j => obtain ⟨t', rfl⟩ := ry; exact PySem.EqNone.ne_none_str (fin_bl I q (by simp))
    | _ => exact absurd (show false = true from hs) Bool.false_ne_true
  | bl i =>
    cases rx
    cases y with
    | non => cases ry; exact PySem.EqNone.ne_bool_none (fin_bl I q (by simp))
    | bl j => cases ry; exact ne_bool (fin_bl I q (congrArg not dec_bl))
    | str j => obtain ⟨t', rfl⟩ := ry; exact PySem.EqMixed.ne_bool_str (fin_bl I q (by simp))
    | _ => exact absurd (show false = true from hs) Bool.false_ne_true
  | int i =>
    obtain ⟨t, rfl⟩ := rx
    cases y with
    | non => cases ry; exact PySem.EqNone.ne_int_none (fin_bl I q (by simp))
    | int j => obtain ⟨t', rfl⟩ := ry; exact ne_int (fin_bl I q (congrArg not dec_int))
    | str j => obtain ⟨t', rfl⟩ := ry; exact PySem.EqMixed.ne_int_str (fin_bl I q (by simp))
    | _ => exact absurd (show false = true from hs) Bool.false_ne_true
  | str i =>
    obtain ⟨t, rfl⟩ := rx
    cases y with
    | non => cases ry; exact PySem.EqNone.ne_str_none (fin_bl I q (by simp))
    | bl j => cases ry; exact PySem.EqMixed.ne_str_bool (fin_bl I q (by simp))
    | int j => obtain ⟨t', rfl⟩ := ry; exact PySem.EqMixed.ne_str_int (fin_bl I q (by simp))
    | str j => obtain ⟨t', rfl⟩ := ry; exact ne_str (fin_bl I q (congrArg not dec_str))
    | _ => exact absurd (show false = true from hs) Bool.false_ne_true
  | byt i =>
    obtain ⟨t, rfl⟩ := rx
    cases y with
    | byt j => obtain ⟨t', rfl⟩ := ry; exact PySem.W.ne_bytes (fin_bl I q (congrArg not dec_byt))
    | _ => exact absurd (show false = true from hs) Bool.false_ne_true
  | _ => cases y <;> exact absurd (show false = true from hs) Bool.false_ne_true

theorem op_lt : OpR X (compareOp .Lt) (rI0 fun i j => .bl (decide (i < j))) := opB0 fun _ _ _ _ _ _ _ q => lt_int q
theorem op_ge : OpR X (compareOp .GtE) (rI0 fun i j => .bl (decide (j ≤ i))) := opB0 fun _ _ _ _ _ _ _ q => ge_int q
/-- is None, is not None: the right side a value none -/
theorem op_isN : OpR X (compareOp .Is) (fun x y H Q => y = .non ∧ Q (.bl (decide (x = .non))) H) := by
  intro pins s σ H x y v u Q I rx ry h
  obtain ⟨rfl, q⟩ := h
  cases ry
  refine is_none_gen (fin_bl I q ?_)
  cases x <;> first
    | (cases rx; rfl)
    | (obtain ⟨t, rfl⟩ := rx; rfl)
theorem op_notN : OpR X (compareOp .IsNot) (fun x y H Q => y = .non ∧ Q (.bl (!decide (x = .non))) H) := by
  intro pins s σ H x y v u Q I rx ry h
  obtain ⟨rfl, q⟩ := h
  cases ry
  refine isnot_none_gen (fin_bl I q ?_)
  cases x <;> first
    | (cases rx; rfl)
    | (obtain ⟨t, rfl⟩ := rx; rfl)

/-- is, is not of two objects that are tracked lists or instances -/
def isObj : HO → Bool
  | .lst _ => true
  | .ins _ _ _ => true
  | _ => false
theorem nomark (b : Expr) {op : CmpOp} (h : op ≠ .In := by decide) (h2 : op ≠ .NotIn := by decide) : behindInMarks op b = false := by
  have e1 : (op == CmpOp.In) = false := by cases op <;> first | rfl | exact absurd rfl h
  have e2 : (op == CmpOp.NotIn) = false := by cases op <;> first | rfl | exact absurd rfl h2
  cases b <;> simp [behindInMarks, e1, e2]
/-- a comparison as a value; hm: nomark b, or (for in, not in) by with_unfolding_all rfl -/
theorem pe_cmpR {op : CmpOp} {r : R2} (ho : OpR X (compareOp op) r) (ha : PE X a ta) (hb : PE X b tb) (hm : behindInMarks op b = false) : PE X (.Compare a [op] [b] pos) (tOp r ta tb) := by
  intro pins s σ H Q I h
  exact wpAny_Compare1 (binT ha hb I h fun v u s2 x y H2 I2 rx ry q => ho pins s2 σ H2 x y v u Q I2 rx ry q) hm
/-- a reading of a value as a test -/
def tTest (t : TE) : TT := fun σ H Q => t σ H fun x H' => ∃ k, x = .bl k ∧ Q k H'
theorem pt_cmpR {op : CmpOp} {r : R2} (ho : OpR X (compareOp op) r) (ha : PE X a ta) (hb : PE X b tb) (hm : behindInMarks op b = false) : PT X (.Compare a [op] [b] pos) (tTest (tOp r ta tb)) := by
  intro pins s σ H Q I h
  refine wpAny_isTrue_Compare1 (thn (ha pins s σ H _ I h) fun v s1 ⟨x, H1, I1, r1, q1⟩ => thn (hb pins s1 σ H1 _ I1 q1) fun u s2 ⟨y, H2, I2, r2, q2⟩ =>
    thn (ho pins s2 σ H2 x y v u _ I2 r1 r2 q2) fun c s3 ⟨z, H3, I3, r3, k, e, q3⟩ => ?_) hm
  subst e
  cases r3
  exact wpAny_truthy_bool ⟨H3, I3, q3⟩
/-- a op1 b op2 c -/
def tChain (r r' : R2) (ta tb tc : TE) : TE := fun σ H Q => ta σ H fun x H1 => tb σ H1 fun y H2 => r x y H2 fun z H3 => ∃ k, z = .bl k ∧
  (if k = true then tc σ H3 fun w' H4 => r' y w' H4 Q else Q (.bl false) H3)
/-! ### truth -/
/-- a value's truth by the abstract heap -/
def TruV (K : PySem.W.Frag) (x : V) (H : Hp) (k : Bool) : Prop :=
  match x with
  | .non => k = false
  | .bl b => k = b
  | .int i => k = (i != 0)
  | .str y => y.length ≤ sizeLine ∧ k = ((y.length : Int) != 0)
  | .byt y => y.size ≤ sizeLine ∧ k = ((y.size : Int) != 0)
  | .ref p => (∃ xs, SqL K H p xs ∧ k = !xs.isEmpty) ∨ (∃ xs, SqT K H p xs ∧ k = !xs.isEmpty) ∨ ∃ kvs, H p = some (.dK kvs) ∧ k = !kvs.isEmpty
  | _ => False
theorem isEmpty_kv {κ : Type} {kvs : List (κ × V)} {vs : List (κ × Value)} (r : KV kvs vs) : (!vs.isEmpty) = !kvs.isEmpty := by
  cases r <;> rfl
theorem isEmpty_of {xs : List V} {its : List Value} (r : Vals xs its) : (!its.toArray.isEmpty) = !xs.isEmpty := by
  cases r <;> simp
theorem line63 : (sizeLine : Nat) < 2 ^ 63 := by rw [sizeLine_eq]; decide
theorem tru_ok : TruR X (fun x H Q => ∃ k, TruV X.K x H k ∧ Q k H) := by
  intro pins s σ H x v Q I rx h
  obtain ⟨k, e, q⟩ := h
  have hl := line63
  have hs : sizeLine = 16777216 := sizeLine_eq
  cases x with
  | non =>
    cases rx
    have e' : k = false := e
    subst e'
    exact truthy_none ⟨H, I, q⟩
  | bl b =>
    cases rx
    have e' : k = b := e
    subst e'
    exact wpAny_truthy_bool ⟨H, I, q⟩
  | int i =>
    obtain ⟨t, rfl⟩ := rx
    have e' : k = (i != 0) := e
    subst e'
    exact PySem.P.truthy_int ⟨H, I, q⟩
  | str y =>
    obtain ⟨t, rfl⟩ := rx
    obtain ⟨hy, e'⟩ : y.length ≤ sizeLine ∧ k = ((y.length : Int) != 0) := e
    subst e'
    exact PySem.P.truthy_str (by omega) ⟨H, I.tok _, q⟩
  | byt y =>
    obtain ⟨t, rfl⟩ := rx
    obtain ⟨hy, e'⟩ : y.size ≤ sizeLine ∧ k = ((y.size : Int) != 0) := e
    subst e'
    exact PySem.W.truthy_bytes (by omega) ⟨H, I.tok _, q⟩
  | ref p =>
    cases rx
    have e' : (∃ xs, SqL X.K H p xs ∧ k = !xs.isEmpty) ∨ (∃ xs, SqT X.K H p xs ∧ k = !xs.isEmpty) ∨ ∃ kvs, H p = some (.dK kvs) ∧ k = !kvs.isEmpty := e
    rcases e' with ⟨xs, hx, e'⟩ | ⟨xs, hx, e'⟩ | ⟨kvs, hx, e'⟩
    · subst e'
      obtain ⟨its, r, pl, hz⟩ := I.list hx
      have hlen := r.length
      exact wpAny_truthy_list pl.isList (by simp only [List.size_toArray]; omega) ⟨H, I.tok _, by rw [isEmpty_of r]; exact q⟩
    · subst e'
      obtain ⟨its, r, pl, hz⟩ := I.tuple hx
      have hlen := r.length
      exact truthy_tuple pl (by simp only [List.size_toArray]; omega) ⟨H, I.tok _, by rw [isEmpty_of r]; exact q⟩
    · subst e'
      obtain ⟨hz, hS, vs, r, m⟩ : kvs.length ≤ sizeLine ∧ (p == sysModules) = false ∧ ∃ vs, KV kvs vs ∧ s.heap.DictOf (mixKind X.prog X.w) p vs := I.hok p _ hx
      have hlen : kvs.length = vs.length := Paired.length r
      exact wpAny_truthy_dict hS m (by omega) ⟨H, I.tok _, by rw [isEmpty_kv r]; exact q⟩
  | _ => exact (show False from e).elim
/-- any expression whose test is its value's truth (a name, a call, a subscript, a field ..: he by fun _ => rfl) -/
theorem pt_truth (ha : PE X a ta) (he : ∀ whole, isTrue a X.env whole = (do let v ← whole; standAt a.pos; holding [v] (truthy v))) :
    PT X a (fun σ H Q => ta σ H fun x H' => ∃ k, TruV X.K x H' k ∧ Q k H') := by
  intro pins s σ H Q I h
  exact isTrue_plain (thn (ha pins s σ H _ I h) fun v s1 ⟨x, H1, I1, r1, q1⟩ => tru_ok pins s1 σ H1 x v Q I1 r1 q1) (he _)

/-! ### strs and bytes -/
def PlainIxT (b : Expr) : Prop := ∀ o i, subscripted b false o i = operate [o, i] (getItem o i)
/-! ### scalar builtins, by CallR -/
theorem vals1 {x : V} {us : List Value} (r : Vals [x] us) : ∃ u, us = [u] ∧ RelV x u := by
  cases r with
  | cons r1 r2 => cases r2; exact ⟨_, rfl, r1⟩
theorem vals2 {x y : V} {us : List Value} (r : Vals [x, y] us) : ∃ u w', us = [u, w'] ∧ RelV x u ∧ RelV y w' := by
  cases r with
  | cons r1 r2 =>
    cases r2 with
    | cons r3 r4 => cases r4; exact ⟨_, _, rfl, r1, r3⟩
theorem call_abs : CallR X (.builtin "abs") (fun xs H Q => ∃ i, xs = [.int i] ∧ Q (.int (if i < 0 then -i else i)) H) := by
  intro pins s σ H xs us Q I r h
  obtain ⟨i, rfl, q⟩ := h
  obtain ⟨u, rfl, t, rfl⟩ := vals1 r
  exact call_abs_int fun u tk => ⟨.int (if i < 0 then -i else i), H, I.tok _, ⟨_, rfl⟩, q⟩
theorem call_int1 : CallR X (.type "int") (fun xs H Q => (∃ i, xs = [.int i] ∧ Q (.int i) H) ∨ ∃ k, xs = [.bl k] ∧ Q (.int (if k then 1 else 0)) H) := by
  intro pins s σ H xs us Q I r h
  rcases h with ⟨i, rfl, q⟩ | ⟨k, rfl, q⟩
  · obtain ⟨u, rfl, t, rfl⟩ := vals1 r
    exact call_int_int ⟨.int i, H, I, ⟨_, rfl⟩, q⟩
  · obtain ⟨u, rfl, r1⟩ := vals1 r
    cases r1
    exact call_int_bool ⟨.int (if k then 1 else 0), H, I.tok _, ⟨_, rfl⟩, q⟩
/-- len of a str, a bytes, a list, a tuple -/
def LenV (K : PySem.W.Frag) (x : V) (H : Hp) (n : Nat) : Prop :=
  match x with
  | .str y => y.length ≤ sizeLine ∧ n = y.length
  | .byt y => y.size ≤ sizeLine ∧ n = y.size
  | .ref p => (∃ xs, SqL K H p xs ∧ n = xs.length) ∨ ∃ xs, SqT K H p xs ∧ n = xs.length
  | _ => False
end
end L2

namespace L2
open PySem PySem.Spec PyProof.Rows

/-! ### an instance, its attributes a map -/
structure ObjM (h : Heap) (x dx C : Addr) (mA : Str → Option Value) : Prop where
  obj : h.get? x = some (PySem.W.instObj C dx)
  ns : h.Ns1 dx mA
  ne : dx ≠ x

theorem lookIn_ns {h : Heap} {dx : Addr} {mA : Str → Option Value} (n : h.Ns1 dx mA) : ∃ od, h.get? dx = some od ∧ ∀ name, PySem.W.lookIn name od = some (mA name) := by
  obtain ⟨o, es, ep, ho, hd, hk, _, hm⟩ := n
  refine ⟨o, ho, fun name => ?_⟩
  have e := hm name
  unfold nsFind findBy at e
  rw [← Array.find?_toList] at e
  unfold PySem.W.lookIn
  rw [hd]
  dsimp only
  split
  · rename_i y q
    rw [q] at e
    exact congrArg some e
  · rename_i q
    rw [q] at e
    have a : es.toList.any (·.refKey) = false := by
      rw [List.any_eq_false]
      intro y hy
      obtain ⟨z, t, hkey⟩ := hk y (Array.mem_toList_iff.mp hy)
      simp [DictEntry.refKey, hkey]
    have a' : ¬ es.toList.any (·.refKey) = true := by rw [a]; exact Bool.false_ne_true
    rw [if_neg a']
    exact congrArg some e

theorem ObjM.look {h : Heap} {x dx C : Addr} {mA : Str → Option Value} (I : ObjM h x dx C mA) : ∃ od, PySem.W.InstAt h x (PySem.W.instObj C dx) C (some od) ∧ ∀ name, PySem.W.lookIn name od = some (mA name) :=
  let ⟨od, ho, hl⟩ := lookIn_ns I.ns
  ⟨od, ⟨I.obj, rfl, rfl, ho⟩, hl⟩

section
variable {prog : Program} {w : World} {A : Around} {E : Value → Shared → Prop} {s : Shared} {K : PySem.W.Frag} {x dx C f : Addr} {mA : Str → Option Value} {name : Str} {v : Value}

end

/-! ### the attributes as a list of pairs -/
def putF (f : Str) (v : V) : List (Str × V) → List (Str × V)
  | [] => [(f, v)]
  | (g, x) :: r => if g = f then (g, v) :: r else (g, x) :: putF f v r
section
variable {P : Program} {w : World} {H H' : Hp} {h h' : Heap} {a C dx : Addr} {fs fs' : List (Str × V)}
theorem ins_get (hok : HOk P w H h) (e : H a = some (.ins C dx fs)) : ∃ mA, ObjM h a dx C mA ∧ (∀ f, RelO (fs.lookup f) (mA f)) ∧ PySem.Within mA (fs.map (·.1)) ∧ fs.length ≤ 1000 ∧ H dx = some (.own a) := by
  obtain ⟨d, z, ne, ob, mA, n, r, q⟩ := (show ObjOk P w H h a (.ins C dx fs) from hok a _ e)
  exact ⟨mA, ⟨ob, n, ne⟩, r, q, z, d⟩
end

/-! ### what of the text a class must have -/
structure Cls (K : PySem.W.Frag) (C : Addr) : Prop where
  pg : PySem.W.plainGet K C Str.empty = true
  hd : PySem.W.hasDictIn K C = true
  po : PySem.W.plainOver K C = true
  sa : PySem.W.findIn K (.ref C) "__setattr__" = some (some (.builtin "object.__setattr__"))
theorem Cls.get {K : PySem.W.Frag} {C : Addr} (c : Cls K C) (f : Str) : PySem.W.plainGet K C f = true := c.pg
/-- no class of it has the name -/
def NoAttr (K : PySem.W.Frag) (C : Addr) (f : Str) : Prop := PySem.W.findIn K (.ref C) f = some none
/-- a constant of the class -/
structure Con (K : PySem.W.Frag) (C : Addr) (f : Str) (v : V) (u : Value) : Prop where
  at_ : PySem.W.findIn K (.ref C) f = some (some u)
  rel : RelV v u
  get : PySem.W.specialIn K u "__get__" = some none
  cp : PySem.W.copiedNames.contains f = false
/-- a method: a plain def of the class or of one above it -/
structure Meth (K : PySem.W.Frag) (C : Addr) (m : Str) (f : Addr) : Prop where
  at_ : PySem.W.findIn K (.ref C) m = some (some (.ref f))
  fn : PySem.W.isFn K (.ref f) = true
  kp : PySem.W.keepIn K (.ref f) = true

section
variable {X : Cx} {pins : List (Addr × Obj)} {σ : St} {H : Hp} {s : Shared} {a C dx : Addr} {fs : List (Str × V)} {f : Str} {v : V} {A : Around} {E : Value → Shared → Prop}

end

/-! ### readings and rules -/
/-- e.f, an attribute of the instance -/
def tFld (K : PySem.W.Frag) (ta : TE) (f : Str) : TE := fun σ H Q => ta σ H fun x H1 => ∃ a C dx fs v, x = .ref a ∧ H1 a = some (.ins C dx fs) ∧ Cls K C ∧ NoAttr K C f ∧ fs.lookup f = some v ∧ Q v H1
/-- e.f, a constant of the class -/
def tCon (K : PySem.W.Frag) (ta : TE) (f : Str) : TE := fun σ H Q => ta σ H fun x H1 => ∃ a C dx fs v u, x = .ref a ∧ H1 a = some (.ins C dx fs) ∧ Cls K C ∧ Con K C f v u ∧ fs.lookup f = none ∧ Q v H1
/-- e.f = value -/
def sFld (K : PySem.W.Frag) (ta tv : TE) (f : Str) : TS := fun D σ H => tv σ H fun y H1 => ta σ H1 fun x H2 => ∃ a C dx fs, x = .ref a ∧ H2 a = some (.ins C dx fs) ∧ Cls K C ∧ NoAttr K C f ∧ fs.length < 1000 ∧
  D.nx σ (upd H2 a (.ins C dx (putF f y fs)))
/-- an augmented operator on two values -/
def InOp (X : Cx) (op : Operator) (rd : V → V → Hp → VK → Prop) : Prop :=
  ∀ (pins : List (Addr × Obj)) (s : Shared) (σ : St) (H : Hp) (x y : V) (u v : Value) (Q : VK), Inv X pins σ H s → RelV x u → RelV y v → rd x y H Q → wpAny (model X.prog X.w) X.A (inplaceOp op u v) (EP X pins σ Q) X.xe s
/-- e.f op= value -/
def sFldAug (K : PySem.W.Frag) (ta tv : TE) (rd : V → V → Hp → VK → Prop) (f : Str) : TS := fun D σ H => ta σ H fun x H1 => ∃ a C dx fs v, x = .ref a ∧ H1 a = some (.ins C dx fs) ∧ Cls K C ∧ NoAttr K C f ∧ fs.lookup f = some v ∧
  tv σ H1 fun y H2 => rd v y H2 fun z H3 => ∃ dx' fs', H3 a = some (.ins C dx' fs') ∧ fs'.length < 1000 ∧ D.nx σ (upd H3 a (.ins C dx' (putF f z fs')))

section
variable {X : Cx} {o e value : Expr} {f : Str} {pos pos' tpos : Pos} {ta tv : TE}
def rAdd : V → V → Hp → VK → Prop := fun x y H Q => ∃ i j, x = .int i ∧ y = .int j ∧ Q (.int (i + j)) H
def rSub : V → V → Hp → VK → Prop := fun x y H Q => ∃ i j, x = .int i ∧ y = .int j ∧ Q (.int (i - j)) H
end

/-! ### isinstance -/
section
variable {X : Cx} {pins : List (Addr × Obj)} {σ : St} {H : Hp} {s : Shared} {A : Around} {E : Value → Shared → Prop} {Q : Value → Shared → Prop} {c : Value} {b : Bool}
/-- the type of a value, as the fragment's deciders take it; for an instance its class -/
inductive TyOf (K : PySem.W.Frag) (H : Hp) : V → Value → Prop where
  | non : TyOf K H .non (.type "NoneType")
  | bl (x : Bool) : TyOf K H (.bl x) (.type "bool")
  | int (i : Int) : TyOf K H (.int i) (.type "int")
  | str (x : Str) : TyOf K H (.str x) (.type "str")
  | flt (x : UInt64) : TyOf K H (.flt x) (.type "float")
  | lst {a : Addr} {xs : List V} (e : H a = some (.lst xs)) : TyOf K H (.ref a) (.type "list")
  | frz {a : Addr} {o : Obj} {xs : List V} (e : H a = some (.frz o (.lst xs))) : TyOf K H (.ref a) (.type "list")
  | tup {a : Addr} {xs : List V} (e : H a = some (.tup xs)) : TyOf K H (.ref a) (.type "tuple")
  | dK {a : Addr} {kvs : List (Key × V)} (e : H a = some (.dK kvs)) : TyOf K H (.ref a) (.type "dict")
  | dT {a : Addr} {kvs : List (List Key × V)} (e : H a = some (.dT kvs)) : TyOf K H (.ref a) (.type "dict")
  | ins {a C dx : Addr} {fs : List (Str × V)} (e : H a = some (.ins C dx fs)) (cl : Cls K C) (ha : PySem.W.findIn K (.ref C) "__class__" = some (some (.builtin "object.__class__")))
      (hn : PySem.W.specialIn K (.builtin "object.__class__") "__get__" = some (some (.builtin "getset_descriptor.__get__"))) (htk : PySem.W.takesIn K (.builtin "object.__class__") = some true)
      (hm : PySem.W.mroIn K C (.type "object") = some true) : TyOf K H (.ref a) (.ref C)
/-- isinstance(x, c) for one class c, a built-in or an own one: kitOne's answer -/
theorem isinst_ok {x : V} {u t : Value} (I : Inv X pins σ H s) (rx : RelV x u) (ty : TyOf X.K H x t) (e : PySem.W.kitOne X.K t c = some b) (h : ∀ tk, Q (.bool b) { s with toks := tk }) :
    wpAny (model X.prog X.w) A (call (.builtin "isinstance") [u, c]) Q E s := by
  cases ty with
  | non => cases (show u = Value.none from rx); exact PySem.W.kia_one PySem.W.kitx_none I.kIn True.intro e (fun z => nomatch z) h
  | bl y => cases (show u = Value.bool y from rx); exact PySem.W.kia_one PySem.W.kitx_bool I.kIn True.intro e (fun z => nomatch z) h
  | int i => obtain ⟨t, q⟩ := (show ∃ t, u = Value.int i t from rx); cases q; exact PySem.W.kia_one PySem.W.kitx_int I.kIn True.intro e (fun z => nomatch z) h
  | str y => obtain ⟨t, q⟩ := (show ∃ t, u = Value.str y t from rx); cases q; exact PySem.W.kia_one PySem.W.kitx_str I.kIn True.intro e (fun z => nomatch z) h
  | flt y => obtain ⟨t, q⟩ := (show ∃ t, u = Value.float y t from rx); cases q; exact PySem.W.kia_one PySem.W.kitx_float I.kIn True.intro e (fun z => nomatch z) h
  | @lst a xs ea =>
    cases (show u = Value.ref a from rx)
    obtain ⟨_, _, n, _, h1⟩ := (show ObjOk X.prog X.w H s.heap a (.lst xs) from I.hok a _ ea)
    exact PySem.W.kia_one PySem.W.kitx_list I.kIn ⟨_, h1, rfl⟩ e (fun z => nomatch z) h
  | @frz a ob xs ea =>
    cases (show u = Value.ref a from rx)
    obtain ⟨_, _, _, n, _, h1⟩ := (show ObjOk X.prog X.w H s.heap a (.frz ob (.lst xs)) from I.hok a _ ea)
    exact PySem.W.kia_one PySem.W.kitx_list I.kIn ⟨_, h1, rfl⟩ e (fun z => nomatch z) h
  | @tup a xs ea =>
    cases (show u = Value.ref a from rx)
    obtain ⟨_, _, _, p⟩ := (show ObjOk X.prog X.w H s.heap a (.tup xs) from I.hok a _ ea)
    obtain ⟨o, h1, h2, _⟩ := p
    exact PySem.W.kia_one PySem.W.kitx_tuple I.kIn ⟨o, h1, h2⟩ e (fun z => nomatch z) h
  | @dK a kvs ea =>
    cases (show u = Value.ref a from rx)
    obtain ⟨_, _, vs, _, p⟩ := (show ObjOk X.prog X.w H s.heap a (.dK kvs) from I.hok a _ ea)
    obtain ⟨o, es, ep, h1, h2, _⟩ := p
    exact PySem.W.kia_one PySem.W.kitx_dict I.kIn ⟨o, h1, h2.1⟩ e (fun z => nomatch z) h
  | @dT a kvs ea =>
    cases (show u = Value.ref a from rx)
    obtain ⟨_, _, xs, _, o, es, ep, h1, h2, _⟩ := (show ObjOk X.prog X.w H s.heap a (.dT kvs) from I.hok a _ ea)
    exact PySem.W.kia_one PySem.W.kitx_dict I.kIn ⟨o, h1, h2.1⟩ e (fun z => nomatch z) h
  | @ins a C dx fs ea cl ha hn htk hm =>
    cases (show u = Value.ref a from rx)
    obtain ⟨mA, O, _⟩ := ins_get I.hok ea
    obtain ⟨od, J, _⟩ := O.look
    exact PySem.W.kia_one (PySem.W.kitx_own (cl.get _) cl.hd ha hn htk hm) I.kIn J e (fun z => nomatch z) h
end
end L2

namespace L2
open PySem PySem.Spec PyProof.Rows

/-! ### room -/
structure Room (k : Nat) (A : Around) : Prop where
  hd : A.handled = none
  dp : A.depth + 3 * k + 5 < recursionLimit
  un : A.units + 16 * k + 200 < cLine
theorem Room.mono {j k : Nat} {A : Around} (r : Room k A) (h : j ≤ k) : Room j A := ⟨r.hd, by have := r.dp; omega, by have := r.un; omega⟩
theorem Room.deeper {k : Nat} {A : Around} (r : Room (k + 1) A) (env : Env) : Room k (A.deeper env) :=
  ⟨r.hd, by have := r.dp; show A.depth + 1 + 3 * k + 5 < _; omega, by have := r.un; show A.units + 3 + 16 * k + 200 < _; omega⟩
theorem Room.depth {k : Nat} {A : Around} (r : Room k A) : A.depth < recursionLimit := by have := r.dp; omega
theorem Room.units {k : Nat} {A : Around} (r : Room k A) : A.units + 64 < cLine := by have := r.un; omega
/-! ### argument lists and displays -/
def tNil : TA := fun _ H Q => Q [] H
def tCons (ta : TE) (tr : TA) : TA := fun σ H Q => ta σ H fun x H1 => tr σ H1 fun xs H2 => Q (x :: xs) H2
section
variable {X : Cx} {e : Expr} {es : List Expr} {te : TE} {t : TA} {pos : Pos}
theorem pa_nil : PA X [] tNil := fun _ _ _ _ H Q I h => Calls.spliced_nil ⟨[], H, I, .nil, h⟩
theorem pa_cons (ha : PE X e te) (hr : PA X es t) (hs : starEach (e :: es) X.env = (false, eval e X.env) :: starEach es X.env := by rfl) : PA X (e :: es) (tCons te t) := by
  intro pos pins s σ H Q I h
  rw [hs]
  show wpAny _ _ (spliced ((false, eval e X.env) :: backTo pos (starEach es X.env))) _ _ s
  refine Calls.spliced_cons (thn (ha pins s σ H _ I h) fun u s1 ⟨x, H1, I1, r1, q1⟩ => ?_)
  exact thn (hr pos pins s1 σ H1 _ I1 q1) fun us s2 ⟨xs, H2, I2, r2, q2⟩ => ⟨x :: xs, H2, I2, .cons r1 r2, q2⟩

/-- a tuple, a list of written items -/
def tTup (t : TA) : TE := fun σ H Q => t σ H fun xs H1 => xs.length ≤ sizeLine ∧ ∀ p, H1 p = none → Q (.ref p) (upd H1 p (.tup xs))
def tLst (t : TA) : TE := fun σ H Q => t σ H fun xs H1 => xs.length ≤ sizeLine ∧ ∀ p, H1 p = none → Q (.ref p) (upd H1 p (.lst xs))
theorem pe_tup {x1} (h : PA X es t) : PE X (.Tuple es x1 pos) (tTup t) := by
  intro pins s σ H Q I hq
  refine wpAny_Tuple_spliced (thn (h pos pins s σ H _ I hq) fun us s1 ⟨xs, H1, I1, r, z, q⟩ => ⟨by rw [← r.length]; exact z, ?_⟩)
  have hf : H1 s1.heap.objs.size = none := I1.hok.fresh (Nat.le_refl _)
  refine ⟨.ref s1.heap.objs.size, upd H1 s1.heap.objs.size (.tup xs), I1.laid (t' := s1.toks) (fun b u e => Heap.get?_push_of_some _ e) (Nat.le_refl _) ?_, rfl, q _ hf⟩
  exact ⟨z, us, r, ⟨_, Heap.get?_push_size _ rfl, rfl, _, rfl⟩⟩
theorem pe_lst (h : PA X es t) : PE X (.List es pos) (tLst t) := by
  intro pins s σ H Q I hq
  refine wpAny_List_spliced (thn (h pos pins s σ H _ I hq) fun us s1 ⟨xs, H1, I1, r, z, q⟩ => ⟨by rw [← r.length]; exact z, ?_⟩)
  have hf : H1 s1.heap.objs.size = none := I1.hok.fresh (Nat.le_refl _)
  refine ⟨.ref s1.heap.objs.size, upd H1 s1.heap.objs.size (.lst xs), I1.laid (t' := s1.toks) (fun b u e => Heap.get?_push_of_some _ e) (Nat.le_refl _) ?_, rfl, q _ hf⟩
  exact ⟨z, us, 0, r, Heap.get?_push_size _ rfl⟩
end

/-! ### what a def promises -/
/-- a def's promise: the bound arguments in the parameters' order, the heap, the wanted end, the wanted exception -/
abbrev Sp := List V → Hp → VK → XK → Prop
/-- how an exception lies behind a call (file 08 gives it): the callers' frames, abstract heap and state ahead of the call, the wish, the exception, the state -/
abbrev CXT := List Env → Hp → Shared → XK → Value → Shared → Prop

/-- the state at a call -/
structure Env0 (P : Program) (w : World) (K : PySem.W.Frag) (mg : Str → Option Value) (base : Heap) (A : Around) (outer : List Env) (s : Shared) (H : Hp) : Prop where
  frames : A.frames = some outer
  mod : Mod K mg base
  bs : ∀ b o, base.get? b = some o → s.heap.get? b = some o ∧ H b = none
  bsz : base.objs.size ≤ s.heap.objs.size
  funs : s.heap.FunFrames base outer
  frf : ∀ b ∈ frs outer, H b = none
  hok : HOk P w H s.heap
  bare : AllBare s.gens
/-- a call's end -/
def CE (outer : List Env) (P : Program) (w : World) (H : Hp) (s : Shared) (Q : VK) (u : Value) (s' : Shared) : Prop :=
  ∃ v H', s'.os = s.os ∧ AllBare s'.gens ∧ Un (frs outer) [] H H' s.heap s'.heap ∧ HOk P w H' s'.heap ∧ RelV v u ∧ Q v H'
def CR (CX : CXT) (outer : List Env) (P : Program) (w : World) (H : Hp) (s : Shared) (Q : VK) (E : XK) (r : Result) (s' : Shared) : Prop :=
  match r with
  | .ok (.ret u) => CE outer P w H s Q u s'
  | .ok _ => False
  | .error e => CX outer H s E e s'
structure FnOk (P : Program) (w : World) (K : PySem.W.Frag) (mg : Str → Option Value) (base : Heap) (CX : CXT) (k : Nat) (f : Addr) (fd : FuncData) (ps : List Str) (sp : Sp) : Prop where
  len : ∀ vs H Q E, sp vs H Q E → vs.length = ps.length
  run : ∀ (A : Around) (outer : List Env) (s : Shared) (H : Hp) (args : Args) (us : List Value) (vs : List V) (Q : VK) (E : XK), Room k A → Env0 P w K mg base A outer s H → BindsTo s fd args (ps.zip us) → Vals vs us → sp vs H Q E →
    codeAny (model P w) A (.call (.ref f) args) (CR CX outer P w H s Q E) s
section
variable {X : Cx} {pins : List (Addr × Obj)} {σ : St} {H : Hp} {s s' : Shared}
/-- from a body: what a callee wants -/
theorem Inv.env0 (I : Inv X pins σ H s) : Env0 X.prog X.w X.K X.mg X.base X.A X.stack s H :=
  ⟨I.ok.frames, I.ok.mod, I.bs, Nat.le_trans I.ok.bsz I.sz, I.stack, I.stkFree, I.hok, I.bare⟩
/-- behind a call -/
theorem Inv.after {Q : VK} {u : Value} (I : Inv X pins σ H s) (h : CE X.stack X.prog X.w H s Q u s') : EP X pins σ Q u s' := by
  obtain ⟨v, H', os, bare, un, hok, r, q⟩ := h
  obtain ⟨hh, g, d, t, os'⟩ := s'
  obtain rfl : os' = s.os := os
  exact ⟨v, H', I.call (h' := hh) (g' := g) (d' := d) (t' := t) (ch := []) un hok bare (fun b z => absurd z (by simp)), r, q⟩
end

/-! ### calls -/
/-- f(..): the written arguments, then the defaults dvs; E: what is wanted of an exception -/
def tCall (sp : Sp) (dvs : List V) (E : XK) (t : TA) : TE := fun σ H Q => t σ H fun vs H1 => sp (vs ++ dvs) H1 Q E
/-- o.m(..) of an instance of the class at C -/
def tMeth (C : Addr) (m : Str) (sp : Sp) (dvs : List V) (E : XK) (ta : TE) (t : TA) : TE := fun σ H Q => ta σ H fun x H1 => ∃ a dx fs, x = .ref a ∧ H1 a = some (.ins C dx fs) ∧ fs.lookup m = none ∧
  t σ H1 fun vs H2 => sp (x :: (vs ++ dvs)) H2 Q E
/-- C(..): a new instance and its dict, then __init__ -/
def tMake (C : Addr) (sp : Sp) (dvs : List V) (E : XK) (t : TA) : TE := fun σ H Q => t σ H fun vs H1 => ∀ x dx, H1 x = none → H1 dx = none → dx ≠ x →
  sp (.ref x :: (vs ++ dvs)) (upd (upd H1 dx (.own x)) x (.ins C dx [])) (fun v H2 => v = .non ∧ Q (.ref x) H2) E

/-- how the parameters are bound: us the positional arguments, kw the keywords' values by name, ds the defaults that fill up -/
def Binds (K : PySem.W.Frag) (fd : FuncData) (ps : List Str) (ds : List Value) : Prop :=
  ∀ (s : Shared) (us : List Value), K.In s.heap → (us ++ ds).length = ps.length → BindsTo s fd ⟨us, []⟩ (ps.zip (us ++ ds))
/-- every parameter is given -/
theorem Binds.all {K : PySem.W.Frag} {fd : FuncData} {ps : List Str} (h : ∀ us : List Value, us.length = ps.length → bindArgs fd ⟨us, []⟩ = pure (ps.zip us)) : Binds K fd ps [] := fun s us _ hl => by
  rw [List.append_nil] at hl ⊢
  exact .of_eq (h us hl)

/-- an exception of a callee reaches what this body wants of exceptions -/
def Passes (CX : CXT) (X : Cx) (E : XK) : Prop := ∀ (pins : List (Addr × Obj)) (σ : St) (H : Hp) (s : Shared) (e : Value) (s' : Shared), Inv X pins σ H s → CX X.stack H s E e s' → X.xe e s'

section
variable {X : Cx} {CX : CXT} {k : Nat} {f C : Addr} {fd : FuncData} {ps : List Str} {sp : Sp} {dvs : List V} {ds : List Value} {E : XK} {x m : Str} {p pos apos : Pos} {e o : Expr} {es : List Expr} {ta : TE} {t : TA}

/-- the callee runs -/
theorem run_fn {pins : List (Addr × Obj)} {σ : St} {H : Hp} {s : Shared} {Q : VK} {us : List Value} {vs : List V} (F : FnOk X.prog X.w X.K X.mg X.base CX k f fd ps sp) (hr : Room k X.A) (hb : Binds X.K fd ps ds) (hd : Vals dvs ds) (hx : Passes CX X E)
    (I : Inv X pins σ H s) (r : Vals vs us) (h : sp (vs ++ dvs) H Q E) : wpAny (model X.prog X.w) X.A (call (.ref f) us) (EP X pins σ Q) X.xe s := by
  have r2 : Vals (vs ++ dvs) (us ++ ds) := r.append hd
  have hl : (us ++ ds).length = ps.length := by rw [← r2.length]; exact F.len _ _ _ _ h
  refine wpAny_call (codeAny_mono (F.run X.A X.stack s H ⟨us, []⟩ (us ++ ds) (vs ++ dvs) Q E hr I.env0 (hb s us I.kIn hl) r2 h) fun r s' hq => ?_)
  cases r with
  | error e => exact hx pins σ H s e s' I hq
  | ok fl =>
    cases fl with
    | ret u => exact I.after hq
    | next => exact False.elim hq
    | brk => exact False.elim hq
    | cont => exact False.elim hq

theorem pe_call (F : FnOk X.prog X.w X.K X.mg X.base CX k f fd ps sp) (hr : Room k X.A) (hg : Gl X x) (hm : X.mg x = some (.ref f)) (hk : PySem.W.keepIn X.K (.ref f) = true) (hb : Binds X.K fd ps ds) (hd : Vals dvs ds) (hx : Passes CX X E)
    (ha : PA X (e :: es) t) (hdb : (x == ("__debug__" : Str)) = false := by decide) (he : starEach (e :: es) X.env = (false, eval e X.env) :: starEach es X.env := by rfl) (hpl : (backTo pos (starEach es X.env)).any (·.1) = false := by rfl) :
    PE X (.Call (.Name x p) (e :: es) [] pos) (tCall sp dvs E t) := by
  intro pins s σ H Q I h
  refine wpAny_Call_Name_kw (ld_glob I hg hm ?_ hdb)
  refine PySem.W.callWith_K (h₀ := X.base) I.ok.mod.kin hk (thn (ha pos pins s σ H _ I h) fun us s1 ⟨vs, H1, I1, r, q⟩ => ⟨I1.kIn, ?_⟩) he hpl
  exact run_fn F hr hb hd hx I1 r q
/-- what a class must have to be made -/
structure Mk (K : PySem.W.Frag) (C f : Addr) : Prop where
  makes : PySem.W.makesIn K C = true
  init : PySem.W.findIn K (.ref C) "__init__" = some (some (.ref f))
  fn : PySem.W.isFn K (.ref f) = true
  kp : PySem.W.keepIn K (.ref C) = true

end

/-! ### keywords -/
/-- the values of the keywords, from the left -/
def PK (X : Cx) (kws : List Keyword) (t : TA) : Prop :=
  ∀ (pos : Pos) (pins : List (Addr × Obj)) (s : Shared) (σ : St) (H : Hp) (Q : List V → Hp → Prop), Inv X pins σ H s → t σ H Q → wpAny (model X.prog X.w) X.A (evalAll ((backToKw pos (keywordEach kws X.env)).map (·.2))) (AP X pins σ Q) X.xe s
section
variable {X : Cx} {CX : CXT} {k : Nat} {f C : Addr} {fd : FuncData} {ps ks : List Str} {sp : Sp} {E : XK} {x m : Str} {p pos apos kpos : Pos} {e o : Expr} {es : List Expr} {kws : List Keyword} {te ta : TE} {t tk : TA} {nm : Option Str}
/-- how a call with keywords binds: g puts the positional values us and the keywords' values ws (names ks) in the parameters' order, defaults among them -/
structure KBinds (K : PySem.W.Frag) (fd : FuncData) (ps ks : List Str) (g : List Value → List Value → List Value) (gV : List V → List V → List V) : Prop where
  to : ∀ (s : Shared) (us ws : List Value), K.In s.heap → (g us ws).length = ps.length → BindsTo s fd ⟨us, ks.zip ws⟩ (ps.zip (g us ws))
  rel : ∀ {vs : List V} {us : List Value} {zs : List V} {ws : List Value}, Vals vs us → Vals zs ws → Vals (gV vs zs) (g us ws)
def tCallK (sp : Sp) (gV : List V → List V → List V) (E : XK) (t tk : TA) : TE := fun σ H Q => t σ H fun vs H1 => tk σ H1 fun zs H2 => sp (gV vs zs) H2 Q E
variable {g : List Value → List Value → List Value} {gV : List V → List V → List V}
end

/-! ### a def's body keeps its promise -/
/-- names: the parameters first -/
structure FnScope (N P : List Str) (sc : Scope) : Prop where
  kind : sc.kind = .function
  co : sc.isCoroutine = false
  gen : sc.isGenerator = false
  nd : N.Nodup
  pre : N.take P.length = P
  par : ∀ x ∈ P, sc.names.lookup x = some .local ∨ sc.names.lookup x = some .cell
  nofree : ∀ y ∈ sc.names, y.2 ≠ .free

theorem bindL_out {kindOf : Str → Option NameKind} {x : Str} : ∀ {binds : List (Str × Value)} {m : Str → Option Value}, (∀ v, (x, v) ∉ binds) → bindL kindOf binds m x = m x
  | [], _, _ => rfl
  | (n, v) :: r, m, h => by
    unfold bindL
    rw [bindL_out fun w hw => h w (List.mem_cons_of_mem _ hw)]
    split
    · have : x ≠ n := by rintro rfl; exact h v List.mem_cons_self
      simp [this]
    · rfl
theorem bindC_out {kindOf : Str → Option NameKind} {x : Str} : ∀ {binds : List (Str × Value)} {m : Str → Option Value}, (∀ v, (x, v) ∉ binds) → bindC kindOf binds m x = m x
  | [], _, _ => rfl
  | (n, v) :: r, m, h => by
    unfold bindC
    rw [bindC_out fun w hw => h w (List.mem_cons_of_mem _ hw)]
    split
    · rfl
    · have : x ≠ n := by rintro rfl; exact h v List.mem_cons_self
      simp [this]
theorem bindL_get {kindOf : Str → Option NameKind} {x : Str} {v : Value} : ∀ {P : List Str} {vs : List Value} {i : Nat} {m : Str → Option Value}, P.Nodup → P[i]? = some x → vs[i]? = some v → kindOf x = some .local →
    bindL kindOf (P.zip vs) m x = some v
  | [], _, _, _, _, h, _, _ => by simp at h
  | _ :: _, [], _, _, _, _, h, _ => by simp at h
  | p :: P, w :: vs, 0, m, nd, h1, h2, hk => by
    simp at h1 h2; subst h1; subst h2
    show bindL kindOf ((p, w) :: P.zip vs) m p = _
    unfold bindL
    rw [bindL_out fun v hv => (List.nodup_cons.mp nd).1 (List.of_mem_zip hv).1, if_pos hk]
    simp
  | p :: P, w :: vs, i + 1, m, nd, h1, h2, hk => by
    show bindL kindOf ((p, w) :: P.zip vs) m x = _
    unfold bindL
    exact bindL_get (i := i) (List.nodup_cons.mp nd).2 (by simpa using h1) (by simpa using h2) hk
theorem bindC_get {kindOf : Str → Option NameKind} {x : Str} {v : Value} : ∀ {P : List Str} {vs : List Value} {i : Nat} {m : Str → Option Value}, P.Nodup → P[i]? = some x → vs[i]? = some v → kindOf x ≠ some .local →
    bindC kindOf (P.zip vs) m x = some v
  | [], _, _, _, _, h, _, _ => by simp at h
  | _ :: _, [], _, _, _, _, h, _ => by simp at h
  | p :: P, w :: vs, 0, m, nd, h1, h2, hk => by
    simp at h1 h2; subst h1; subst h2
    show bindC kindOf ((p, w) :: P.zip vs) m p = _
    unfold bindC
    rw [bindC_out fun v hv => (List.nodup_cons.mp nd).1 (List.of_mem_zip hv).1, if_neg hk]
    simp
  | p :: P, w :: vs, i + 1, m, nd, h1, h2, hk => by
    show bindC kindOf ((p, w) :: P.zip vs) m x = _
    unfold bindC
    exact bindC_get (i := i) (List.nodup_cons.mp nd).2 (by simpa using h1) (by simpa using h2) hk

/-- the names' values at the entry -/
def start (N : List Str) (vs : List V) : St := vs.map some ++ List.replicate (N.length - vs.length) none

/-- the context of a def's body, at its entry; an exception leaves the frame, then lies as CX says -/
def cxOf (CX : CXT) (P : Program) (w : World) (K : PySem.W.Frag) (mg : Str → Option Value) (base : Heap) (N : List Str) (qual : Str) (scope : Scope) (f : Addr) (cd : Value) (A : Around) (outer : List Env) (s : Shared) (H : Hp) (E : XK) : Cx where
  prog := P
  w := w
  K := K
  mg := mg
  base := base
  A := A.deeper (envOfC qual scope s.heap.objs.size f cd)
  N := N
  s₀ := s
  H₀ := H
  env := envOfC qual scope s.heap.objs.size f cd
  outer := outer
  stack := envOfC qual scope s.heap.objs.size f cd :: outer
  ex := []
  calm := true
  fn := fun _ => true
  pn := []
  xe := fun e s' => wpAny (model P w) (A.deeper (envOfC qual scope s.heap.objs.size f cd)) (leaving (envOfC qual scope s.heap.objs.size f cd) e) (fun _ s'' => CX outer H s E e s'') (fun e' s'' => CX outer H s E e' s'') s'

theorem cell_has {sc : Scope} {n : Nat} {x : Str} (h : sc.names.lookup x = some .cell) : ∃ c, (cellsFrom n sc.names []).lookup x = some c := by
  have q := PySem.W.cellsFrom_some sc.names n [] (.inl h)
  exact Option.isSome_iff_exists.mp q

theorem inv_start {CX : CXT} {P : Program} {w : World} {K : PySem.W.Frag} {mg : Str → Option Value} {base : Heap} {N ps : List Str} {qual : Str} {scope : Scope} {f : Addr} {cd : Value} {A : Around} {outer : List Env} {s s1 : Shared} {H : Hp} {E : XK} {us : List Value} {vs : List V}
    (S : FnScope N ps scope) (hd : A.handled = none) (e0 : Env0 P w K mg base A outer s H) (hl : vs.length = ps.length) (r : Vals vs us)
    (x : InCallC s s.heap.objs.size (bindL (envOfC qual scope s.heap.objs.size f cd).kindOf (ps.zip us) fun _ => none) (cellsFrom (s.heap.objs.size + 1) scope.names []) (bindC (envOfC qual scope s.heap.objs.size f cd).kindOf (ps.zip us) fun _ => none) s1) :
    Inv (cxOf CX P w K mg base N qual scope f cd A outer s H E) [] (start N vs) H s1 := by
  have hpl : ps.length ≤ N.length := by have := congrArg List.length S.pre; rw [List.length_take] at this; omega
  obtain ⟨h1, tk, rfl, hk⟩ := x.done
  have noA : ∀ b : Addr, b ∉ (cxOf CX P w K mg base N qual scope f cd A outer s H E).ex := fun b z => absurd (show b ∈ ([] : List Addr) from z) (by simp)
  refine ⟨⟨e0.mod, S.kind, rfl, rfl, Nat.le_refl _, fun y z c h1 h2 => ?_, fun y hy => ?_, fun y c _ h => ?_, fun _ => hd, Around.frames_deeper e0.frames, .inr ⟨rfl, rfl⟩, fun b z => absurd z (noA b), e0.bs, e0.bsz, fun b _ _ => noA b, fun b z => absurd z (noA b), e0.funs, e0.frf⟩,
    rfl, e0.bare, Un.kept hk, ⟨_, x.toInCall.ns, fun i y v h1 h2 h3 => ?_⟩, fun y c h => ⟨_, x.cell y c h⟩, e0.hok.fresh (Nat.le_refl _), fun y c h => ?_, fun p hp => absurd (show p ∈ ([] : List (Addr × Obj)) from hp) (by simp), e0.hok.kept hk, ?_⟩
  · exact name_of_addr x.apart (PySem.mem_of_lookup h1) (PySem.mem_of_lookup h2)
  · have hy : scope.names.lookup y = some .cell ∨ scope.names.lookup y = some .free := hy
    rcases hy with hy | hy
    · exact cell_has hy
    · exact absurd rfl (S.nofree _ (PySem.mem_of_lookup hy))
  · exact Nat.le_of_lt (x.above y c (PySem.mem_of_lookup h))
  · have hi : i < vs.length := by
      unfold start at h2
      by_cases hi : i < vs.length
      · exact hi
      · rw [List.getElem?_append_right (by simpa using hi)] at h2
        rw [List.getElem?_replicate] at h2
        split at h2 <;> cases h2
    have ha : vs[i]? = some v := by
      unfold start at h2
      rw [List.getElem?_append_left (by simpa using hi), List.getElem?_map] at h2
      cases e : vs[i]? with
      | none => rw [e] at h2; cases h2
      | some a => rw [e] at h2; cases h2; rfl
    obtain ⟨u, hu, rv⟩ := r.get ha
    have hp : ps[i]? = some y := by
      rw [← S.pre, List.getElem?_take_of_lt (by omega)]; exact h1
    have ndP : ps.Nodup := by rw [← S.pre]; exact S.nd.sublist (List.take_sublist _ _)
    refine ⟨u, rv, ?_⟩
    rcases S.par y (List.mem_of_getElem? hp) with k | k
    · exact .inl ⟨k, bindL_get ndP hp hu k⟩
    · obtain ⟨c, e⟩ := cell_has (n := s.heap.objs.size + 1) k
      refine .inr ⟨.inl k, c, e, ?_⟩
      have q := x.cell y c e
      rw [bindC_get ndP hp hu (by show scope.names.lookup y ≠ _; rw [k]; decide)] at q
      exact q
  · exact e0.hok.fresh (Nat.le_of_lt (x.above y c (PySem.mem_of_lookup h)))
  · unfold start
    show _ = N.length
    rw [List.length_append, List.length_map, List.length_replicate]
    omega

/-- THE RULE: a def (or a method) of the text, by its body. The body's reading t is chosen for each entry; it is run at the parameters' values -/
theorem fn_of {CX : CXT} {P : Program} {w : World} {K : PySem.W.Frag} {mg : Str → Option Value} {base : Heap} {k : Nat} {f : Addr} {name qual : Str} {params : Arguments} {body : List Stmt} {scope : Scope} {dV kV doc pm cdv ct oc : Value} {an od : Option Addr}
    {osl : Array (Option Value)} {N ps : List Str} {sp : Sp} (lk : K.lookup f = some ⟨oc, od, .func (PySem.W.fnOf name qual params body scope dV kV doc pm an cdv ct), osl⟩) (hcd : PySem.W.codeIn K cdv qual = true) (S : FnScope N ps scope)
    (len : ∀ vs H Q E, sp vs H Q E → vs.length = ps.length)
    (hbody : ∀ (A : Around) (outer : List Env) (s : Shared) (H : Hp) (vs : List V) (Q : VK) (E : XK), Room k (A.deeper (envOfC qual scope s.heap.objs.size f cdv)) → sp vs H Q E →
      ∃ t, PSs (cxOf CX P w K mg base N qual scope f cdv A outer s H E) body t ∧ t { nx := fun _ H' => Q .non H', rt := Q } (start N vs) H) :
    FnOk P w K mg base CX (k + 1) f (PySem.W.fnOf name qual params body scope dV kV doc pm an cdv ct) ps sp := by
  refine ⟨len, fun A outer s H args us vs Q E hr e0 hb r hsp => ?_⟩
  have hl := len _ _ _ _ hsp
  have KX : K.In s.heap := e0.mod.kin.keeps fun b o e => (e0.bs b o e).1
  have lim : s.heap.NoLimit := e0.mod.nolimit.keeps fun b o e => (e0.bs b o e).1
  have hkind : ∀ y ∈ ps.zip us, scope.names.lookup y.1 = some .local ∨ (scope.names.lookup y.1 = some .cell ∧ ((cellsFrom (s.heap.objs.size + 1) scope.names []).lookup y.1).isSome = true) := fun ⟨n, v⟩ hy => by
    rcases S.par n (List.of_mem_zip hy).1 with q | q
    · exact .inl q
    · exact .inr ⟨q, PySem.W.cellsFrom_some _ _ _ (.inl q)⟩
  refine codeAny_call_function hr.depth (KX _ _ lk) rfl S.co S.gen rfl (PySem.W.codeRec_of KX hcd) (hb _ _ _ _ ?_)
  refine wpAny_newFunctionEnv_cells S.kind hkind fun env he s1 x => ?_
  subst he
  refine ⟨lim.keeps x.toInCall.keep, codeAny_func ?_⟩
  obtain ⟨t, ht, hq⟩ := hbody A outer s H vs Q E (hr.deeper _) hsp
  have I : Inv (cxOf CX P w K mg base N qual scope f cdv A outer s H E) [] (start N vs) H s1 := inv_start S hr.hd e0 hl r x
  refine wpAny_mono (ht [] s1 (start N vs) H _ I hq) (fun fl s' hs => ?_) fun e s' hs => hs
  have fin : ∀ {σ' : St} {H' : Hp} {v : V} {u : Value}, Inv (cxOf CX P w K mg base N qual scope f cdv A outer s H E) [] σ' H' s' → RelV v u → Q v H' → CE outer P w H s Q u s' :=
    fun {σ' H' v u} J rv q => ⟨v, H', J.os, J.bare, J.base, J.hok, rv, q⟩
  cases fl with
  | ret u =>
    obtain ⟨v, σ', H', J, rv, q⟩ := hs
    exact fin J rv q
  | next =>
    obtain ⟨σ', H', J, q⟩ := hs
    exact fin (v := V.non) (u := Value.none) J rfl q
  | brk =>
    obtain ⟨_, _, _, q⟩ := hs
    exact False.elim q
  | cont =>
    obtain ⟨_, _, _, q⟩ := hs
    exact False.elim q
end L2

namespace L2
open PySem PySem.Spec PyProof.Rows
section
variable {X : Cx} {x : Str} {p pos : Pos} {e : Expr} {es : List Expr} {t : TA} {id T : String} {r : List V → Hp → VK → Prop}

def tCB (r : List V → Hp → VK → Prop) (t : TA) : TE := fun σ H Q => t σ H fun vs H1 => r vs H1 Q
/-- f(e, ..), f a built-in function -/
theorem pe_callB (hc : CallR X (.builtin id) r) (hg : Gl X x) (hm : X.mg x = none) (hv : bootBuiltins x = some (.builtin id)) (ha : PA X (e :: es) t) (hn : x ≠ "__name__" := by decide) (hdb : (x == ("__debug__" : Str)) = false := by decide)
    (he : starEach (e :: es) X.env = (false, eval e X.env) :: starEach es X.env := by rfl) (hpl : (backTo pos (starEach es X.env)).any (·.1) = false := by rfl) : PE X (.Call (.Name x p) (e :: es) [] pos) (tCB r t) := by
  intro pins s σ H Q I h
  refine wpAny_Call_Name_kw (ld_blt I hg hm hv ?_ hn hdb)
  exact PyProof.Rows.callWith_builtin1 (thn (ha pos pins s σ H _ I h) fun us s1 ⟨vs, H1, I1, r1, q1⟩ => hc pins s1 σ H1 vs us Q I1 r1 q1) he hpl
/-- T(e, ..), T a built-in type -/
theorem pe_callTy (hc : CallR X (.type T) r) (hg : Gl X x) (hm : X.mg x = none) (hv : bootBuiltins x = some (.type T)) (ha : PA X (e :: es) t) (hn : x ≠ "__name__" := by decide) (hdb : (x == ("__debug__" : Str)) = false := by decide)
    (he : starEach (e :: es) X.env = (false, eval e X.env) :: starEach es X.env := by rfl) (hpl : (backTo pos (starEach es X.env)).any (·.1) = false := by rfl) : PE X (.Call (.Name x p) (e :: es) [] pos) (tCB r t) := by
  intro pins s σ H Q I h
  refine wpAny_Call_Name_kw (ld_blt I hg hm hv ?_ hn hdb)
  exact PyProof.Rows.callWith_type1 (thn (ha pos pins s σ H _ I h) fun us s1 ⟨vs, H1, I1, r1, q1⟩ => hc pins s1 σ H1 vs us Q I1 r1 q1) he hpl
end
end L2

namespace HT
open PySem PyProof.Rows

/-- t < u of tuples of ints -/
def lexLt : List Int → List Int → Bool
  | [], [] => false
  | [], _ :: _ => true
  | _ :: _, [] => false
  | x :: xs, y :: ys => if x = y then lexLt xs ys else decide (x < y)
section
open PySem.SeqAt
open PySem.AutoSeq1 (wpAny_loadPart')
open PySem.MeetsSeq PySem.MeetsSeq2 PySem.MeetsSeq3

end

section
variable {prog : Program} {w : World} {A : Around} {E : Value → Shared → Prop} {s : Shared}

/-! ### t[a:b], not the whole -/
/-- a slice's bound as a place among n (d where it is left out) -/
def sIx (n d : Nat) : Option Int → Nat
  | none => d
  | some v => if v < 0 then (v + (n : Int)).toNat else min v.toNat n
theorem sIx_none (n d : Nat) : sIx n d none = d := rfl
theorem sIx_nat (n d k : Nat) : sIx n d (some (k : Int)) = min k n := by
  show (if (k : Int) < 0 then ((k : Int) + (n : Int)).toNat else min (k : Int).toNat n) = min k n
  rw [if_neg (by omega), Int.toNat_natCast]
theorem sIx_le (n d : Nat) (hd : d ≤ n) (o : Option Int) : sIx n d o ≤ n := by
  cases o with
  | none => exact hd
  | some v =>
    show (if v < 0 then (v + (n : Int)).toNat else min v.toNat n) ≤ n
    by_cases hv : v < 0
    · rw [if_pos hv]; omega
    · rw [if_neg hv]; exact Nat.min_le_right _ _
theorem clip_eq (v : Int) (n d : Nat) : (if v < 0 then max (v + (n : Int)) 0 else min v (n : Int)) = ((sIx n d (some v) : Nat) : Int) := by
  show (if v < 0 then max (v + (n : Int)) 0 else min v (n : Int)) = (((if v < 0 then (v + (n : Int)).toNat else min v.toNat n) : Nat) : Int)
  by_cases hv : v < 0
  · simp only [if_pos hv]; omega
  · simp only [if_neg hv]; omega
theorem adjust_gen (lo hi : Option Int) (n : Nat) : Builtin.Slice.sliceAdjust lo hi 1 (n : Int) = (((sIx n 0 lo : Nat) : Int), ((sIx n n hi : Nat) : Int)) := by
  have h1 : ¬ ((1 : Int) < 0) := by omega
  unfold Builtin.Slice.sliceAdjust
  simp only [h1, if_false]
  refine Prod.ext ?_ ?_
  · cases lo with
    | none => rfl
    | some v => exact clip_eq v n 0
  · cases hi with
    | none => rfl
    | some v => exact clip_eq v n n
theorem places_gen (i j : Nat) : Builtin.Slice.slicePlaces (i : Int) (j : Int) 1 = j - i := by
  unfold Builtin.Slice.slicePlaces
  have h1 : (1 : Int) > 0 := by omega
  simp only [h1, if_true, Int.ediv_one]
  split <;> omega
theorem slicePart_ {v : Value} {o : Option Int} {Q : Option Int → Shared → Prop} (p : IsPart v o) (h : Q o s) : wpAny (model prog w) A (Builtin.Slice.slicePartIndex v) Q E s := by
  cases p with
  | none => exact slicePart_none h
  | int i t => exact slicePart_int h
theorem sliceApplied_gen {sl : Addr} {vl vu : Value} {lo hi : Option Int} {n : Nat} {Q : Int × Int × Nat → Shared → Prop} (hs : s.heap.IsSliceOf sl vl vu .none) (pl : IsPart vl lo) (pu : IsPart vu hi)
    (h : Q (((sIx n 0 lo : Nat) : Int), 1, sIx n n hi - sIx n 0 lo) s) : wpAny (model prog w) A (Builtin.Slice.sliceApplied (.ref sl) (pure (n : Int))) Q E s := by
  obtain ⟨os, hos, hcs, hds⟩ := id hs
  unfold Builtin.Slice.sliceApplied Builtin.Slice.sliceFields
  refine wpAny_bind (wpAny_bind (wpAny_field hos hds (x := vl) rfl (wpAny_bind (wpAny_field hos hds (x := vu) rfl (wpAny_bind (wpAny_field hos hds (x := .none) rfl (wpAny_pure ?_)))))))
  refine wpAny_bind (slicePart_none ?_)
  show wpAny _ _ (if ((1 : Int) == 0) = true then _ else _) _ _ s
  rw [if_neg (by decide)]
  refine wpAny_bind (slicePart_ pl (wpAny_bind (slicePart_ pu (wpAny_bind (wpAny_pure ?_)))))
  show wpAny _ _ (match Builtin.Slice.sliceAdjust lo hi 1 (n : Int) with | (lo, hi) => pure (lo, (1 : Int), Builtin.Slice.slicePlaces lo hi 1)) _ _ s
  rw [adjust_gen lo hi n]
  show wpAny _ _ (pure (((sIx n 0 lo : Nat) : Int), (1 : Int), Builtin.Slice.slicePlaces ((sIx n 0 lo : Nat) : Int) ((sIx n n hi : Nat) : Int) 1)) _ _ s
  rw [places_gen]
  exact wpAny_pure h
theorem pick_gen (xs : Array Value) (i k : Nat) : ((List.range k).filterMap fun (m : Nat) => xs[((i : Int) + (m : Int) * 1).toNat]?).toArray = ((xs.toList.drop i).take k).toArray := by
  have e : (fun (m : Nat) => xs[((i : Int) + (m : Int) * 1).toNat]?) = fun m => xs[i + m]? := by
    funext m
    have : ((i : Int) + (m : Int) * 1).toNat = i + m := by omega
    rw [this]
  rw [e]
  have := pick_run xs i k
  rw [List.filterMap_map] at this
  have e2 : ((fun x => xs[x]?) ∘ fun x => i + x) = fun m => xs[i + m]? := rfl
  rw [e2] at this
  rw [this]

theorem getItem_tuple_cut {t sl : Addr} {items : Array Value} {vl vu : Value} {lo hi : Option Int} {Q : Value → Shared → Prop} (ht : IsTup s.heap t items) (hs : s.heap.IsSliceOf sl vl vu .none) (pl : IsPart vl lo) (pu : IsPart vu hi)
    (hw : ¬ (sIx items.size 0 lo = 0 ∧ sIx items.size items.size hi = items.size))
    (h : Q (.ref s.heap.objs.size) { s with heap := s.heap.push { cls := .type "tuple", data := .seq ((items.toList.drop (sIx items.size 0 lo)).take (sIx items.size items.size hi - sIx items.size 0 lo)).toArray } })
    (hsz : items.size ≤ sizeLine) : wpAny (model prog w) A (getItem (.ref t) (.ref sl)) Q E s := by
  have htake : sizeOk (.seq ((items.toList.drop (sIx items.size 0 lo)).take (sIx items.size items.size hi - sIx items.size 0 lo)).toArray) := by
    show ((items.toList.drop (sIx items.size 0 lo)).take (sIx items.size items.size hi - sIx items.size 0 lo)).toArray.size ≤ sizeLine
    rw [List.size_toArray, List.length_take, List.length_drop, Array.length_toList]
    omega
  have hj : sIx items.size items.size hi ≤ items.size := sIx_le _ _ (Nat.le_refl _) hi
  obtain ⟨os, hos, hcs, hds⟩ := id hs
  have hTs : s.TypeIs (.ref sl) "slice" := ⟨os, hos, hcs⟩
  unfold getItem
  try with_reducible refine wpAny_holding ?_
  first | refine wpAny_bind (wpAny_pure ?_) | skip
  refine wpAny_bind (wpAny_sequenceKey ht.typeIs (by decide) ?_)
  refine wpAny_bind (wpAny_callSpecial?_slot (name := Str.ofString "__getitem__") ht.typeIs PyProof.Rows.slot_tuple_getitem
    (wpAny_call_entry PyProof.Rows.slot_tuple_getitem ht.typeIs entry_tuple_getitem ?_ (args_tuple_getitem _ _)))
  show wpAny _ _ (Builtin.Tuple.tupleItemsOf (.ref t) >>= _) _ _ s
  refine wpAny_bind (tupleItemsOf_ ht ?_)
  refine wpAny_bind (wpAny_typeOf hTs ?_)
  rw [if_pos (by decide)]
  refine wpAny_bind (sliceApplied_gen hs pl pu ?_)
  have hno : ¬ ((((sIx items.size 0 lo : Nat) : Int) == 0 && (1 : Int) == 1 && (sIx items.size items.size hi - sIx items.size 0 lo) == items.size) = true) := by
    intro q
    rw [Bool.and_eq_true, Bool.and_eq_true] at q
    have q1 : ((sIx items.size 0 lo : Nat) : Int) = 0 := eq_of_beq q.1.1
    have q2 : sIx items.size items.size hi - sIx items.size 0 lo = items.size := eq_of_beq q.2
    exact hw ⟨by omega, by omega⟩
  show wpAny _ _ (if (((sIx items.size 0 lo : Nat) : Int) == 0 && (1 : Int) == 1 && (sIx items.size items.size hi - sIx items.size 0 lo) == items.size) = true then _ else _) _ _ s
  rw [if_neg hno, pick_gen]
  first
    | exact wpAny_bind (m := Builtin.Tuple.tupleExact _) (wpAny_newObj_type (wpAny_pure ⟨_, rfl, wpAny_pure h⟩) htake)
    | exact wpAny_bind (m := Builtin.Tuple.tupleExact _) (wpAny_newObj_type (wpAny_bind (wpAny_pure (wpAny_pure ⟨_, rfl, wpAny_pure h⟩))) htake)
    | exact wpAny_bind (wpAny_bind (m := Builtin.Tuple.tupleExact _) (wpAny_newObj_type (wpAny_pure (wpAny_pure ⟨_, rfl, wpAny_pure h⟩)) htake))
    | exact wpAny_bind (wpAny_bind (m := Builtin.Tuple.tupleExact _) (wpAny_newObj_type (wpAny_pure ⟨_, rfl, wpAny_pure h⟩) htake))
end
end HT

namespace L2
open PySem PySem.Spec PyProof.Rows

/-! ### the parts of a slice -/
abbrev TO := St → Hp → (Option Int → Hp → Prop) → Prop
/-- a slice's part (left out, or an int) -/
def PO (X : Cx) (e : Option Expr) (t : TO) : Prop :=
  ∀ (pins : List (Addr × Obj)) (s : Shared) (σ : St) (H : Hp) (Q : Option Int → Hp → Prop), Inv X pins σ H s → t σ H Q →
    wpAny (model X.prog X.w) X.A (evalPart e X.env) (fun u s' => ∃ o H', Inv X pins σ H' s' ∧ IsPart u o ∧ Q o H') X.xe s
def tNoPart : TO := fun _ H Q => Q none H
def tPart (t : TE) : TO := fun σ H Q => t σ H fun x H1 => ∃ i, x = .int i ∧ Q (some i) H1

theorem intsAre_of {ns : List Int} : ∀ {us : List Value}, Vals (ns.map V.int) us → IntsAre us ns := by
  induction ns with
  | nil => intro us r; rw [List.map_nil] at r; cases r; exact .nil
  | cons n ns ih =>
    intro us r
    rw [List.map_cons] at r
    cases r with
    | cons r1 r2 =>
      obtain ⟨t, e⟩ := r1
      subst e
      exact .cons n t (ih r2)

section
variable {X : Cx} {e : Expr} {te : TE} {lo hi : Option Expr} {tl th : TO} {pos p2 : Pos}

theorem po_none : PO X none tNoPart := by
  intro pins s σ H Q I h
  rw [evalPart_none]
  exact wpAny_pure ⟨none, H, I, .none, h⟩
theorem po_some (h : PE X e te) : PO X (some e) (tPart te) := by
  intro pins s σ H Q I hw
  rw [evalPart_some]
  refine thn (h pins s σ H _ I hw) fun u s1 ⟨x, H1, I1, r1, q1⟩ => ?_
  obtain ⟨i, rfl, q⟩ := q1
  obtain ⟨t, rfl⟩ := r1
  exact ⟨some i, H1, I1, .int i t, q⟩

/-- what a slice of a value is, by values: the slice object stands at sl -/
def SlR (X : Cx) (r : V → Option Int → Option Int → Hp → VK → Prop) : Prop :=
  ∀ (pins : List (Addr × Obj)) (s : Shared) (σ : St) (H : Hp) (x : V) (v vl vu : Value) (lo hi : Option Int) (sl : Addr) (Q : VK), Inv X pins σ H s → RelV x v → s.heap.IsSliceOf sl vl vu .none → IsPart vl lo → IsPart vu hi → r x lo hi H Q →
    ∃ T id, typeLookup (.type T) "__getitem__" = pure (some (.builtin id)) ∧ s.TypeIs v T ∧ wpAny (model X.prog X.w) X.A (getItem v (.ref sl)) (EP X pins σ Q) X.xe s
def tSl (r : V → Option Int → Option Int → Hp → VK → Prop) (te : TE) (tl th : TO) : TE := fun σ H Q => te σ H fun x H1 => tl σ H1 fun l H2 => th σ H2 fun u H3 => r x l u H3 Q
/-- a[lo:hi], any a -/
theorem pe_slice {r : V → Option Int → Option Int → Hp → VK → Prop} (hr : SlR X r) (he : PE X e te) (hl : PO X lo tl) (hu : PO X hi th) : PE X (.Subscript e (.Slice lo hi none p2) pos) (tSl r te tl th) := by
  intro pins s σ H Q I h
  refine Subscript_ (thn (he pins s σ H _ I h) fun v s1 ⟨x, H1, I1, r1, q1⟩ => ?_)
  refine wpAny_Slice (thn (hl pins s1 σ H1 _ I1 q1) fun vl s2 ⟨l, H2, I2, pl, q2⟩ => thn (hu pins s2 σ H2 _ I2 q2) fun vu s3 ⟨u, H3, I3, pu, q3⟩ => ?_)
  rw [evalPart_none]
  refine wpAny_pure ?_
  have I4 : Inv X pins σ H3 { s3 with heap := s3.heap.push { cls := .type "slice", data := .fields #[vl, vu, .none] } } := I3.kept (t' := s3.toks) fun b ob q => Heap.get?_push_of_some _ q
  obtain ⟨T, id, hT, ht, hg⟩ := hr pins { s3 with heap := s3.heap.push { cls := .type "slice", data := .fields #[vl, vu, .none] } } σ H3 x v vl vu l u s3.heap.objs.size Q I4 r1 (Heap.IsSliceOf.new ..) pl pu q3
  show wpAny (model X.prog X.w) X.A (subscriptTail e (.Slice lo hi none p2) v (.ref s3.heap.objs.size)) (EP X pins σ Q) X.xe { s3 with heap := s3.heap.push { cls := .type "slice", data := .fields #[vl, vu, .none] } }
  exact tail_any (ops := [.ref s3.heap.objs.size, v]) ht hT hg (by with_unfolding_all rfl)

/-- the items of xs[lo:hi] -/
def cutV (xs : List V) (lo hi : Option Int) : List V := (xs.drop (HT.sIx xs.length 0 lo)).take (HT.sIx xs.length xs.length hi - HT.sIx xs.length 0 lo)
theorem cutV_length (xs : List V) (lo hi : Option Int) : (cutV xs lo hi).length ≤ xs.length := by
  unfold cutV
  rw [List.length_take, List.length_drop]
  omega
/-- t[lo:hi], not the whole of it (the whole would be t itself) -/
def rSlT (K : PySem.W.Frag) : V → Option Int → Option Int → Hp → VK → Prop := fun x lo hi H Q => ∃ a xs, x = .ref a ∧ SqT K H a xs ∧
  ¬ (HT.sIx xs.length 0 lo = 0 ∧ HT.sIx xs.length xs.length hi = xs.length) ∧ ∀ p, H p = none → Q (.ref p) (upd H p (.tup (cutV xs lo hi)))
theorem sl_tup : SlR X (rSlT X.K) := by
  intro pins s σ H x v vl vu lo hi sl Q I rx hs pl pu h
  obtain ⟨a, xs, rfl, hx, hw, q⟩ := h
  cases rx
  obtain ⟨its, r, ht, hz⟩ := I.tuple hx
  have hlen : its.toArray.size = xs.length := by rw [List.size_toArray]; exact r.length.symm
  refine ⟨"tuple", _, PyProof.Rows.slot_tuple_getitem.lookup, ht.typeIs, ?_⟩
  refine HT.getItem_tuple_cut ht hs pl pu (by rw [hlen]; exact hw) ?_ (by rw [hlen]; exact hz)
  rw [hlen]
  refine ⟨.ref s.heap.objs.size, _, I.laid (t' := s.toks) (o := .tup (cutV xs lo hi)) (fun b ob q => Heap.get?_push_of_some _ q) (Nat.le_refl _) ?_, rfl, q _ (I.hok.fresh (Nat.le_refl _))⟩
  exact ⟨Nat.le_trans (cutV_length xs lo hi) hz, _, (r.drop (HT.sIx xs.length 0 lo)).take (HT.sIx xs.length xs.length hi - HT.sIx xs.length 0 lo), IsTup.new _ _⟩

/-! ### t < u, t + u -/
def rLtT (K : PySem.W.Frag) : R2 := fun x y H Q => ∃ a b ns ms, x = .ref a ∧ y = .ref b ∧ SqT K H a (ns.map V.int) ∧ SqT K H b (ms.map V.int) ∧ Q (.bl (HT.lexLt ns ms)) H
/-- t + u, t not empty: u empty gives t itself -/
def rCatT (K : PySem.W.Frag) : R2 := fun x y H Q => ∃ a b xs ys, x = .ref a ∧ y = .ref b ∧ SqT K H a xs ∧ SqT K H b ys ∧ xs ≠ [] ∧ xs.length + ys.length ≤ sizeLine ∧
  (ys = [] → Q (.ref a) H) ∧ (ys ≠ [] → ∀ p, H p = none → Q (.ref p) (upd H p (.tup (xs ++ ys))))
end
end L2

namespace L2
open PySem PySem.Spec PyProof.Rows

/-! ### places -/
/-- the place that an index of any sign means -/
def ixN (n : Nat) (i : Int) : Option Nat := if 0 ≤ i then (if i < n then some i.toNat else none) else if -(n : Int) ≤ i then some (i + n).toNat else none
def atI {α : Type} (xs : List α) (i : Int) : Option α := (ixN xs.length i).bind fun j => xs[j]?
theorem ixN_seq {n : Nat} {i : Int} {j : Nat} (h : ixN n i = some j) : seqIndex? i n = some j ∧ j < n ∧ -(n : Int) ≤ i ∧ i < n := by
  unfold ixN at h
  by_cases h0 : 0 ≤ i
  · rw [if_pos h0] at h
    by_cases h1 : i < n
    · rw [if_pos h1] at h
      have e : i.toNat = j := Option.some.inj h
      exact ⟨by rw [seqIndex_of h0 h1, e], by omega, by omega, h1⟩
    · rw [if_neg h1] at h; cases h
  · rw [if_neg h0] at h
    by_cases h1 : -(n : Int) ≤ i
    · rw [if_pos h1] at h
      have e : (i + n).toNat = j := Option.some.inj h
      exact ⟨by rw [seqIndex_neg (by omega) h1, e], by omega, h1, by omega⟩
    · rw [if_neg h1] at h; cases h
theorem atI_get {α : Type} {xs : List α} {i : Int} {v : α} (h : atI xs i = some v) : ∃ j, seqIndex? i xs.length = some j ∧ xs[j]? = some v ∧ j < xs.length ∧ -(xs.length : Int) ≤ i ∧ i < xs.length := by
  unfold atI at h
  cases e : ixN xs.length i with
  | none => rw [e] at h; cases h
  | some j =>
    rw [e] at h
    obtain ⟨h1, h2, h3, h4⟩ := ixN_seq e
    exact ⟨j, h1, h, h2, h3, h4⟩
theorem atI_nat {α : Type} {xs : List α} {j : Nat} {v : α} (h : xs[j]? = some v) : atI xs (j : Int) = some v := by
  have hj : j < xs.length := (List.getElem?_eq_some_iff.mp h).1
  have e : ixN xs.length (j : Int) = some j := by
    unfold ixN
    rw [if_pos (by omega), if_pos (by omega)]; simp
  unfold atI; rw [e]; exact h
/-! ### what may be subscripted -/
/-- what stands as an index of a plain subscript -/
def PlainIx (b : Expr) : Prop := ∀ o i, subscripted b false o i = operate [o, i] (getItem o i)
/-- a subscript by values -/
def IxR (X : Cx) (r : R2) : Prop :=
  ∀ (value slice : Expr) (pins : List (Addr × Obj)) (s : Shared) (σ : St) (H : Hp) (x y : V) (v u : Value) (Q : VK), Inv X pins σ H s → RelV x v → RelV y u → r x y H Q →
    subscripted slice false v u = operate [v, u] (getItem v u) → wpAny (model X.prog X.w) X.A (subscriptTail value slice v u) (EP X pins σ Q) X.xe s
/-- a call of a builtin's method by values: the receiver, the arguments -/
def MtR (X : Cx) (id : String) (r : V → List V → Hp → VK → Prop) : Prop :=
  ∀ (pins : List (Addr × Obj)) (s : Shared) (σ : St) (H : Hp) (x : V) (xs : List V) (v : Value) (us : List Value) (Q : VK), Inv X pins σ H s → RelV x v → Vals xs us → r x xs H Q →
    wpAny (model X.prog X.w) X.A (call (.builtin id) (v :: us)) (EP X pins σ Q) X.xe s
section
variable {X : Cx} {a b : Expr} {ta tb : TE} {pos : Pos}
/-- a[b] -/
theorem pe_ix {r : R2} (hr : IxR X r) (ha : PE X a ta) (hb : PE X b tb) (hs : PlainIx b) : PE X (.Subscript a b pos) (tOp r ta tb) := by
  intro pins s σ H Q I h
  exact Subscript_ (binT ha hb I h fun v u s2 x y H2 I2 rx ry q => hr a b pins s2 σ H2 x y v u Q I2 rx ry q (hs _ _))

def rIxL (K : PySem.W.Frag) : R2 := fun x y H Q => ∃ p xs i v, x = .ref p ∧ y = .int i ∧ SqL K H p xs ∧ atI xs i = some v ∧ Q v H
def rIxT (K : PySem.W.Frag) : R2 := fun x y H Q => ∃ p xs i v, x = .ref p ∧ y = .int i ∧ SqT K H p xs ∧ atI xs i = some v ∧ Q v H
def rIxS : R2 := fun x y H Q => ∃ z i c, x = .str z ∧ y = .int i ∧ z.length ≤ sizeLine ∧ atI z.cps.toList i = some c ∧ Q (.str ⟨#[c]⟩) H
theorem ix_list : IxR X (rIxL X.K) := by
  intro value slice pins s σ H x y v u Q I rx ry h hs
  obtain ⟨p, xs, i, z, rfl, rfl, hq, he, q⟩ := h
  cases rx
  obtain ⟨t, rfl⟩ := ry
  obtain ⟨its, r, pl, hz⟩ := I.list hq
  obtain ⟨j, h1, h2, h3, h4, h5⟩ := atI_get he
  obtain ⟨w, ew, rw'⟩ := r.get h2
  have hl := r.length
  have hn := line63
  have fin : EP X pins σ Q w s := ⟨z, H, I, rw', q⟩
  by_cases h0 : 0 ≤ i
  · have hj : i.toNat = j := by
      rw [seqIndex_of h0 h5] at h1
      exact Option.some.inj h1
    exact item_listR pl.isList h0 (by omega) (by rw [hj]; simpa using ew) fin hs
  · have hj : (i + (its.toArray.size : Int)).toNat = j := by
      rw [seqIndex_neg (by omega) h4] at h1
      rw [List.size_toArray, ← hl]
      exact Option.some.inj h1
    exact subscriptTail_builtinR (x := w) pl.isList.typeIs slot_list_getitem.lookup
      (wpAny_getItem_list_neg (Q := fun r s' => r = w ∧ EP X pins σ Q r s') pl.isList (by omega) (by rw [List.size_toArray] <;> omega) (by omega) (by rw [hj]; simpa using ew) ⟨rfl, fin⟩) hs
theorem ix_tup : IxR X (rIxT X.K) := by
  intro value slice pins s σ H x y v u Q I rx ry h hs
  obtain ⟨p, xs, i, z, rfl, rfl, hq, he, q⟩ := h
  cases rx
  obtain ⟨t, rfl⟩ := ry
  obtain ⟨its, r, pl, hz⟩ := I.tuple hq
  obtain ⟨j, h1, h2, h3, h4, h5⟩ := atI_get he
  obtain ⟨w, ew, rw'⟩ := r.get h2
  have hl := r.length
  have hn := line63
  have fin : EP X pins σ Q w s := ⟨z, H, I, rw', q⟩
  exact subscriptTail_builtinR (x := w) pl.typeIs slot_tuple_getitem.lookup
    (getItem_tuple (j := j) (Q := fun r s' => r = w ∧ EP X pins σ Q r s') pl (by omega) (by omega) (by rw [List.size_toArray, ← hl]; exact h1) (by simpa using ew) ⟨rfl, fin⟩) hs
/-- list, tuple or str -/
def rIx (K : PySem.W.Frag) : R2 := fun x y H Q => rIxL K x y H Q ∨ rIxT K x y H Q ∨ rIxS x y H Q
/-! ### xs[i] = v, any sign -/
/-- the list's object behind a store -/
theorem mapSeq_set (its : List Value) (n j : Nat) (u : Value) : Obj.mapSeq (·.setIfInBounds j u) { cls := .type "list", data := .seq its.toArray n } = { cls := .type "list", data := .seq (its.set j u).toArray n } := by
  simp [Obj.mapSeq]
theorem Inv.lst {pins : List (Addr × Obj)} {σ : St} {H : Hp} {s : Shared} {p : Addr} {xs : List V} (I : Inv X pins σ H s) (h : H p = some (.lst xs)) :
    ∃ (its : List Value) (n : Nat), Vals xs its ∧ s.heap.get? p = some { cls := .type "list", data := .seq its.toArray n } ∧ xs.length ≤ sizeLine := by
  obtain ⟨z, its, n, r, e⟩ := I.hok p _ h
  exact ⟨its, n, r, e, z⟩
/-- the list at p is written by an update of its object -/
theorem Inv.lstUpd {pins : List (Addr × Obj)} {σ : St} {H : Hp} {s : Shared} {p : Addr} {xs ys : List V} {its its' : List Value} {n n' : Nat} {f : Obj → Obj} (I : Inv X pins σ H s) (h : H p = some (.lst xs))
    (ho : s.heap.get? p = some { cls := .type "list", data := .seq its.toArray n }) (hf : f { cls := .type "list", data := .seq its.toArray n } = { cls := .type "list", data := .seq its'.toArray n' }) (r : Vals ys its') (hz : ys.length ≤ sizeLine) (t : Nat) :
    Inv X pins σ (upd H p (.lst ys)) { s with heap := s.heap.update p f, toks := t } := by
  have e : (s.heap.update p f).get? p = some { cls := .type "list", data := .seq its'.toArray n' } := by
    rw [Heap.get?_update_self f ho (by rw [hf] <;> rfl), hf]
  refine I.write (x := p) (e := p) (by rw [h]; trivial) (.inl rfl) (fun b u hb q => (Heap.get?_update_other _ _ (Ne.symm hb)).trans q) ⟨_, e⟩ ?_
  exact ⟨hz, its', n', r, e⟩
def rSetL : V → V → V → Hp → (Hp → Prop) → Prop := fun o i v H Q => ∃ p xs k j, o = .ref p ∧ i = .int k ∧ H p = some (.lst xs) ∧ ixN xs.length k = some j ∧ Q (upd H p (.lst (xs.set j v)))
theorem set_list : PSet X rSetL := by
  intro pins s σ H o i v ov iv u Q I ro ri rv h
  obtain ⟨p, xs, k, j, rfl, rfl, hp, hj, q⟩ := h
  cases ro
  obtain ⟨t, rfl⟩ := ri
  obtain ⟨its, n, r, ho, hz⟩ := I.lst hp
  obtain ⟨h1, h2, h3, h4⟩ := ixN_seq hj
  have hl := r.length
  have hn := line63
  have I' : Inv X pins σ (upd H p (.lst (xs.set j v))) { s with heap := s.heap.update p (Obj.mapSeq (·.setIfInBounds j u)) } :=
    I.lstUpd hp ho (mapSeq_set its n j u) (r.set rv j) (by rw [List.length_set]; exact hz) s.toks
  by_cases h0 : 0 ≤ k
  · have hk : k.toNat = j := by
      rw [seqIndex_of h0 h4] at h1
      exact Option.some.inj h1
    exact PySem.W.ki_setAt ho h0 (by omega) (by rw [List.size_toArray, ← hl]; exact h4) (by rw [hk]; exact ⟨_, I', q⟩)
  · have hk : (k + (its.toArray.size : Int)).toNat = j := by
      rw [seqIndex_neg (by omega) h3] at h1
      rw [List.size_toArray, ← hl]
      exact Option.some.inj h1
    exact PySem.W.ki_setBack ho (by omega) (by rw [List.size_toArray, ← hl]; exact h3) (by omega) (by rw [hk]; exact ⟨_, I', q⟩)

/-! ### slices -/
theorem slice_bounds (lo hi : Option Int) (n : Nat) : (sliceBounds lo hi none n).1 = ((HT.sIx n 0 lo : Nat) : Int) ∧ (sliceBounds lo hi none n).2.1 = ((HT.sIx n n hi : Nat) : Int) ∧ (sliceBounds lo hi none n).2.2 = 1 := by
  refine ⟨?_, ?_, rfl⟩
  · cases lo with
    | none => simp [sliceBounds, HT.sIx]
    | some i =>
      simp only [sliceBounds, HT.sIx, Option.getD_none, show (1 : Int) > 0 by decide, if_true]
      by_cases h : i < 0
      · simp only [h, if_true] <;> omega
      · simp only [h, if_false] <;> omega
  · cases hi with
    | none => simp [sliceBounds, HT.sIx]
    | some i =>
      simp only [sliceBounds, HT.sIx, Option.getD_none, show (1 : Int) > 0 by decide, if_true]
      by_cases h : i < 0
      · simp only [h, if_true] <;> omega
      · simp only [h, if_false] <;> omega
theorem slicePick_cut (its : List Value) (lo hi : Option Int) : slicePick its.toArray lo hi none = ((its.drop (HT.sIx its.length 0 lo)).take (HT.sIx its.length its.length hi - HT.sIx its.length 0 lo)).toArray := by
  obtain ⟨h1, h2, h3⟩ := slice_bounds lo hi its.toArray.size
  unfold slicePick
  rw [h1, h2, h3]
  simp only [sliceRange_one, pick_run, List.size_toArray] <;> rfl
/-- xs[lo:hi] of a list: a new list -/
def rSlL (K : PySem.W.Frag) : V → Option Int → Option Int → Hp → VK → Prop := fun x lo hi H Q => ∃ a xs, x = .ref a ∧ SqL K H a xs ∧ ∀ p, H p = none → Q (.ref p) (upd H p (.lst (cutV xs lo hi)))
theorem sl_list : SlR X (rSlL X.K) := by
  intro pins s σ H x v vl vu lo hi sl Q I rx hs pl pu h
  obtain ⟨a, xs, rfl, hx, q⟩ := h
  cases rx
  obtain ⟨its, r, ht, hz⟩ := I.list hx
  have hlen := r.length
  refine ⟨"list", _, slot_list_getitem.lookup, ht.isList.typeIs, ?_⟩
  refine wpAny_getItem_list_slice ht.isList hs pl pu .none (by simp) ?_ (by rw [List.size_toArray] <;> omega)
  rw [slicePick_cut, ← hlen]
  refine ⟨.ref s.heap.objs.size, _, I.laid (t' := s.toks) (o := .lst (cutV xs lo hi)) (fun b ob q => Heap.get?_push_of_some _ q) (Nat.le_refl _) ?_, rfl, q _ (I.hok.fresh (Nat.le_refl _))⟩
  exact ⟨Nat.le_trans (cutV_length xs lo hi) hz, _, 0, (r.drop (HT.sIx xs.length 0 lo)).take (HT.sIx xs.length xs.length hi - HT.sIx xs.length 0 lo), Heap.get?_push_size _ rfl⟩

/-! ### in, not in: flat items -/
def flatV : V → Bool
  | .non => true
  | .bl _ => true
  | .int _ => true
  | .str _ => true
  | _ => false
/-- == of flat values -/
def eqV : V → V → Bool
  | .non, .non => true
  | .bl a, .bl b => a == b
  | .bl a, .int b => (if a then 1 else 0) == b
  | .int a, .bl b => a == (if b then 1 else 0)
  | .int a, .int b => a == b
  | .str a, .str b => a == b
  | _, _ => false
theorem eqAt_V {A : Around} {s : Shared} {y x : V} {u v : Value} (ry : RelV y u) (rx : RelV x v) (fy : flatV y = true) (fx : flatV x = true) : SeqAt.EqAt A s u v (eqV y x) := by
  cases y with
  | non =>
    cases ry
    cases x with
    | non => cases rx; exact SeqAt.EqAt.same _
    | bl b => cases rx; exact SeqAt.EqAt.none_bool b
    | int b => obtain ⟨t, rfl⟩ := rx; exact SeqAt.EqAt.none_int b t
    | str b => obtain ⟨t, rfl⟩ := rx; exact SeqAt.EqAt.none_str b t
    | _ => exact absurd (show false = true from fx) Bool.false_ne_true
  | bl a =>
    cases ry
    cases x with
    | non => cases rx; exact SeqAt.EqAt.bool_none a
    | bl b => cases rx; exact SeqAt.EqAt.bool_bool a b
    | int b => obtain ⟨t, rfl⟩ := rx; exact SeqAt.EqAt.bool_int a b t
    | str b => obtain ⟨t, rfl⟩ := rx; exact SeqAt.EqAt.bool_str a b t
    | _ => exact absurd (show false = true from fx) Bool.false_ne_true
  | int a =>
    obtain ⟨t', rfl⟩ := ry
    cases x with
    | non => cases rx; exact SeqAt.EqAt.int_none a t'
    | bl b => cases rx; exact SeqAt.EqAt.int_bool a t' b
    | int b => obtain ⟨t, rfl⟩ := rx; exact SeqAt.EqAt.int_int a t' b t
    | str b => obtain ⟨t, rfl⟩ := rx; exact SeqAt.EqAt.int_str a t' b t
    | _ => exact absurd (show false = true from fx) Bool.false_ne_true
  | str a =>
    obtain ⟨t', rfl⟩ := ry
    cases x with
    | non => cases rx; exact SeqAt.EqAt.str_none a t'
    | bl b => cases rx; exact SeqAt.EqAt.str_bool a t' b
    | int b => obtain ⟨t, rfl⟩ := rx; exact SeqAt.EqAt.str_int a t' b t
    | str b => obtain ⟨t, rfl⟩ := rx; exact SeqAt.EqAt.str_str a t' b t
    | _ => exact absurd (show false = true from fx) Bool.false_ne_true
  | _ => exact absurd (show false = true from fy) Bool.false_ne_true
/-- the items' answers, read off the values (a value's own answer does not lean on its token) -/
def eqU (x : V) (u : Value) : Bool := match u with
  | .none => eqV .non x
  | .bool b => eqV (.bl b) x
  | .int i _ => eqV (.int i) x
  | .str z _ => eqV (.str z) x
  | _ => false
theorem eqU_of {x y : V} {u : Value} (r : RelV y u) (f : flatV y = true) : eqU x u = eqV y x := by
  cases y with
  | non => cases r; rfl
  | bl b => cases r; rfl
  | int i => obtain ⟨t, rfl⟩ := r; rfl
  | str z => obtain ⟨t, rfl⟩ := r; rfl
  | _ => exact absurd (show false = true from f) Bool.false_ne_true
theorem any_eqU {x : V} : ∀ {xs : List V} {us : List Value}, Vals xs us → xs.all flatV = true → us.any (eqU x) = xs.any fun y => eqV y x
  | _, _, .nil, _ => rfl
  | y :: xs, u :: us, .cons r t, f => by
    rw [List.all_cons, Bool.and_eq_true] at f
    rw [List.any_cons, List.any_cons, eqU_of r f.1, any_eqU t f.2]
theorem mem_eqAt {A : Around} {s : Shared} {x : V} {v : Value} (rx : RelV x v) (fx : flatV x = true) : ∀ {xs : List V} {us : List Value}, Vals xs us → xs.all flatV = true → ∀ u ∈ us, SeqAt.EqAt A s u v (eqU x u)
  | _, _, .nil, _ => fun u hu => by cases hu
  | y :: xs, u :: us, .cons r t, f => fun u' hu => by
    rw [List.all_cons, Bool.and_eq_true] at f
    rcases List.mem_cons.mp hu with rfl | hu
    · rw [eqU_of r f.1]; exact eqAt_V r rx f.1 fx
    · exact mem_eqAt rx fx t f.2 u' hu
def inV (x : V) (xs : List V) : Bool := xs.any fun y => eqV y x
/-- x in a list or tuple of flat items -/
def rIn (K : PySem.W.Frag) (neg : Bool) : R2 := fun x y H Q => ∃ p xs, y = .ref p ∧ (SqL K H p xs ∨ SqT K H p xs) ∧ flatV x = true ∧ xs.all flatV = true ∧ Q (.bl (if neg then !inV x xs else inV x xs)) H
theorem op_in_seq : OpR X (compareOp .In) (rIn X.K false) := by
  intro pins s σ H x y v u Q I rx ry h
  obtain ⟨p, xs, rfl, hq, fx, fs, q⟩ := h
  cases ry
  rcases hq with hq | hq
  · obtain ⟨its, r, pl, hz⟩ := I.list hq
    refine SeqAt.in_listAt (eqU x) pl.isList (fun w hw => mem_eqAt rx fx r fs w (by simpa using hw)) ⟨.bl _, H, I, rfl, ?_⟩
    rw [show its.toArray.any (eqU x) = its.any (eqU x) by simp, any_eqU r fs]
    exact q
  · obtain ⟨its, r, pl, hz⟩ := I.tuple hq
    refine SeqAt.in_tupleAt (eqU x) pl (fun w hw => mem_eqAt rx fx r fs w (by simpa using hw)) ⟨.bl _, H, I, rfl, ?_⟩
    rw [show its.toArray.any (eqU x) = its.any (eqU x) by simp, any_eqU r fs]
    exact q
/-! ### len, list(x), tuple(x) of any list or tuple that is read -/
theorem call_len_seq : CallR X (.builtin "len") (fun xs H Q => ∃ p ys, xs = [.ref p] ∧ (SqL X.K H p ys ∨ SqT X.K H p ys) ∧ Q (.int ys.length) H) := by
  intro pins s σ H xs us Q I r h
  obtain ⟨p, ys, rfl, hq, q⟩ := h
  obtain ⟨u, rfl, rx⟩ := vals1 r
  cases rx
  have hn := line63
  rcases hq with hq | hq
  · obtain ⟨its, r', pl, hz⟩ := I.list hq
    have hlen := r'.length
    exact Calls.call_len_list pl.isList (by simp only [List.size_toArray] <;> omega) ⟨.int ys.length, H, I.tok _, ⟨s.toks + 1, by rw [List.size_toArray, hlen]⟩, q⟩
  · obtain ⟨its, r', pl, hz⟩ := I.tuple hq
    have hlen := r'.length
    exact len_tuple pl (by simp only [List.size_toArray] <;> omega) ⟨.int ys.length, H, I.tok _, ⟨s.toks + 1, by rw [List.size_toArray, hlen]⟩, q⟩
/-! ### the call of a builtin's method: o.m(..) -/
/-- the value is of that builtin type -/
def tyV (K : PySem.W.Frag) (T : String) (x : V) (H : Hp) : Prop := match x with
  | .str _ => T = "str"
  | .int _ => T = "int"
  | .ref p => (T = "list" ∧ ∃ xs, SqL K H p xs) ∨ (T = "tuple" ∧ ∃ o, K.lookup p = some o ∧ o.cls = .type "tuple" ∧ o.dict = none) ∨
      (T = "dict" ∧ ((∃ kvs, H p = some (.dK kvs)) ∨ ∃ kvs, H p = some (.dT kvs))) ∨ (T = "set" ∧ ∃ S n, H p = some (.set S n))
  | _ => False
theorem tyV_is {pins : List (Addr × Obj)} {σ : St} {H : Hp} {s : Shared} {T : String} {x : V} {v : Value} (I : Inv X pins σ H s) (r : RelV x v) (ty : tyV X.K T x H) :
    s.TypeIs v T ∧ ∀ a, v = .ref a → ∃ ob, s.heap.get? a = some ob ∧ ob.dict = none := by
  cases x with
  | str z =>
    obtain ⟨t, rfl⟩ := r
    cases (show T = "str" from ty)
    exact ⟨typeIs_str s z t, fun _ e => nomatch e⟩
  | int i =>
    obtain ⟨t, rfl⟩ := r
    cases (show T = "int" from ty)
    exact ⟨typeIs_int s i t, fun _ e => nomatch e⟩
  | ref p =>
    cases r
    rcases ty with ⟨rfl, xs, hq⟩ | ⟨rfl, o, hk, hc, hd⟩ | ⟨rfl, hk⟩ | ⟨rfl, S, n, hk⟩
    · obtain ⟨its, _, pl, _⟩ := I.list hq
      refine ⟨pl.isList.typeIs, fun a e => ?_⟩
      cases e
      obtain ⟨o, n, e, c, hd, _⟩ := pl
      exact ⟨o, e, hd⟩
    · refine ⟨⟨o, I.kIn p o hk, hc⟩, fun a e => ?_⟩
      cases e
      exact ⟨o, I.kIn _ o hk, hd⟩
    · have z : ∃ o, s.heap.get? p = some o ∧ o.ExactDict := by
        rcases hk with ⟨kvs, hk⟩ | ⟨kvs, hk⟩
        · obtain ⟨_, _, _, _, o, _, _, e, ex, _⟩ := I.hok p _ hk
          exact ⟨o, e, ex⟩
        · obtain ⟨_, _, _, _, o, _, _, e, ex, _⟩ := I.hok p _ hk
          exact ⟨o, e, ex⟩
      obtain ⟨o, e, ex⟩ := z
      refine ⟨⟨o, e, ex.1⟩, fun a e2 => ?_⟩
      cases e2
      exact ⟨o, e, ex.2.1⟩
    · obtain ⟨o, _, _, _, e, ex, _⟩ := I.hok p _ hk
      refine ⟨⟨o, e, ex.1⟩, fun a e2 => ?_⟩
      cases e2
      exact ⟨o, e, ex.2.1⟩
  | _ => exact False.elim ty
def tBM0 (K : PySem.W.Frag) (T : String) (r : V → List V → Hp → VK → Prop) (to : TE) : TE := fun σ H Q => to σ H fun x H1 => tyV K T x H1 ∧ r x [] H1 Q
def tBM (K : PySem.W.Frag) (T : String) (r : V → List V → Hp → VK → Prop) (to : TE) (t : TA) : TE := fun σ H Q => to σ H fun x H1 => tyV K T x H1 ∧ t σ H1 fun xs H2 => r x xs H2 Q
variable {o e : Expr} {es : List Expr} {to : TE} {t : TA} {name : Str} {apos cpos : Pos} {T id : String} {r : V → List V → Hp → VK → Prop}
theorem pe_bm0 (pa : PlainAttrs T) (slot : Slot T name id) (hty : typeOf (.builtin id) = pure (.type "method_descriptor")) (hm : MtR X id r) (ho : PE X o to)
    (hbase : attributeBase o name X.env (eval o X.env) = eval o X.env := by rfl) (hline : (apos.endLine == cpos.line) = true := by rfl) : PE X (.Call (.Attribute o name apos) [] [] cpos) (tBM0 X.K T r to) := by
  intro pins s σ H Q I h
  refine wpAny_Call_method0_late hbase hline (thn (ho pins s σ H _ I h) fun v s1 ⟨x, H1, I1, r1, ty, q1⟩ => ?_)
  obtain ⟨h1, h2⟩ := tyV_is I1 r1 ty
  exact ⟨T, id, pa, slot, hty, h1, h2, Calls.callWith_builtin rfl (PySem.evalArgs_none (hm pins s1 σ H1 x [] v [] Q I1 r1 .nil q1))⟩
theorem pe_bm (pa : PlainAttrs T) (slot : Slot T name id) (hty : typeOf (.builtin id) = pure (.type "method_descriptor")) (hm : MtR X id r) (ho : PE X o to) (ha : PA X (e :: es) t)
    (hbase : attributeBase o name X.env (eval o X.env) = eval o X.env := by rfl)
    (hfew : ((backTo cpos (starEach (e :: es) X.env)).all (fun x => !x.1) && (backToKw cpos (keywordEach [] X.env)).all (fun x => x.1.isSome)
      && decide ((e :: es).length + ([] : List Keyword).length + (if ([] : List Keyword).isEmpty then 0 else 1) < 30)) = true := by rfl)
    (hline : (apos.endLine == cpos.line) = true := by rfl) (hs : starEach (e :: es) X.env = (false, eval e X.env) :: starEach es X.env := by rfl) (hplain : (backTo cpos (starEach es X.env)).any (·.1) = false := by rfl) :
    PE X (.Call (.Attribute o name apos) (e :: es) [] cpos) (tBM X.K T r to t) := by
  intro pins s σ H Q I h
  refine wpAny_Call_method_late hbase hfew hline rfl (thn (ho pins s σ H _ I h) fun v s1 ⟨x, H1, I1, r1, ty, q1⟩ => ?_)
  obtain ⟨h1, h2⟩ := tyV_is I1 r1 ty
  refine ⟨T, id, pa, slot, hty, h1, h2, ?_⟩
  have hA := ha cpos pins s1 σ H1 _ I1 q1
  rw [hs] at hA ⊢
  refine Calls.callWith_builtin (by show (false || (backTo cpos (starEach es X.env)).any (·.1)) = false; rw [hplain] <;> rfl) (Calls.evalArgs_plain ?_)
  exact thn hA fun us s2 ⟨vs, H2, I2, r2, q2⟩ => hm pins s2 σ H2 x vs v us Q I2 r1 r2 q2
/- xs.append(e), list.index on a module's tuple .. are MtR facts of 06m -/
end
end L2

namespace L2
open PySem PySem.Spec PyProof.Rows

def MtM (X : Cx) (id : String) (r : V → List V → Hp → VK → Prop) : Prop :=
  ∀ (pins : List (Addr × Obj)) (s : Shared) (σ : St) (H : Hp) (x : V) (xs : List V) (v : Value) (us : List Value) (Q : VK), Inv X pins σ H s → RelV x v → Vals xs us → r x xs H Q →
    wpAny (model X.prog X.w) X.A (call (.builtin id) (v :: us)) (EP X pins σ Q) X.xe s

/-! ### lists of values -/
theorem Vals.one : ∀ {x : V} {us : List Value}, Vals [x] us → ∃ u, us = [u] ∧ RelV x u
  | _, _, .cons r .nil => ⟨_, rfl, r⟩
theorem Vals.zero : ∀ {us : List Value}, Vals [] us → us = []
  | _, .nil => rfl
theorem Vals.dropLast {xs : List V} {us : List Value} (h : Vals xs us) : Vals xs.dropLast us.dropLast := by
  induction h with
  | nil => exact .nil
  | cons r t ih =>
    cases t with
    | nil => exact .nil
    | cons q t' => exact .cons r ih
theorem Vals.reverse {xs : List V} {us : List Value} (h : Vals xs us) : Vals xs.reverse us.reverse := by
  induction h with
  | nil => exact .nil
  | cons r t ih => rw [List.reverse_cons, List.reverse_cons]; exact Vals.append ih (.cons r .nil)
theorem Vals.rep {xs : List V} {us : List Value} (h : Vals xs us) : ∀ k : Nat, Vals (List.replicate k xs).flatten (List.replicate k us).flatten
  | 0 => .nil
  | k + 1 => by
    rw [List.replicate_succ, List.replicate_succ, List.flatten_cons, List.flatten_cons]
    exact Vals.append h (Vals.rep h k)
theorem erase_last {α : Type} (l : List α) : l.eraseIdx (l.length - 1) = l.dropLast := by
  induction l with
  | nil => rfl
  | cons a r ih =>
    cases r with
    | nil => rfl
    | cons b r =>
      have e : (a :: b :: r).length - 1 = ((b :: r).length - 1) + 1 := by
        have h1 : (a :: b :: r).length = r.length + 2 := rfl
        have h2 : (b :: r).length = r.length + 1 := rfl
        omega
      rw [e, List.eraseIdx_cons_succ, ih]
      all_goals rfl
theorem foldl_rep (its : List Value) : ∀ (k : Nat) (acc : List Value),
    List.foldl (fun x1 x2 => x1 ++ x2) acc.toArray (List.replicate k its.toArray) = (acc ++ (List.replicate k its).flatten).toArray
  | 0, acc => by simp
  | k + 1, acc => by
    have e : acc.toArray ++ its.toArray = (acc ++ its).toArray := by simp
    have e2 : (acc ++ its) ++ (List.replicate k its).flatten = acc ++ (List.replicate (k + 1) its).flatten := by
      rw [List.replicate_succ, List.flatten_cons, List.append_assoc]
    rw [← e2, ← foldl_rep its k (acc ++ its), ← e, List.replicate_succ, List.foldl_cons]

section
variable {X : Cx} {pins : List (Addr × Obj)} {σ : St} {H : Hp} {s : Shared} {l b : Addr} {xs ys zs : List V}

/-! ### the two steps: a tracked list is rewritten, a new list is laid -/
theorem Inv.lset {its its' : List Value} {n : Nat} {f : Array Value → Array Value} {t' : Nat} (I : Inv X pins σ H s) (hH : H l = some (.lst xs))
    (e : s.heap.get? l = some { cls := .type "list", data := .seq its.toArray n }) (hf : f its.toArray = its'.toArray) (hv : Vals ys its') (hz : ys.length ≤ sizeLine) :
    Inv X pins σ (upd H l (.lst ys)) { s with heap := s.heap.update l (Obj.mapSeq f), toks := t' } := by
  have q := PySem.IsL.update e f
  rw [hf] at q
  refine I.write (x := l) (e := l) (by rw [hH]; exact trivial) (.inl rfl) (fun b' u hb hu => (Heap.get?_update_other s.heap (Obj.mapSeq f) (Ne.symm hb)).trans hu) ⟨_, q⟩ ?_
  exact ⟨hz, its', _, hv, q⟩
theorem Inv.lnew {its : List Value} {t' : Nat} (I : Inv X pins σ H s) (hv : Vals ys its) (hz : ys.length ≤ sizeLine) :
    Inv X pins σ (upd H s.heap.objs.size (.lst ys)) { s with heap := s.heap.push { cls := .type "list", data := .seq its.toArray }, toks := t' } :=
  I.laid (fun _ _ q => Heap.get?_push_of_some _ q) (Nat.le_refl _) ⟨hz, its, 0, hv, Heap.get?_push_size _ rfl⟩
theorem Inv.fresh (I : Inv X pins σ H s) : H s.heap.objs.size = none := I.hok.fresh (Nat.le_refl _)
theorem Inv.lstM (I : Inv X pins σ H s) (hH : H l = some (.lst xs)) : xs.length ≤ sizeLine ∧ ∃ (its : List Value) (n : Nat), Vals xs its ∧ xs.length = its.length ∧ s.heap.get? l = some { cls := .type "list", data := .seq its.toArray n } := by
  obtain ⟨z, its, n, r, e⟩ := I.hok l _ hH
  exact ⟨z, its, n, r, r.length, e⟩

theorem notLongL {n : Nat} (h : n ≤ sizeLine) : Builtin.List.listTooLong n = false := by
  unfold Builtin.List.listTooLong
  exact decide_eq_false (by omega)
end

section
variable {X : Cx}

/-! ### methods -/
def rAppend : V → List V → Hp → VK → Prop := fun x vs H Q => ∃ l xs y, x = .ref l ∧ vs = [y] ∧ H l = some (.lst xs) ∧ xs.length < sizeLine ∧ Q .non (upd H l (.lst (xs ++ [y])))
theorem mt_append : MtM X "list.append" rAppend := by
  intro pins s σ H x vs v us Q I rx rv h
  obtain ⟨l, xs, y, rfl, rfl, hH, hz, q⟩ := h
  cases rx
  obtain ⟨u, rfl, ru⟩ := rv.one
  obtain ⟨z, its, n, r, hl, e⟩ := I.lstM hH
  refine call_meets F.slot_list_append ⟨_, e, rfl⟩ F.entry_list_append (F.args_list_append_2 _ _) (PySem.list_append l its.toArray n u (by rw [List.size_toArray]; omega)) ⟨e, ?_⟩
  refine ⟨.non, _, I.lset (its' := its ++ [u]) hH e (by simp) (r.append (.cons ru .nil)) ?_, rfl, q⟩
  rw [List.length_append, List.length_singleton]
  omega

def rExtend : V → List V → Hp → VK → Prop := fun x vs H Q => ∃ l b xs zs, x = .ref l ∧ vs = [.ref b] ∧ H l = some (.lst xs) ∧ H b = some (.lst zs) ∧ xs.length + zs.length ≤ sizeLine ∧ Q .non (upd H l (.lst (xs ++ zs)))
theorem mt_extend : MtM X "list.extend" rExtend := by
  intro pins s σ H x vs v us Q I rx rv h
  obtain ⟨l, b, xs, zs, rfl, rfl, hH, hB, hz, q⟩ := h
  cases rx
  obtain ⟨u, rfl, ru⟩ := rv.one
  cases ru
  obtain ⟨z, its, n, r, hl, e⟩ := I.lstM hH
  obtain ⟨z2, its2, n2, r2, hl2, e2⟩ := I.lstM hB
  have hsz : its.toArray.size + its2.toArray.size ≤ sizeLine := by rw [List.size_toArray, List.size_toArray]; omega
  have hlong : ¬ (!its.toArray.isEmpty && Builtin.List.listTooLong (its.toArray.size + its2.toArray.size)) = true := by
    rw [notLongL hsz, Bool.and_false]
    exact Bool.false_ne_true
  refine call_meets F.slot_list_extend ⟨_, e, rfl⟩ F.entry_list_extend (F.args_list_extend_2 _ _)
    (AutoSeq1.list_extend_list_list_0 l its.toArray n b its2.toArray n2 hlong (by rw [List.size_toArray]; omega) (by omega)) ⟨e, e2, ?_⟩
  refine ⟨.non, _, I.lset (its' := its ++ its2) hH e (by simp) (r.append r2) ?_, rfl, q⟩
  rw [List.length_append]
  omega

def rPop : V → List V → Hp → VK → Prop := fun x vs H Q => ∃ l xs y, x = .ref l ∧ vs = [] ∧ H l = some (.lst xs) ∧ xs[xs.length - 1]? = some y ∧ Q y (upd H l (.lst xs.dropLast))
theorem mt_pop : MtM X "list.pop" rPop := by
  intro pins s σ H x vs v us Q I rx rv h
  obtain ⟨l, xs, y, rfl, rfl, hH, hy, q⟩ := h
  cases rx
  have hus := rv.zero
  subst hus
  obtain ⟨z, its, n, r, hl, e⟩ := I.lstM hH
  obtain ⟨u, hu, ru⟩ := r.get hy
  have hy' : its.toArray[its.toArray.size - 1]? = some u := by
    show its.toArray[its.length - 1]? = some u
    rw [← Array.getElem?_toList, ← hl]
    exact hu
  refine call_meets F.slot_list_pop ⟨_, e, rfl⟩ F.entry_list_pop (F.args_list_pop_1 _) (MeetsSeq.list_pop_last l its.toArray n u hy' (by rw [List.size_toArray]; omega)) ⟨e, ?_⟩
  refine ⟨y, _, I.lset (its' := its.dropLast) hH e ?_ r.dropLast ?_, ru, q⟩
  · show its.toArray.eraseIdxIfInBounds (its.toArray.size - 1) = its.dropLast.toArray
    rw [List.size_toArray, List.eraseIdxIfInBounds_toArray, erase_last]
  · rw [List.length_dropLast]
    omega

def rPopAt : V → List V → Hp → VK → Prop := fun x vs H Q => ∃ l xs i k y, x = .ref l ∧ vs = [.int i] ∧ H l = some (.lst xs) ∧ -(2 ^ 63) ≤ i ∧ i < 2 ^ 63 ∧ seqIndex? i xs.length = some k ∧ xs[k]? = some y ∧ Q y (upd H l (.lst (xs.eraseIdx k)))
def rReverse : V → List V → Hp → VK → Prop := fun x vs H Q => ∃ l xs, x = .ref l ∧ vs = [] ∧ H l = some (.lst xs) ∧ Q .non (upd H l (.lst xs.reverse))
theorem mt_reverse : MtM X "list.reverse" rReverse := by
  intro pins s σ H x vs v us Q I rx rv h
  obtain ⟨l, xs, rfl, rfl, hH, q⟩ := h
  cases rx
  have hus := rv.zero
  subst hus
  obtain ⟨z, its, n, r, hl, e⟩ := I.lstM hH
  refine call_meets F.slot_list_reverse ⟨_, e, rfl⟩ F.entry_list_reverse (F.args_list_reverse_1 _) (AutoSeq1.list_reverse_list_0 l its.toArray n (by rw [List.size_toArray]; omega)) ⟨e, ?_⟩
  refine ⟨.non, _, I.lset (its' := its.reverse) hH e (by simp) r.reverse ?_, rfl, q⟩
  rw [List.length_reverse]
  omega

def rClear : V → List V → Hp → VK → Prop := fun x vs H Q => ∃ l xs, x = .ref l ∧ vs = [] ∧ H l = some (.lst xs) ∧ Q .non (upd H l (.lst []))
/-! ### list + list, list += list, list * int -/
def rCat : R2 := fun x y H Q => ∃ l b xs zs, x = .ref l ∧ y = .ref b ∧ H l = some (.lst xs) ∧ H b = some (.lst zs) ∧ xs.length + zs.length ≤ sizeLine ∧ ∀ p, H p = none → Q (.ref p) (upd H p (.lst (xs ++ zs)))
theorem op_cat : OpR X (binaryOp .Add) rCat := by
  intro pins s σ H x y v u Q I rx ry h
  obtain ⟨l, b, xs, zs, rfl, rfl, hH, hB, hz, q⟩ := h
  cases rx
  cases ry
  obtain ⟨z, its, n, r, hl, e⟩ := I.lstM hH
  obtain ⟨z2, its2, n2, r2, hl2, e2⟩ := I.lstM hB
  refine PySem.P.add_list e e2 ?_ (by rw [List.size_toArray, List.size_toArray]; omega)
  have ea : its.toArray ++ its2.toArray = (its ++ its2).toArray := by simp
  rw [ea]
  exact ⟨.ref _, _, I.lnew (t' := s.toks) (r.append r2) (by rw [List.length_append]; omega), rfl, q _ I.fresh⟩
/-- a list times an int (a negative one is nothing) -/
def rRep : R2 := fun x y H Q => ∃ l k xs, x = .ref l ∧ y = .int k ∧ H l = some (.lst xs) ∧ -(2 ^ 63) ≤ k ∧ k < 2 ^ 63 ∧ xs.length * k.toNat ≤ sizeLine ∧
  ∀ p, H p = none → Q (.ref p) (upd H p (.lst (List.replicate k.toNat xs).flatten))
theorem len_rep {α : Type} (xs : List α) (k : Nat) : (List.replicate k xs).flatten.length = k * xs.length := by
  induction k with
  | zero => simp
  | succ k ih => rw [List.replicate_succ, List.flatten_cons, List.length_append, ih, Nat.succ_mul, Nat.add_comm]
theorem op_rep : OpR X (binaryOp .Mult) rRep := by
  intro pins s σ H x y v u Q I rx ry h
  obtain ⟨l, k, xs, rfl, rfl, hH, h1, h2, hz, q⟩ := h
  cases rx
  obtain ⟨t, rfl⟩ := ry
  obtain ⟨z, its, n, r, hl, e⟩ := I.lstM hH
  have hlen : its.toArray.size * k.toNat ≤ sizeLine := by rw [List.size_toArray, ← hl]; exact hz
  have hcap : ¬ its.toArray.size * k.toNat > (2 ^ 63 - 1) / 8 := by
    have : (sizeLine : Nat) ≤ (2 ^ 63 - 1) / 8 := by decide
    omega
  have hfit : ¬ (!Builtin.List.listFitsIndex k) = true := by
    rw [fitsIndex_both h1 h2]
    exact Bool.false_ne_true
  have hlong : ¬ Builtin.List.listTooLong (its.toArray.size * k.toNat) = true := by
    rw [notLongL hlen]
    exact Bool.false_ne_true
  have hnew : List.foldl (fun x1 x2 => x1 ++ x2) #[] (List.replicate (if its.toArray.isEmpty = true then 0 else k.toNat) its.toArray) = (List.replicate k.toNat its).flatten.toArray := by
    have f0 : ∀ m : Nat, List.foldl (fun x1 x2 => x1 ++ x2) #[] (List.replicate m its.toArray) = (List.replicate m its).flatten.toArray := fun m => by
      have := foldl_rep its m []
      rw [List.nil_append] at this
      exact this
    rw [f0]
    cases its with
    | nil => simp
    | cons a r' => rw [if_neg (by simp)]
  refine wpAny_binaryOp_repeat_ref (T := "list") (U := "int") (by decide) ⟨_, e, rfl⟩ (fun s' => typeIs_int s' k t) noFill_list_mul F.fills_int_mul F.slot_int_rmul repeat_list F.slot_int_index.lookup
    (call_meets F.slot_int_rmul (typeIs_int s k t) F.entry_int_rmul (F.args_int_rmul_2 _ _) (int___rmul___int_list k t l its.toArray n)
      ⟨e, rfl, ⟨_, e, rfl⟩, call_meets F.slot_list_mul ⟨_, e, rfl⟩ F.entry_list_mul (F.args_list_mul_2 _ _) (AutoListH.list___mul___list_int_3 l its.toArray n k t hfit hcap hlong) ⟨e, ?_⟩⟩)
  rw [hnew]
  exact ⟨.ref _, _, I.lnew (t' := s.toks) (r.rep k.toNat) (by rw [len_rep, Nat.mul_comm]; exact hz), rfl, q _ I.fresh⟩

/-! ### del xs[i] -/
end

/-! ### xs[a:b] = ys -/
section
variable {prog : Program} {w : World} {A : Around} {E : Value → Shared → Prop} {s : Shared}
end

section
variable {X : Cx}
end
end L2

namespace Att
open PySem PySem.W PySem.Calls PyProof.Rows

/-! ### the script -/
theorem ints_of_wellAll {P : Params} {h : Heap} : ∀ (ns : List Int) (vs : List Value), WellAll P h vs (ns.map WData.int) → IntsAre vs ns := by
  intro ns
  induction ns with
  | nil =>
    intro vs w
    rw [List.map_nil] at w
    cases w
    exact .nil
  | cons n ns ih =>
    intro vs w
    rw [List.map_cons] at w
    cases w with
    | cons a b =>
      cases a
      exact .cons _ _ (ih _ b)

theorem script_of {l : OpenLaw} {n : Nat} (hn : l.most = some n) {P : Params} {h : Heap} {args : List WData} {vals : List Value}
    (hpre : l.row.toRowW.claim.pre args = true) (hwl : WellAll P h vals args) :
    ∃ a vs ns, vals = [Value.ref a] ∧ args = [WData.list (ns.map WData.int)] ∧ h.get? a = some { cls := .type "list", data := .seq vs.toArray } ∧ IntsAre vs ns ∧ ns.length ≤ n := by
  have hsh : WShape.hasAll [] args [.list .int] = true := (pre_splitW hpre).1
  have hc : l.pre.holds [] { args := args } = true := (pre_splitW hpre).2
  obtain ⟨d, r, rfl, h1, h2⟩ := hasAllW_cons hsh
  obtain rfl := hasAllW_nil h2
  obtain ⟨xs, rfl, h3⟩ := hasW_list h1
  obtain ⟨ns, rfl⟩ := items_int h3
  have hlen : ns.length ≤ n := by
    unfold OpenLaw.pre at hc
    have h4 : (WTm.not (.lt (.lit (.int (n : Int))) (.len (.arg 0)))).holds [] { args := [.list (ns.map .int)] } = true := by
      have h4 := (holds_andW hc).1
      rw [hn] at h4
      exact h4
    have h5 := condW_of h4 (w_not (w_lt w_lit (w_len_list (w_arg rfl))))
    rw [List.length_map] at h5
    refine Nat.le_of_not_lt fun q => ?_
    have q' : (n : Int) < ((ns.length : Nat) : Int) := by omega
    first
      | (rw [decide_eq_true q'] at h5; exact absurd h5 (by decide))
      | (simp at h5; omega)
  cases hwl with
  | cons w1 w2 =>
    cases w2
    cases w1 with
    | list ho hall => exact ⟨_, _, ns, rfl, rfl, ho, ints_of_wellAll ns _ hall, hlen⟩

theorem post_true (l : OpenLaw) (args : List WData) : l.row.toRowW.claim.post args (.bool true) args = true :=
  postW_of (r := l.row.toRowW) (X := (true == true))
    (show WShape.has [] (.bool true) .bool = true by first | rfl | decide | simp [WShape.has, WShape.arms, WShape.armsAll])
    (show (WTm.eq .res (.lit (.bool true))).value [] { args := args, res := some (.bool true), after := args } = some (.bool (true == true)) from w_eq_bool (w_res rfl) w_lit) rfl

/-! ### the attachment: holds_open's last premise (the goal 'hc' behind k_head) from a wpAny of the law's body -/
/-- the same from a codeAny of the CALL (for a layer whose function contracts speak of calls) -/
theorem attach_call {l : OpenLaw} {n : Nat} {q : Program} {loose : List Str} {XP : (Str → Option Value) → Heap → Prop} {YP : World → Heap → Prop} {d : DefRec}
    (hn : l.most = some n) (hdf : d.params.defaults = [])
    (call : ∀ (w : World) (s₀ s₁ : Shared) (mg mb : Str → Option Value) (fa : Addr) (o : Obj) (pm cd doc : Value) (a : Addr) (vs : List Value) (ns : List Int),
      Ground q loose [] XP w s₀ mg mb s₁.heap → YP w s₁.heap →
      s₁.heap.get? fa = some o → o.data = .func (docDef d.name d.params d.body d.scope pm cd doc) → s₁.heap.CodeRec cd d.name → mg d.name = some (.ref fa) →
      s₁.heap.get? a = some { cls := .type "list", data := .seq vs.toArray } → IntsAre vs ns → ns.length ≤ n → s₁.gens = #[] →
      codeAny (model l.prog w) callerA (.call (.ref fa) ⟨[.ref a], []⟩) (fun r s' => r = .ok (.ret (.bool true)) ∧ OldK s₁.heap s'.heap ∧ s'.os = s₁.os ∧ AllBare s'.gens) s₁) :
    WalkO q loose XP YP l.row.toRowW d [] (fun f vs => PySem.call f vs) := by
  intro w s₀ s₁ mg mb G Y fa o pm cd doc dV kV ho hd hcd hD hmg hg args vals as hpre hlay hrd hwl hlo
  obtain rfl : dV = .none := Dflts.none hD hdf
  obtain rfl : kV = .none := Dflts.noKw hD
  obtain ⟨a, vs, ns, rfl, rfl, hobj, hints, hlen⟩ := script_of hn hpre hwl
  refine enter_call (codeAny_mono (call w s₀ s₁ mg mb fa o pm cd doc a vs ns G Y ho (fd_plain hd) hcd hmg hobj hints hlen hg) fun r s' hq => ?_)
  obtain ⟨rfl, h2, h3, h4⟩ := hq
  exact ⟨.inl ⟨.bool true, .bool true, [], rfl, fun _ => rfl, .bool true, post_true l _, fun _ => ⟨List.Pairwise.nil, fun _ hm => (nomatch hm)⟩⟩, h2, h3, h4⟩

/-! ### rules over ANY heap (no ledger) from facts about the written part K: the library's own take a ledger (News) for what they write -/
section
variable {prog : Program} {w : World} {A : Around} {E : Value → Shared → Prop} {s : Shared} {K : Frag}

/-! the whole heap as the ledger: makes every rule that writes through a ledger a rule over any heap -/
def noObjs (h : Heap) : Heap := { h with objs := #[] }
def ledger (h : Heap) (L d : Addr) : List (Addr × Obj) := (List.range h.objs.size).filterMap fun a => if a = L ∨ a = d then none else (h.get? a).map fun o => (a, o)
end
end Att

namespace L2
open PySem PySem.Spec PyProof.Rows

theorem vals_ints : ∀ {vs : List Value} {ns : List Int}, IntsAre vs ns → Vals (ns.map V.int) vs
  | _, _, .nil => .nil
  | _, _, .cons n t h => .cons ⟨t, rfl⟩ (vals_ints h)

/-- nothing is tracked but the script, known to the object (or it is an object of the module) -/
def Only (H : Hp) : Prop := ∀ b, H b = none ∨ ∃ o xs, H b = some (.frz o (.lst xs))

/-- THE HEAD: the law's promise, at the heap behind the top. F, the promise of the law's def, may use that base is part of the heap (so K.In base, base.Ns mainGlobals mg stand in Mod) -/
theorem law_call {P : Program} {w : World} {K : PySem.W.Frag} {mg mb : Str → Option Value} {CX : CXT} {k : Nat} {fa a : Addr} {fd : FuncData} {x : Str} {sp : Sp} {s₁ : Shared} {vs : List Value} {ns : List Int}
    (KX : K.In s₁.heap) (hns : s₁.heap.Ns mainGlobals mg) (hb : s₁.heap.Ns builtinsNs mb) (hbb : ∀ x : Str, x ≠ "__name__" → mb x = bootBuiltins x) (hlim : s₁.heap.NoLimit) (hg : s₁.gens = #[])
    (ha : s₁.heap.get? a = some { cls := .type "list", data := .seq vs.toArray }) (hi : IntsAre vs ns) (hl : ns.length ≤ sizeLine) (hr : Room k callerA)
    (F : ∀ base : Heap, K.In base → base.Ns mainGlobals mg → FnOk P w K mg base CX k fa fd [x] sp) (hbind : ∀ (s : Shared) (u : Value), BindsTo s fd ⟨[u], []⟩ [(x, u)])
    (hsp : ∀ H : Hp, Only H → SqL K H a (ns.map V.int) → sp [.ref a] H (fun v _ => v = .bl true) fun _ _ _ => False)
    (hCX : ∀ H e s', CX [] H s₁ (fun _ _ _ => False) e s' → False) :
    codeAny (model P w) callerA (.call (.ref fa) ⟨[.ref a], []⟩) (fun r s' => r = .ok (.ret (.bool true)) ∧ OldK s₁.heap s'.heap ∧ s'.os = s₁.os ∧ AllBare s'.gens) s₁ := by
  have rv := vals_ints hi
  have lenV := hi.length
  -- from an abstract heap in which nothing but the script may be tracked
  have core : ∀ H : Hp, Only H → SqL K H a (ns.map V.int) → HOk P w H s₁.heap → (∀ b, H b ≠ none → b = a) → (H a ≠ none → K.lookup a = none) →
      codeAny (model P w) callerA (.call (.ref fa) ⟨[.ref a], []⟩) (fun r s' => r = .ok (.ret (.bool true)) ∧ OldK s₁.heap s'.heap ∧ s'.os = s₁.os ∧ AllBare s'.gens) s₁ := by
    intro H hO hS hok hA hK
    have base_of : ∀ {b : Addr} {o : Obj}, s₁.heap.get? b = some o → H b = none → (hidT s₁.heap H).get? b = some o := fun e n => hidT_get e n
    have noA : ∀ {b : Addr} {o : Obj} {es : Array DictEntry} {ep : Nat}, s₁.heap.get? b = some o → o.data = .dict es ep → H b = none := fun {b o es ep} e d => by
      cases q : H b with
      | none => rfl
      | some u =>
        have e' : b = a := hA b (by rw [q]; simp)
        subst e'
        rw [ha] at e; cases e
        have d' : Data.seq vs.toArray _ = Data.dict es ep := d
        cases d'
    have nsK : ∀ {b : Addr} {m : Str → Option Value}, s₁.heap.Ns b m → (hidT s₁.heap H).Ns b m := fun {b m} ⟨o, es, ep, e, d, r⟩ => ⟨o, es, ep, base_of e (noA e d), d, r⟩
    have hKb : K.In (hidT s₁.heap H) := fun b o e => base_of (KX b o e) (by
      cases q : H b with
      | none => rfl
      | some u =>
        have e' : b = a := hA b (by rw [q]; simp)
        subst e'
        rw [hK (by rw [q]; simp)] at e; cases e)
    have hM : Mod K mg (hidT s₁.heap H) := ⟨hKb, nsK hns, ⟨mb, nsK hb, hbb⟩, let ⟨mc, h1, h2⟩ := hlim; ⟨mc, nsK h1, h2⟩⟩
    have e0 : Env0 P w K mg (hidT s₁.heap H) callerA [] s₁ H := ⟨rfl, hM, fun b o e => of_hidT e, Nat.le_of_eq (hidT_size _ _), trivial, fun b hb => absurd (show b ∈ ([] : List Addr) from hb) (by simp), hok, .of_eq hg⟩
    refine codeAny_mono ((F _ hKb (nsK hns)).run callerA [] s₁ H ⟨[.ref a], []⟩ [.ref a] [.ref a] _ _ hr e0 (hbind s₁ (.ref a)) (.cons rfl .nil) (hsp H hO hS)) fun r s' h => ?_
    cases r with
    | error e => exact (hCX H e s' h).elim
    | ok fl =>
      cases fl with
      | next => exact False.elim h
      | brk => exact False.elim h
      | cont => exact False.elim h
      | ret u =>
        obtain ⟨v, H', os, bare, un, hok', r', q⟩ := h
        have q' : v = .bl true := q
        subst q'
        obtain rfl : u = Value.bool true := r'
        refine ⟨rfl, OldK.of_keep fun b o e => ?_, os, bare⟩
        cases q : H b with
        | none => exact un.keep b o e q (by intro z; exact absurd (show b ∈ ([] : List Addr) from z) (by simp)) (by simp)
        | some u =>
          rcases hO b with z | ⟨ob, xs, z⟩
          · rw [q] at z; cases z
          · have z2 := un.frzs b ob _ z
            obtain ⟨e1, _⟩ := hok b _ z
            obtain ⟨e2, _⟩ := hok' b _ z2
            rw [e] at e1; cases e1
            exact e2
  cases hk : K.lookup a with
  | some o =>
    -- the script is one of the module's own objects
    have e := KX a o hk
    rw [ha] at e
    cases e
    refine core (fun _ => none) (fun _ => .inl rfl) (.inr ⟨_, vs.toArray, _, hk, rfl, rfl, rfl, by rw [List.size_toArray, lenV]; exact hl, by simpa using rv⟩) (fun b u z => by have z' : (none : Option HO) = some u := z; cases z') (fun b z => absurd rfl z) fun z => absurd rfl z
  | none =>
    refine core (fun b => if b = a then some (.frz { cls := .type "list", data := .seq vs.toArray } (.lst (ns.map V.int))) else none) (fun b => ?_) (.inl (.inr ⟨{ cls := .type "list", data := .seq vs.toArray }, if_pos rfl⟩)) (fun b u z => ?_) (fun b z => ?_) fun _ => hk
    · by_cases hb : b = a
      · exact .inr ⟨_, _, if_pos hb⟩
      · exact .inl (if_neg hb)
    · by_cases hb : b = a
      · have z' := (if_pos hb).symm.trans z
        cases z'
        subst hb
        exact ⟨ha, by rw [List.length_map]; exact hl, vs, _, rv, ha⟩
      · have z' := (if_neg hb).symm.trans z
        cases z'
    · by_cases hb : b = a
      · exact hb
      · exact absurd (if_neg hb) z
end L2

namespace L2
open PySem PySem.Spec PyProof.Rows

abbrev KOf {K : PySem.W.Frag} {h : Heap} (_ : K.In h) : PySem.W.Frag := K

/-- the goal that k_head leaves (case hc), from the law's promise. F gives the function object fd (K's own) once, then the promise over every base -/
theorem walk_of {l : PySem.W.OpenLaw} {n k : Nat} {q : Program} {loose : List Str} {XP : (Str → Option Value) → Heap → Prop} {YP : World → Heap → Prop} {d : DefRec} {K : Params → PySem.W.Frag} {CX : World → CXT} {sp : World → Sp} {x : Str}
    (hn : l.most = some n) (hn2 : n ≤ sizeLine) (hdf : d.params.defaults = []) (hr : Room k callerA)
    (hY : ∀ (w : World) (h : Heap), YP w h → (K w.params).In h)
    (F : ∀ (w : World) (mg : Str → Option Value) (fa : Addr) (h : Heap), (K w.params).In h → h.Ns mainGlobals mg → mg d.name = some (.ref fa) →
      ∃ fd : FuncData, (∀ (s : Shared) (u : Value), BindsTo s fd ⟨[u], []⟩ [(x, u)]) ∧
        ∀ base : Heap, (K w.params).In base → base.Ns mainGlobals mg → FnOk l.prog w (K w.params) mg base (CX w) k fa fd [x] (sp w))
    (hsp : ∀ (w : World) (H : Hp) (a : Addr) (ns : List Int), ns.length ≤ n → Only H → SqL (K w.params) H a (ns.map V.int) → sp w [.ref a] H (fun v _ => v = .bl true) fun _ _ _ => False)
    (hCX : ∀ (w : World) (H : Hp) (s : Shared) (e : Value) (s' : Shared), CX w [] H s (fun _ _ _ => False) e s' → False) :
    PySem.W.WalkO q loose XP YP l.row.toRowW d [] (fun f vs => PySem.call f vs) := by
  refine Att.attach_call hn hdf fun w s₀ s₁ mg mb fa o pm cd doc a vs ns G Y ho hd hcd hmg hobj hints hlen hg => ?_
  have KX := hY w _ Y
  obtain ⟨fd, hb, hF⟩ := F w mg fa _ KX G.T.g hmg
  exact law_call KX G.T.g G.T.b G.T.builtins G.T.nolimit hg hobj hints (Nat.le_trans hlen hn2) hr hF hb (fun H hO hS => hsp w H a ns hlen hO hS) fun H e s' => hCX w H s₁ e s'
end L2

/- THE LAST THEOREM (shape; LID, My.* are yours):
   My.Adr: a structure of the addresses that your layer names (classes, functions); My.Txt K t: a structure (Prop) of the equations over K;
   My.txt_mk : {K} {implicit addresses ..} (e1 : nsIn K mainGlobals "law" = some (some (.ref f))) (e2 : K.lookup f = some ⟨oc, od, .func (fnOf "law" "law" params body scope dV kV doc pm an cdv ct), sl⟩) (e3 : codeIn K cdv "law" = true) .. : ∃ t, My.Txt K t

set_option maxRecDepth 100000 in
set_option maxHeartbeats 0 in
theorem PySem.Challenge.cw_LID_holds : PySem.Challenge.rw_LID.Holds := by
  w_on; o_law; k_head; (case hw => w_witness2)
  k_fill
  refine L2.walk_of (l := PySem.Challenge.rw_LID) (n := 63) (k := 40) (x := "script") (CX := fun w => ..) (sp := fun _ => My.sp_law) rfl (by decide) rfl ⟨rfl, by decide, by decide⟩ (fun w h Y => PySem.W.kIn_of Y) ?F ?S ?C
  case F =>
    intro w mg fa h KX G hmg
    have T : ∃ t, My.Txt (L2.KOf KX) t := by
      dsimp only [L2.KOf]                          -- K must stand as «<heap const> w.params» for k_is
      refine' My.txt_mk ?e1 ?e2 ?e3 ..
      (case e1 => PySem.W.k_is)                    -- in the order: a name -> its address -> its object -> its parts
      (case e2 => PySem.W.k_is)
      ..
    obtain ⟨t, T⟩ := T
    have e0 := hmg.symm.trans (PySem.W.mg_of KX G T.law)
    cases e0                                       -- fa is the law's own address
    exact ⟨_, fun s u => .of_eq rfl, fun base kb nb => My.law_fn T kb nb⟩     -- if «.of_eq rfl» comes too early: refine' ⟨_, ?b, fun base kb nb => My.law_fn T kb nb⟩; exact fun s u => .of_eq rfl
  case S => exact fun w H a ns hl hO hS => ..
  case C => exact ..
(the tactic k_is has no namespace: write k_is) -/

/-! SHORT WORDS over the layer: a def of the text, its body, what a loop and a test want. -/
namespace L2
open PySem PySem.Spec PyProof.Rows

/-! ### the text by places -/
/-- the j-th statement of a class's body -/
def inClass (s : Stmt) (j : Nat) : Stmt := match s with
  | .ClassDef _ _ _ body _ _ _ _ _ _ _ => body.getD j (.Pass ⟨0, 0, 0, 0⟩)
  | _ => .Pass ⟨0, 0, 0, 0⟩
def defArgs (s : Stmt) : Arguments := match s with
  | .FunctionDef _ a _ _ _ _ _ _ _ _ => a
  | _ => { posonlyargs := [], args := [], vararg := none, kwonlyargs := [], kw_defaults := [], kwarg := none, defaults := [] }
def defBody (s : Stmt) : List Stmt := match s with
  | .FunctionDef _ _ b _ _ _ _ _ _ _ => b
  | _ => []
def defScope (s : Stmt) : Scope := match s with
  | .FunctionDef _ _ _ _ _ _ sc _ _ _ => sc
  | _ => { kind := .function, names := [], isGenerator := false, isCoroutine := false }

/-! ### no exception leaves a def -/
abbrev CX0 : CXT := fun _ _ _ _ _ _ => False
abbrev E0 : XK := fun _ _ _ => False
theorem pass0 {X : Cx} : Passes CX0 X E0 := fun _ _ _ _ _ _ _ h => h.elim

/-! ### a def (or method) of the text as it stands behind the top -/
structure Fun (K : PySem.W.Frag) (x qual : Str) (st : Stmt) (f : Addr) (fd : FuncData) : Prop where
  ex : ∃ (oc : Value) (od : Option Addr) (kV doc pm : Value) (an : Option Addr) (cdv ct : Value) (osl : Array (Option Value)),
    fd = PySem.W.fnOf x qual (defArgs st) (defBody st) (defScope st) .none kV doc pm an cdv ct ∧ K.lookup f = some ⟨oc, od, .func fd, osl⟩ ∧ PySem.W.codeIn K cdv qual = true
  kp : PySem.W.keepIn K (.ref f) = true
section
variable {P : Program} {w : World} {K : PySem.W.Frag} {mg : Str → Option Value} {base : Heap}
/-- THE RULE for a def: its body as a term of rules, and the reading of that term -/
theorem Fun.ok {x qual : Str} {st : Stmt} {f : Addr} {fd : FuncData} {N ps : List Str} {k : Nat} {sp : Sp} (F : Fun K x qual st f fd) (S : FnScope N ps (defScope st)) (len : ∀ vs H Q E, sp vs H Q E → vs.length = ps.length)
    (hbody : ∀ (cdv : Value) (A : Around) (outer : List Env) (s : Shared) (H : Hp) (vs : List V) (Q : VK) (E : XK), Room k (A.deeper (envOfC qual (defScope st) s.heap.objs.size f cdv)) → sp vs H Q E →
      ∃ t, PSs (cxOf CX0 P w K mg base N qual (defScope st) f cdv A outer s H E).nox (defBody st) t ∧ t { nx := fun _ H' => Q .non H', rt := Q } (start N vs) H) : FnOk P w K mg base CX0 (k + 1) f fd ps sp := by
  obtain ⟨oc, od, kV, doc, pm, an, cdv, ct, osl, rfl, lk, hcd⟩ := F.ex
  refine fn_of lk hcd S len fun A outer s H vs Q E hr hsp => ?_
  obtain ⟨t, h, q⟩ := hbody cdv A outer s H vs Q E hr hsp
  exact ⟨t, h.nox, q⟩
/-- how its arguments bind (no defaults): h is «fun _ _ _ _ _ _ us hl => match us, hl with | [_, _], _ => rfl», one _ a parameter -/
theorem Fun.binds {x qual : Str} {st : Stmt} {f : Addr} {fd : FuncData} {ps : List Str} (F : Fun K x qual st f fd)
    (h : ∀ (kV doc pm : Value) (an : Option Addr) (cdv ct : Value) (us : List Value), us.length = ps.length → bindArgs (PySem.W.fnOf x qual (defArgs st) (defBody st) (defScope st) .none kV doc pm an cdv ct) ⟨us, []⟩ = pure (ps.zip us)) : Binds K fd ps [] := by
  obtain ⟨oc, od, kV, doc, pm, an, cdv, ct, osl, rfl, lk, hcd⟩ := F.ex
  exact .all (h kV doc pm an cdv ct)
theorem fun_mk {x qual : Str} {st : Stmt} {f : Addr} {oc : Value} {od an : Option Addr} {osl : Array (Option Value)} {kV doc pm cdv ct : Value} (l : K.lookup f = some ⟨oc, od, .func (PySem.W.fnOf x qual (defArgs st) (defBody st) (defScope st) .none kV doc pm an cdv ct), osl⟩)
    (c : PySem.W.codeIn K cdv qual = true) (k : PySem.W.keepIn K (.ref f) = true) : Fun K x qual st f (PySem.W.fnOf x qual (defArgs st) (defBody st) (defScope st) .none kV doc pm an cdv ct) := ⟨⟨oc, od, kV, doc, pm, an, cdv, ct, osl, rfl, l, c⟩, k⟩
end
theorem small1000 {n : Nat} (h : n ≤ 1000) : n < sizeLine := Nat.lt_of_le_of_lt h (by decide)

/-! ### expressions in short: the name that stands in the i-th slot -/
section
variable {X : Cx}
theorem pv (i : Nat) {x : Str} {pos : Pos} (hN : X.N[i]? = some x := by rfl) (hv : Vis X.env.scope x := by first | exact Or.inl rfl | exact Or.inr (Or.inl rfl) | exact Or.inr (Or.inr rfl)) (hd : (x == ("__debug__" : Str)) = false := by decide)
    (hcd : (x == ("__classdict__" : Str)) = false := by decide) : PE X (.Name x pos) (tVar i) := pe_var hN hv hd hcd
end

/-! ### tests -/
theorem iteF {A B : Prop} (h : B) : if false = true then A else B := by
  rw [if_neg Bool.false_ne_true]
  exact h
theorem iteT {A B : Prop} (h : A) : if true = true then A else B := by
  rw [if_pos rfl]
  exact h
theorem ite2 {c A B : Prop} [Decidable c] (h1 : c → A) (h2 : ¬ c → B) : if c then A else B := by
  by_cases h : c
  · rw [if_pos h]
    exact h1 h
  · rw [if_neg h]
    exact h2 h
theorem iteNS {c A B : Prop} [Decidable c] (hc : c) (h : B) : if (!decide c) = true then A else B := by
  rw [decide_eq_true hc]
  exact iteF h

/-! ### heaps -/
/-- all that was tracked is as it was -/
def Same (H H' : Hp) : Prop := ∀ b o, H b = some o → H' b = some o
theorem Same.refl (H : Hp) : Same H H := fun _ _ h => h
theorem Same.trans {H H1 H2 : Hp} (a : Same H H1) (b : Same H1 H2) : Same H H2 := fun c o h => b c o (a c o h)
theorem Same.free {H H' : Hp} (e : Same H H') {l : Addr} (h : H' l = Option.none) : H l = Option.none := by
  cases q : H l with
  | none => rfl
  | some o =>
    rw [e l o q] at h
    cases h
end L2
set_option maxHeartbeats 4000000
set_option exponentiation.threshold 2000

/-! MORE RULES over the layer: big products and quotients, a range by steps, isinstance, data compared, calls in short -/
namespace L2
open PySem PySem.Spec PyProof.Rows
section
variable {X : Cx}
/-! ### big ints -/
theorem bits_le {i : Int} {n : Nat} (h : i.natAbs < 2 ^ n) : Builtin.Int.intBits i ≤ n := by
  by_cases hz : i = 0
  · subst hz
    have e : Builtin.Int.intBits 0 = 0 := by decide
    rw [e]
    exact Nat.zero_le _
  · have h0 : i.natAbs ≠ 0 := by omega
    have := (Nat.log2_lt h0).mpr h
    unfold Builtin.Int.intBits
    split
    · exact Nat.zero_le _
    · omega
def CMulB (i j : Int) : Prop := i.natAbs < 2 ^ 1000 ∧ j.natAbs < 2 ^ 1000
def CDivB (_ j : Int) : Prop := j ≠ 0 ∧ j.natAbs < 2 ^ 1000
theorem op_fdivB : OpR X (binaryOp .FloorDiv) (rI CDivB fun i j => .int (i.fdiv j)) :=
  opI fun _ _ _ _ _ _ _ hc q => floordiv_int hc.1 q (.inl (PyProof.noPylong_of_log2 (Nat.lt_of_lt_of_le ((Nat.log2_lt (by have := hc.1; omega)).mpr hc.2) (by decide))))
/-! ### range(lo, hi, step), the step above 0 -/
def Itrs (lo st : Int) (n : Nat) : It := ⟨fun i _ => i < n, fun i H x H' => H' = H ∧ x = .int (lo + (i : Nat) * st), fun i _ => n ≤ i⟩
def iRng3 (ta : TA) : TI := fun σ H R => ta σ H fun vs H1 => ∃ i j st : Int, vs = [.int i, .int j, .int st] ∧ (st ≠ 0 ∧ st.natAbs < 1073741824) ∧ Builtin.Range.small i j st = true ∧ 0 ≤ Builtin.Range.rangeSize i j st ∧ R (Itrs i st (Builtin.Range.rangeSize i j st).toNat) H1
/-! ### isinstance(x, T), T a built-in type -/
theorem call_isinst : CallR X (.builtin "isinstance") (fun xs H Q => ∃ x t n b, xs = [x, .ty n] ∧ TyOf X.K H x t ∧ PySem.W.kitOne X.K t (.type n) = some b ∧ Q (.bl b) H) := by
  intro pins s σ H xs us Q I r h
  obtain ⟨x, t, n, b, rfl, ty, e, q⟩ := h
  obtain ⟨u, w', rfl, ru, rw'⟩ := vals2 r
  cases (show w' = Value.type n from rw')
  exact isinst_ok I ru ty e fun tk => ⟨.bl b, H, I.tok _, rfl, q⟩
/-! ### data: what a value is worth, lists and tuples within; ok: the addresses that may stand in it -/
mutual
inductive DA (K : PySem.W.Frag) (ok : Addr → Prop) (H : Hp) : V → PyData → Prop
  | non : DA K ok H .non .none
  | bl (b : Bool) : DA K ok H (.bl b) (.bool b)
  | int (i : Int) : DA K ok H (.int i) (.int i)
  | str (x : Str) : DA K ok H (.str x) (.str x)
  | lst {a : Addr} {vs : List V} {ds : List PyData} : ok a → SqL K H a vs → DAs K ok H vs ds → DA K ok H (.ref a) (.list ds)
  | tup {a : Addr} {vs : List V} {ds : List PyData} : ok a → SqT K H a vs → DAs K ok H vs ds → DA K ok H (.ref a) (.tuple ds)
inductive DAs (K : PySem.W.Frag) (ok : Addr → Prop) (H : Hp) : List V → List PyData → Prop
  | nil : DAs K ok H [] []
  | cons {v : V} {d : PyData} {vs : List V} {ds : List PyData} : DA K ok H v d → DAs K ok H vs ds → DAs K ok H (v :: vs) (d :: ds)
end
abbrev any (_ : Addr) : Prop := True
/-- what is tracked at the addresses that ok names is as it was -/
def Keep (ok : Addr → Prop) (H H' : Hp) : Prop := ∀ b o, ok b → H b = some o → H' b = some o
theorem Keep.refl (ok : Addr → Prop) (H : Hp) : Keep ok H H := fun _ _ _ h => h
theorem Same.keep {ok : Addr → Prop} {H H' : Hp} (e : Same H H') : Keep ok H H' := fun b o _ h => e b o h
theorem Keep.seq {K : PySem.W.Frag} {ok : Addr → Prop} {H H' : Hp} {a : Addr} {xs : List V} (e : Keep ok H H') (n : ok a) (h : SqL K H a xs) : SqL K H' a xs := by
  rcases h with (h | ⟨o, h⟩) | h
  · exact .inl (.inl (e _ _ n h))
  · exact .inl (.inr ⟨o, e _ _ n h⟩)
  · exact .inr h
theorem Keep.seqT {K : PySem.W.Frag} {ok : Addr → Prop} {H H' : Hp} {a : Addr} {xs : List V} (e : Keep ok H H') (n : ok a) (h : SqT K H a xs) : SqT K H' a xs := by
  rcases h with (h | ⟨o, h⟩) | h
  · exact .inl (.inl (e _ _ n h))
  · exact .inl (.inr ⟨o, e _ _ n h⟩)
  · exact .inr h
theorem Same.seqT {K : PySem.W.Frag} {H H' : Hp} {a : Addr} {xs : List V} (e : Same H H') (h : SqT K H a xs) : SqT K H' a xs := (e.keep (ok := any)).seqT trivial h
theorem Same.upd {H : Hp} {p : Addr} {o : HO} (h : H p = none) : Same H (upd H p o) := fun b u e => by rw [upd_ne (ne_of_none e h)]; exact e
mutual
theorem DA.mono {K : PySem.W.Frag} {ok ok' : Addr → Prop} {H H' : Hp} (e : Keep ok H H') (m : ∀ a, ok a → ok' a) : ∀ {v : V} {d : PyData}, DA K ok H v d → DA K ok' H' v d
  | _, _, .non => .non
  | _, _, .bl b => .bl b
  | _, _, .int i => .int i
  | _, _, .str x => .str x
  | _, _, .lst n s r => .lst (m _ n) (e.seq n s) (DAs.mono e m r)
  | _, _, .tup n s r => .tup (m _ n) (e.seqT n s) (DAs.mono e m r)
theorem DAs.mono {K : PySem.W.Frag} {ok ok' : Addr → Prop} {H H' : Hp} (e : Keep ok H H') (m : ∀ a, ok a → ok' a) : ∀ {v : List V} {d : List PyData}, DAs K ok H v d → DAs K ok' H' v d
  | _, _, .nil => .nil
  | _, _, .cons a r => .cons (DA.mono e m a) (DAs.mono e m r)
end
mutual
theorem DA.reads {ok : Addr → Prop} {pins : List (Addr × Obj)} {σ : St} {H : Hp} {s : Shared} (I : Inv X pins σ H s) : ∀ {v : V} {d : PyData} {u : Value}, DA X.K ok H v d → RelV v u → ∃ as, Reads s.heap u d as
  | _, _, _, .non, r => by cases r; exact ⟨_, .none⟩
  | _, _, _, .bl b, r => by cases r; exact ⟨_, .bool b⟩
  | _, _, _, .int i, r => by obtain ⟨t, rfl⟩ := r; exact ⟨_, .int i t⟩
  | _, _, _, .str x, r => by obtain ⟨t, rfl⟩ := r; exact ⟨_, .str x t⟩
  | _, _, _, .lst _ h q, r => by
    cases r
    obtain ⟨its, rv, ⟨o, n, e, c, _, d⟩, _⟩ := I.list h
    obtain ⟨as, p⟩ := DAs.reads I q rv
    exact ⟨_, .list e c d (by simpa using p)⟩
  | _, _, _, .tup _ h q, r => by
    cases r
    obtain ⟨its, rv, ⟨o, e, c, n, d⟩, _⟩ := I.tuple h
    obtain ⟨as, p⟩ := DAs.reads I q rv
    exact ⟨_, .tuple e c d (by simpa using p)⟩
theorem DAs.reads {ok : Addr → Prop} {pins : List (Addr × Obj)} {σ : St} {H : Hp} {s : Shared} (I : Inv X pins σ H s) : ∀ {v : List V} {d : List PyData} {u : List Value}, DAs X.K ok H v d → Vals v u → ∃ as, ReadsAll s.heap u d as
  | _, _, _, .nil, r => by cases r; exact ⟨_, .nil⟩
  | _, _, _, .cons a q, r => by
    cases r with
    | cons r1 r2 =>
      obtain ⟨as, p⟩ := DA.reads I a r1
      obtain ⟨bs, p'⟩ := DAs.reads I q r2
      exact ⟨_, .cons p p'⟩
end
/-- == of two data -/
def rEqD (K : PySem.W.Frag) : R2 := fun x y H Q => ∃ d e, DA K any H x d ∧ DA K any H y e ∧ (d.canLay0 = true ∧ e.canLay0 = true ∧ d.depth ≤ 64) ∧ Q (.bl (PyData.eqv d e)) H
def rNeD (K : PySem.W.Frag) : R2 := fun x y H Q => ∃ d e, DA K any H x d ∧ DA K any H y e ∧ (d.canLay0 = true ∧ e.canLay0 = true ∧ d.depth ≤ 64) ∧ Q (.bl (!PyData.eqv d e)) H
theorem op_eqD (hu : X.A.units + 64 < cLine) : OpR X (compareOp .Eq) (rEqD X.K) := by
  intro pins s σ H x y v u Q I rx ry h
  obtain ⟨d, e, hd, he, ⟨l1, l2, l3⟩, q⟩ := h
  obtain ⟨as, p1⟩ := hd.reads I rx
  obtain ⟨bs, p2⟩ := he.reads I ry
  exact PySem.SeqAt.compareEq_reads p1 p2 l1 l2 (by omega) ⟨.bl _, H, I, rfl, q⟩
theorem op_neD (hu : X.A.units + 64 < cLine) : OpR X (compareOp .NotEq) (rNeD X.K) := by
  intro pins s σ H x y v u Q I rx ry h
  obtain ⟨d, e, hd, he, ⟨l1, l2, l3⟩, q⟩ := h
  obtain ⟨as, p1⟩ := hd.reads I rx
  obtain ⟨bs, p2⟩ := he.reads I ry
  exact PySem.SeqAt.compareNe_reads p1 p2 l1 l2 (by omega) ⟨.bl _, H, I, rfl, q⟩
end
theorem iteNP {c A B : Prop} [Decidable c] (hc : ¬ c) (h : A) : if (!decide c) = true then A else B := by
  rw [decide_eq_false hc]
  exact iteT h
theorem itDP {c A B : Prop} [Decidable c] (hc : c) (h : A) : if decide c = true then A else B := by
  rw [decide_eq_true hc]
  exact iteT h
theorem itDN {c A B : Prop} [Decidable c] (hc : ¬ c) (h : B) : if decide c = true then A else B := by
  rw [decide_eq_false hc]
  exact iteF h
/-! ### a def of the text that is called by its name -/
structure Dn (K : PySem.W.Frag) (mg : Str → Option Value) (x : Str) (st : Stmt) (ps : List Str) (f : Addr) (fd : FuncData) : Prop where
  fn : Fun K x x st f fd
  gl : mg x = some (.ref f)
  bd : Binds K fd ps []
section
variable {X : Cx} {k : Nat} {f : Addr} {fd : FuncData} {x : Str} {st : Stmt} {ps : List Str} {sp : Sp} {e : Expr} {es : List Expr} {p pos : Pos} {t : TA}
theorem pe_fn (D : Dn X.K X.mg x st ps f fd) (G : FnOk X.prog X.w X.K X.mg X.base CX0 k f fd ps sp) (hr : Room k X.A) (hg : Gl X x) (ha : PA X (e :: es) t) (hdb : (x == ("__debug__" : Str)) = false := by decide)
    (hs : starEach (e :: es) X.env = (false, eval e X.env) :: starEach es X.env := by rfl) (hpl : (backTo pos (starEach es X.env)).any (·.1) = false := by rfl) : PE X (.Call (.Name x p) (e :: es) [] pos) (tCall sp [] E0 t) := 
  pe_call G hr hg D.gl D.fn.kp D.bd .nil pass0 ha hdb hs hpl
end
end L2

/-! A LIST COMPREHENSION with one clause and no test; its name may be a cell (another one within captures it) -/
namespace L2
open PySem PySem.Spec PyProof.Rows
def blkN (N : List Str) (x : Str) : List Str := N.map (fun y => if y = x then Str.empty else y) ++ [x]
def clOf (cells : List (Str × Addr)) : List (Str × NameKind) → List (Str × Addr) → List (Str × Addr)
  | [], acc => acc
  | (n, k) :: r, acc => clOf cells r (if (k == .free) = true then (match cells.lookup n with | some c => (n, c) :: acc | none => acc) else acc)
structure LcScope (S : Scope) (N : List Str) (sc : Scope) (x : Str) : Prop where
  uniq : (sc.names.map (·.1)).Nodup
  kind : sc.kind = .function
  names : ∀ y ∈ sc.names, y.2 = .local → sc.names.lookup y.1 = some .local
  loc : sc.names.lookup x = some .local ∨ sc.names.lookup x = some .cell
  free : ∀ y ∈ sc.names, y.2 = .free → S.names.lookup y.1 = some .cell ∨ S.names.lookup y.1 = some .free
  only : ∀ y ∈ sc.names, y.2 = .local → y.1 = x ∨ y.1 = ".0"
  onlyC : ∀ y ∈ sc.names, y.2 = .cell → y.1 = x
  ne : ∀ y ∈ sc.names, y.1 ≠ Str.empty
  dot : ∀ y ∈ N, y ≠ ".0"
  nd : (blkN N x).Nodup
theorem lookup_relab {c : Str → NameKind → Bool} {y : Str} : ∀ (names : List (Str × NameKind)), (names.map fun (n, k) => if c n k = true then (n, NameKind.cell) else (n, k)).lookup y = (names.lookup y).map fun k => if c y k = true then NameKind.cell else k
  | [] => rfl
  | (n, k) :: r => by
    have ih := lookup_relab (c := c) (y := y) r
    show List.lookup y ((if c n k = true then (n, NameKind.cell) else (n, k)) :: _) = _
    cases hx : y == n with
    | true =>
      have e : y = n := by simpa using hx
      subst e
      by_cases hc : c y k = true
      · rw [if_pos hc]; simp [List.lookup_cons, hc]
      · rw [if_neg hc]; simp [List.lookup_cons, hc]
    | false =>
      by_cases hc : c n k = true
      · rw [if_pos hc]; simp only [List.lookup_cons, hx]; exact ih
      · rw [if_neg hc]; simp only [List.lookup_cons, hx]; exact ih
theorem relab_lookup {sc : Scope} {env : Env} {y : Str} {k : NameKind} (h : (relabel sc env).names.lookup y = some k) : ∃ k0, (y, k0) ∈ sc.names ∧ (k = k0 ∨ (k = .cell ∧ k0 = .free)) := by
  have e := lookup_relab (c := fun n k => k == NameKind.free && env.scope.kind == .function && env.kindOf n == some .cell) (y := y) sc.names
  have h' : (sc.names.map fun (n, k) => if (k == NameKind.free && env.scope.kind == .function && env.kindOf n == some .cell) = true then (n, NameKind.cell) else (n, k)).lookup y = some k := h
  rw [e] at h'
  cases q : sc.names.lookup y with
  | none => rw [q] at h'; cases h'
  | some k0 =>
    rw [q] at h'
    refine ⟨k0, PySem.mem_of_lookup q, ?_⟩
    have h'' : (if (k0 == NameKind.free && env.scope.kind == .function && env.kindOf y == some .cell) = true then NameKind.cell else k0) = k := Option.some.inj h'
    by_cases hc : (k0 == NameKind.free && env.scope.kind == .function && env.kindOf y == some .cell) = true
    · rw [if_pos hc] at h''
      refine .inr ⟨h''.symm, ?_⟩
      have := (Bool.and_eq_true_iff.mp (Bool.and_eq_true_iff.mp hc).1).1
      simpa using this
    · rw [if_neg hc] at h''
      exact .inl h''.symm
theorem clOf_sub {cells : List (Str × Addr)} : ∀ (names : List (Str × NameKind)) (acc : List (Str × Addr)), (∀ y c, acc.lookup y = some c → cells.lookup y = some c) → ∀ y c, (clOf cells names acc).lookup y = some c → cells.lookup y = some c
  | [], _, h => h
  | (n, k) :: r, acc, h => by
    refine clOf_sub r _ fun y c => ?_
    by_cases hk : (k == NameKind.free) = true
    · rw [if_pos hk]
      cases q : cells.lookup n with
      | none => exact h y c
      | some d =>
        intro e
        show cells.lookup y = some c
        have e' : List.lookup y ((n, d) :: acc) = some c := e
        rw [List.lookup_cons] at e'
        cases hx : y == n with
        | true =>
          rw [hx] at e'
          have : y = n := by simpa using hx
          subst this
          rw [q]; exact e'
        | false =>
          rw [hx] at e'
          exact h y c e'
    · rw [if_neg hk]
      exact h y c
theorem clOf_acc {cells : List (Str × Addr)} {y : Str} : ∀ (names : List (Str × NameKind)) (acc : List (Str × Addr)), (acc.lookup y).isSome = true → ((clOf cells names acc).lookup y).isSome = true
  | [], _, h => h
  | (n, k) :: r, acc, h => by
    refine clOf_acc r _ ?_
    by_cases hk : (k == NameKind.free) = true
    · rw [if_pos hk]
      cases q : cells.lookup n with
      | none => exact h
      | some d =>
        show (List.lookup y ((n, d) :: acc)).isSome = true
        rw [List.lookup_cons]
        cases hx : y == n with
        | true => rfl
        | false => exact h
    · rw [if_neg hk]; exact h
theorem clOf_has {cells : List (Str × Addr)} {y : Str} (hc : (cells.lookup y).isSome = true) : ∀ (names : List (Str × NameKind)) (acc : List (Str × Addr)), (y, NameKind.free) ∈ names → ((clOf cells names acc).lookup y).isSome = true
  | (n, k) :: r, acc, h => by
    rcases List.mem_cons.mp h with e | h
    · cases e
      refine clOf_acc r _ ?_
      rw [if_pos (by rfl)]
      obtain ⟨c, q⟩ := Option.isSome_iff_exists.mp hc
      rw [q]
      show (List.lookup y ((y, c) :: acc)).isSome = true
      rw [List.lookup_cons, beq_self_eq_true]
      rfl
    · exact clOf_has hc r _ h
theorem cellOf_some {env : Env} {y : Str} {c : Addr} (h : env.cells.lookup y = some c) : cellOf env y = pure c := by
  unfold cellOf
  rw [h]
theorem closure_of {sc : Scope} {env : Env} (h : ∀ y ∈ sc.names, y.2 = .free → (env.cells.lookup y.1).isSome = true) : closureFor sc env = pure (clOf env.cells sc.names []) := by
  have all : ∀ (names : List (Str × NameKind)) (acc : List (Str × Addr)), (∀ y ∈ names, y.2 = .free → (env.cells.lookup y.1).isSome = true) →
      (forIn names acc fun (x : Str × NameKind) (cs : List (Str × Addr)) => (do
        let (name, kind) := x
        if (kind == .free) = true then let c ← cellOf env name; pure (ForInStep.yield ((name, c) :: cs)) else pure (ForInStep.yield cs) : Sem (ForInStep (List (Str × Addr))))) = pure (clOf env.cells names acc) := by
    intro names
    induction names with
    | nil => intro acc _; rfl
    | cons a r ih =>
      intro acc hh
      obtain ⟨n, k⟩ := a
      rw [List.forIn_cons]
      by_cases hk : (k == NameKind.free) = true
      · obtain ⟨c, q⟩ := Option.isSome_iff_exists.mp (hh (n, k) List.mem_cons_self (by simpa using hk))
        simp only [hk, if_true, cellOf_some q, pure_bind]
        rw [ih _ fun y hy => hh y (List.mem_cons_of_mem _ hy)]
        show pure (clOf env.cells r ((n, c) :: acc)) = pure (clOf env.cells r (if (k == NameKind.free) = true then _ else acc))
        rw [if_pos hk, q]
      · simp only [hk, Bool.false_eq_true, if_false, pure_bind]
        rw [ih _ fun y hy => hh y (List.mem_cons_of_mem _ hy)]
        show pure (clOf env.cells r acc) = pure (clOf env.cells r (if (k == NameKind.free) = true then _ else acc))
        rw [if_neg hk]
  unfold closureFor
  first
    | exact (congrArg (fun z => z >>= pure) (all sc.names [] h)).trans (by simp)
    | (have e := all sc.names [] h
       simp only [bind_pure] at e ⊢
       exact e)
/-- the cell of the comprehension's own name -/
def ownC (sc : Scope) (x : Str) (n : Nat) : List (Str × Addr) := if sc.names.lookup x = some .cell then [(x, n)] else []
/-- the block of a comprehension -/
def Cx.blk (X : Cx) (N' : List Str) (sc : Scope) (x : Str) (s₀ : Shared) (H₀ : Hp) (fp : List Addr) : Cx :=
  { X with N := N', s₀ := s₀, H₀ := H₀, env := compEnvC sc (ownC sc x (s₀.heap.objs.size + 1) ++ clOf X.env.cells sc.names []) s₀.heap.objs.size X.env, outer := X.stack, stack := X.stack, ex := fp, fn := fun y => decide (y = x ∧ sc.names.lookup x = some .cell), pn := [], xe := fun _ _ => False }
theorem cellsFrom_none {acc : List (Str × Addr)} : ∀ {names : List (Str × NameKind)} {n : Nat}, (∀ y ∈ names, y.2 ≠ .cell) → cellsFrom n names acc = acc
  | [], _, _ => rfl
  | (y, k) :: r, n, h => by
    unfold cellsFrom
    rw [if_neg (by simpa using h (y, k) List.mem_cons_self)]
    exact cellsFrom_none fun z hz => h z (List.mem_cons_of_mem _ hz)
theorem pushCells_none : ∀ {names : List (Str × NameKind)} {h : Heap}, (∀ y ∈ names, y.2 ≠ .cell) → pushCells h names = h
  | [], _, _ => rfl
  | (y, k) :: r, h, hn => by
    unfold pushCells
    rw [if_neg (by simpa using hn (y, k) List.mem_cons_self)]
    exact pushCells_none fun z hz => hn z (List.mem_cons_of_mem _ hz)
theorem newEnv_lc {M : Model} {A : Around} {E : Value → Shared → Prop} {s : Shared} {scope : Scope} {globals : Addr} {closure : List (Str × Addr)} {qual : Str} {func : Option Addr} {code : Value} {outer : Env} {builtins : Addr} {Q : Env → Shared → Prop}
    (hQ : Q (newEnv scope s.heap.objs.size globals (cellsFrom (s.heap.objs.size + 1) scope.names closure) qual func code (some outer) builtins) { s with heap := pushCells (s.heap.push { cls := .type "dict", data := .dict #[] }) scope.names }) :
    wpAny M A (newFunctionEnv scope globals closure [] qual func code (some outer) builtins) Q E s := by
  simp only [newFunctionEnv, Option.isSome_some, if_true]
  refine wpAny_bind (wpAny_alloc ?_)
  refine wpAny_bind (wpAny_layCells _ (fun name kind cells => by cases hkc : kind == NameKind.cell <;> simp [hkc]) _ _ _ _ ?_)
  rw [show ({ s with heap := s.heap.push { cls := .type "dict", data := .dict #[] } } : Shared).heap.objs.size = s.heap.objs.size + 1 from Heap.size_push ..]
  exact wpAny_bind (wpAny_pure (wpAny_pure hQ))
section
variable {X : Cx} {pins : List (Addr × Obj)} {σ : St} {H : Hp} {s : Shared} {sc : Scope} {x : Str} {fp : List Addr}
/-- the reading: W turn measure items heap -/
def tLc (ti : TI) (te : TE) : TE := fun σ H Q => ti σ H fun J H1 => ∀ D, H1 D = none → ∃ W : Nat → Nat → List V → Hp → Prop, (∃ m, W 0 m [] (upd H1 D (.lst []))) ∧
  ∀ i m ys H', W i m ys H' → H' D = some (.lst ys) ∧ ((J.stop i H' ∧ Q (.ref D) H') ∨ (J.go i H' ∧ ∀ z H2, J.yld i H' z H2 → te (σ ++ [some z]) H2 fun v H3 => H3 D = some (.lst ys) ∧ ys.length < sizeLine ∧ ∃ m', m' < m ∧ W (i + 1) m' (ys ++ [v]) (upd H3 D (.lst (ys ++ [v])))))
end
end L2

/-! sorted of a list of ints; range(n) as a value, list(range(n)) -/
namespace L2
open PySem PySem.Spec PyProof.Rows
section
variable {X : Cx}
end
end L2

/-! the forms of a comprehension that one uses -/
namespace L2
open PySem PySem.Spec PyProof.Rows
theorem lc_list {K : PySem.W.Frag} {a : Addr} {xs : List V} {te : TE} {Q : Hp → Prop} {σ : St} {H1 : Hp} {D : Addr} (Pv : Nat → List V → Hp → Prop) (h0 : Pv 0 [] (upd H1 D (.lst []))) (hl : ∀ i ys H', i ≤ xs.length → Pv i ys H' → SqL K H' a xs ∧ H' D = some (.lst ys))
    (hs : ∀ i x ys H', xs[i]? = some x → Pv i ys H' → te (σ ++ [some x]) H' fun v H3 => H3 D = some (.lst ys) ∧ ys.length < sizeLine ∧ Pv (i + 1) (ys ++ [v]) (upd H3 D (.lst (ys ++ [v])))) (hd : ∀ ys H', Pv xs.length ys H' → Q H')
    (mono : ∀ σ H Q Q', (∀ v H1, Q v H1 → Q' v H1) → te σ H Q → te σ H Q') :
    ∃ W : Nat → Nat → List V → Hp → Prop, (∃ m, W 0 m [] (upd H1 D (.lst []))) ∧
      ∀ i m ys H', W i m ys H' → H' D = some (.lst ys) ∧ (((Itl K a).stop i H' ∧ Q H') ∨ ((Itl K a).go i H' ∧ ∀ z H2, (Itl K a).yld i H' z H2 → te (σ ++ [some z]) H2 fun v H3 => H3 D = some (.lst ys) ∧ ys.length < sizeLine ∧ ∃ m', m' < m ∧ W (i + 1) m' (ys ++ [v]) (upd H3 D (.lst (ys ++ [v]))))) := by
  refine ⟨fun i m ys H' => m = xs.length - i ∧ i ≤ xs.length ∧ Pv i ys H', ⟨xs.length, by simp, Nat.zero_le _, h0⟩, ?_⟩
  rintro i m ys H' ⟨rfl, hi, p⟩
  obtain ⟨q, eD⟩ := hl i ys H' hi p
  refine ⟨eD, ?_⟩
  by_cases hlt : i < xs.length
  · refine .inr ⟨⟨xs, xs[i], q, by simp [hlt]⟩, fun z H2 y => ?_⟩
    obtain ⟨e, y⟩ := y
    subst e
    refine mono _ _ _ _ (fun v H3 ⟨z1, z2, z3⟩ => ⟨z1, z2, xs.length - (i + 1), by omega, rfl, hlt, z3⟩) (hs i z ys _ (y xs q) p)
  · have e : i = xs.length := by omega
    subst e
    exact .inl ⟨⟨xs, q, Nat.le_refl _⟩, hd ys H' p⟩
theorem lc_range {lo : Int} {n : Nat} {te : TE} {Q : Hp → Prop} {σ : St} {H1 : Hp} {D : Addr} (Pv : Nat → List V → Hp → Prop) (h0 : Pv 0 [] (upd H1 D (.lst []))) (hl : ∀ i ys H', i ≤ n → Pv i ys H' → H' D = some (.lst ys))
    (hs : ∀ i ys H', i < n → Pv i ys H' → te (σ ++ [some (.int (lo + (i : Nat)))]) H' fun v H3 => H3 D = some (.lst ys) ∧ ys.length < sizeLine ∧ Pv (i + 1) (ys ++ [v]) (upd H3 D (.lst (ys ++ [v])))) (hd : ∀ ys H', Pv n ys H' → Q H')
    (mono : ∀ σ H Q Q', (∀ v H1, Q v H1 → Q' v H1) → te σ H Q → te σ H Q') :
    ∃ W : Nat → Nat → List V → Hp → Prop, (∃ m, W 0 m [] (upd H1 D (.lst []))) ∧
      ∀ i m ys H', W i m ys H' → H' D = some (.lst ys) ∧ (((Itr lo n).stop i H' ∧ Q H') ∨ ((Itr lo n).go i H' ∧ ∀ z H2, (Itr lo n).yld i H' z H2 → te (σ ++ [some z]) H2 fun v H3 => H3 D = some (.lst ys) ∧ ys.length < sizeLine ∧ ∃ m', m' < m ∧ W (i + 1) m' (ys ++ [v]) (upd H3 D (.lst (ys ++ [v]))))) := by
  refine ⟨fun i m ys H' => m = n - i ∧ i ≤ n ∧ Pv i ys H', ⟨n, by simp, Nat.zero_le _, h0⟩, ?_⟩
  rintro i m ys H' ⟨rfl, hi, p⟩
  refine ⟨hl i ys H' hi p, ?_⟩
  by_cases hlt : i < n
  · refine .inr ⟨hlt, fun z H2 y => ?_⟩
    obtain ⟨e, y⟩ := y
    subst e y
    refine mono _ _ _ _ (fun v H3 ⟨z1, z2, z3⟩ => ⟨z1, z2, n - (i + 1), by omega, rfl, hlt, z3⟩) (hs i ys _ hlt p)
  · have e : i = n := by omega
    subst e
    exact .inl ⟨Nat.le_refl _, hd ys H' p⟩
end L2

/-! sum of a list of ints -/
namespace L2
open PySem PySem.Spec PyProof.Rows
section
variable {X : Cx}
theorem call_sum (hc : X.calm = true) : CallR X (.builtin "sum") (fun xs H Q => ∃ (p : Addr) (ns : List Int), xs = [.ref p] ∧ SqL X.K H p (ns.map V.int) ∧ Q (.int ns.sum) H) := by
  intro pins s σ H xs us Q I r h
  obtain ⟨p, ns, rfl, hq, q⟩ := h
  obtain ⟨u, rfl, rx⟩ := vals1 r
  cases rx
  obtain ⟨its, rv, pl, hz⟩ := I.list hq
  have hI : IntsAre its ns := intsAre_of rv
  obtain ⟨ys, hx⟩ := hI.allInts.items
  have hl' : s.heap.IsList p (intItems ys) := hx ▸ pl.isList
  refine sum_intListG (I.ok.hd hc) hl' fun h' tk t' hk => ?_
  have e1 : ns = ys.toList.map (·.1) := by
    rw [← nums_intItems, ← hx]
    exact (show numsOf its.toArray.toList = ns from hI.numsOf).symm
  have e2 : preSum (numAt ys) ys.size = ns.sum := by
    rw [preSum_eq, List.take_of_length_le (by simp), e1]
  rw [e2]
  exact ⟨.int ns.sum, H, I.kept hk, ⟨_, rfl⟩, q⟩
end
end L2

/-! zip of two lists, walked by a tuple of names; a table of the module by texts -/
namespace L2
open PySem PySem.Spec PyProof.Rows
section
variable {X : Cx} {pins : List (Addr × Obj)} {σ : List (Option V)} {H : Hp} {s : Shared} {h' : Heap}
theorem Inv.turnedL {t' : Nat} {its : List Addr} (I : Inv X pins σ H s) (k : ∀ b o, b ∉ its → s.heap.get? b = some o → h'.get? b = some o) (hf : ∀ b ∈ its, FpOk X pins H b) : Inv X pins σ H { s with heap := h', toks := t' } := by
  have nit : ∀ b u, H b = some u → b ∉ its := fun b u e z => by rw [(hf b z).1] at e; cases e
  refine I.step (g' := s.gens) (d' := s.drawn) (ch := its) (fun b hb => ?_) (fun b o _ _ hc e _ => k b o hc e) (fun b o _ _ hc e _ => ⟨o.slots, k b o hc e⟩) (fun _ _ _ _ n => n)
    (fun b o hc e => ⟨o, k b o hc e⟩) (fun _ _ e => e) (fun _ _ _ e => e) (fun b ps e => ⟨#[], by rw [e]; simp⟩) (fun m hm => ?_) (fun b u e => ?_) I.bare
  · obtain ⟨f0, f1, f2, f3, f4, f5⟩ := hf b hb
    exact ⟨f3, f1, f4, f5⟩
  · obtain ⟨o, es, ep, ho, r⟩ := hm
    exact ⟨o, es, ep, k _ o (fun z => (hf _ z).2.1 rfl) ho, r⟩
  · refine (I.hok b u e).stay (fun c v hc q => k c v ?_ q) (fun _ q => q) fun _ _ q => q
    rcases hc with z | z
    · rw [z]; exact nit b u e
    · exact nit c _ z
end
def Itz (K : PySem.W.Frag) (a b : Addr) : It :=
  ⟨fun i H => ∃ xs ys x y, SqL K H a xs ∧ SqL K H b ys ∧ xs[i]? = some x ∧ ys[i]? = some y,
   fun i H z H' => ∃ t x y, z = .ref t ∧ H t = none ∧ H' = upd H t (.tup [x, y]) ∧ (∀ xs, SqL K H a xs → xs[i]? = some x) ∧ ∀ ys, SqL K H b ys → ys[i]? = some y,
   fun i H => ∃ xs ys, SqL K H a xs ∧ SqL K H b ys ∧ (xs.length ≤ i ∨ ys.length ≤ i)⟩
structure Ap5 (z TI TO i1 i2 : Addr) : Prop where
  a1 : TI ≠ z
  a2 : TO ≠ z
  a3 : i1 ≠ z
  a4 : i2 ≠ z
  a5 : TI ≠ TO
  a6 : TI ≠ i1
  a7 : TI ≠ i2
  a8 : TO ≠ i1
  a9 : TO ≠ i2
  b1 : i1 ≠ i2
def ZSt (z TI TO i1 i2 a b : Addr) (i : Nat) (h : Heap) : Prop := IsZip h z TI TO .none ∧ IsPair h TI (.ref i1) (.ref i2) ∧ (∃ c d, IsPair h TO c d) ∧ h.IsListIter i1 a i ∧ h.IsListIter i2 b i
theorem cls_ne {h : Heap} {a b : Addr} {o o' : Obj} (e : h.get? a = some o) (e' : h.get? b = some o') (n : o.cls ≠ o'.cls) : a ≠ b := fun z => by
  subst z
  rw [e] at e'
  cases e'
  exact n rfl
theorem zap {h : Heap} {z TI TO i1 i2 a b : Addr} {i : Nat} {xs ys : Array Value} (D : Ap5 z TI TO i1 i2) (st : ZSt z TI TO i1 i2 a b i h) (ha : h.IsList a xs) (hb : h.IsList b ys) : ZipApart z TI TO i1 i2 a b := by
  obtain ⟨hz, hTI, ⟨c, d, hTO⟩, ⟨o1, e1, c1, _⟩, ⟨o2, e2, c2, _⟩⟩ := st
  obtain ⟨oa, ea, ca, _⟩ := ha
  obtain ⟨ob, eb, cb, _⟩ := hb
  exact ⟨D.a1, D.a2, D.a3, D.a4, D.a5, D.a6, D.a7, D.a8, D.a9, D.b1,
    cls_ne ea hz (by rw [ca]; show Value.type "list" ≠ Value.type "zip"; decide), cls_ne ea hTO (by rw [ca]; show Value.type "list" ≠ Value.type "tuple"; decide), cls_ne ea e1 (by rw [ca, c1]; decide), cls_ne ea e2 (by rw [ca, c2]; decide),
    cls_ne eb hz (by rw [cb]; show Value.type "list" ≠ Value.type "zip"; decide), cls_ne eb hTO (by rw [cb]; show Value.type "list" ≠ Value.type "tuple"; decide), cls_ne eb e1 (by rw [cb, c1]; decide), cls_ne eb e2 (by rw [cb, c2]; decide)⟩
theorem turn_zip {P : Program} {w : World} {K : PySem.W.Frag} {elts : List Expr} {ek : Nat} {epos : Pos} {z TI TO i1 i2 a b : Addr} (D : Ap5 z TI TO i1 i2) : Turn P w K (.Tuple elts ek epos) (Itz K a b) [z, TI, TO, i1, i2] z (ZSt z TI TO i1 i2 a b) where
  mem := by simp
  obj := fun i h st c hc => by
    obtain ⟨hz, hTI, ⟨p, q, hTO⟩, ⟨o1, e1, c1, d1⟩, ⟨o2, e2, c2, d2⟩⟩ := st
    have hc' : c = z ∨ c = TI ∨ c = TO ∨ c = i1 ∨ c = i2 := by simpa using hc
    rcases hc' with rfl | rfl | rfl | rfl | rfl
    · exact ⟨_, hz, fun v e => by cases e⟩
    · exact ⟨_, hTI, fun v e => by cases e⟩
    · exact ⟨_, hTO, fun v e => by cases e⟩
    · exact ⟨_, e1, fun v e => by rw [d1] at e; cases e⟩
    · exact ⟨_, e2, fun v e => by rw [d2] at e; cases e⟩
  keep := fun i h h' st k => by
    obtain ⟨hz, hTI, ⟨p, q, hTO⟩, l1, l2⟩ := st
    exact ⟨k z (by simp) _ hz, k TI (by simp) _ hTI, ⟨p, q, k TO (by simp) _ hTO⟩, l1.at fun o e => k i1 (by simp) o e, l2.at fun o e => k i2 (by simp) o e⟩
  item := by
    intro X hP hw hK hc i pins s σ H E I hf st hg
    subst hP hw hK
    obtain ⟨xs, ys, x, y, hx, hy, ex, ey⟩ := hg
    obtain ⟨ia, ra, pa, za⟩ := I.list hx
    obtain ⟨ib, rb, pb, zb⟩ := I.list hy
    obtain ⟨u, hu, ru⟩ := ra.get ex
    obtain ⟨v, hv, rv⟩ := rb.get ey
    have A := zap D st pa.isList pb.isList
    have stl := st
    obtain ⟨hz, hTI, ⟨p, q, hTO⟩, l1, l2⟩ := st
    refine wpAny_pyNext_zip_item A hz hTI hTO l1 l2 pa.isList pb.isList (x := u) (y := v) (by simpa using hu) (by simpa using hv) fun h' a1 a2 a3 a4 a5 a6 a7 => ?_
    refine ⟨_, rfl, wpAny_letOwnedTupleGo_zip a1 fun h2 b1 b2 => ?_⟩
    have hT : H s.heap.objs.size = none := I.hok.fresh (Nat.le_refl _)
    have ltz : ∀ c o, s.heap.get? c = some o → s.heap.objs.size ≠ c := fun c o e => Nat.ne_of_gt (Heap.lt_size e)
    have hTI' := a7 _ _ D.a1 D.a5 D.a6 D.a7 hTI
    have Tz : s.heap.objs.size ≠ z := ltz _ _ hz
    have aT : h2.get? s.heap.objs.size = some { cls := .type "tuple", data := .seq #[u, v] } := b2.extBut _ _ Tz a5
    have k2 : ∀ c o, c ≠ z → c ≠ TO → c ≠ i1 → c ≠ i2 → s.heap.get? c = some o → h2.get? c = some o := fun c o n1 n2 n3 n4 e => b2.extBut _ _ n1 (a7 c o n1 n2 n3 n4 e)
    have I1 : Inv X pins σ (upd H s.heap.objs.size (.tup [x, y])) { s with heap := s.heap.push { cls := .type "tuple", data := .seq #[u, v] } } := by
      refine I.laid (t' := s.toks) (fun c o e => Heap.get?_push_of_some _ e) (Nat.le_refl _) ?_
      exact ⟨(by show 2 ≤ sizeLine; decide), [u, v], .cons ru (.cons rv .nil), IsTup.new s.heap _⟩
    have hf1 : ∀ c ∈ [z, TI, TO, i1, i2], FpOk X pins (upd H s.heap.objs.size (.tup [x, y])) c := fun c hc' => by
      obtain ⟨f0, f⟩ := hf c hc'
      refine ⟨?_, f⟩
      have : ∃ o, s.heap.get? c = some o := by
        have hc'' : c = z ∨ c = TI ∨ c = TO ∨ c = i1 ∨ c = i2 := by simpa using hc'
        obtain ⟨o1, e1, _⟩ := l1
        obtain ⟨o2, e2, _⟩ := l2
        rcases hc'' with rfl | rfl | rfl | rfl | rfl
        · exact ⟨_, hz⟩
        · exact ⟨_, hTI⟩
        · exact ⟨_, hTO⟩
        · exact ⟨_, e1⟩
        · exact ⟨_, e2⟩
      obtain ⟨o, e⟩ := this
      rw [upd_ne (ltz c o e).symm]
      exact f0
    have I2 : Inv X pins σ (upd H s.heap.objs.size (.tup [x, y])) { s with heap := h2 } := by
      refine Inv.turnedL (s := { s with heap := s.heap.push { cls := .type "tuple", data := .seq #[u, v] } }) (h' := h2) (t' := s.toks) (its := [z, TI, TO, i1, i2]) I1 (fun c o hc' e => ?_) hf1
      have hc'' : ¬ (c = z ∨ c = TI ∨ c = TO ∨ c = i1 ∨ c = i2) := by simpa using hc'
      by_cases hcs : c = s.heap.objs.size
      · subst hcs
        have e' : (s.heap.push { cls := .type "tuple", data := .seq #[u, v] }).get? s.heap.objs.size = some o := e
        rw [Heap.get?_push_size _ rfl] at e'
        cases e'
        exact aT
      · have hlt : c < (s.heap.push { cls := .type "tuple", data := .seq #[u, v] }).objs.size := Heap.lt_size e
        rw [Heap.size_push] at hlt
        refine k2 c o (fun z' => hc'' (.inl z')) (fun z' => hc'' (.inr (.inr (.inl z')))) (fun z' => hc'' (.inr (.inr (.inr (.inl z'))))) (fun z' => hc'' (.inr (.inr (.inr (.inr z'))))) ?_
        rw [← e]
        exact (Heap.get?_push_ne _ _ _ hcs).symm
    refine ⟨.ref s.heap.objs.size, _, I2, rfl, ⟨_, x, y, rfl, hT, rfl, fun ws hw => by rw [I.list_inj hw hx]; exact ex, fun ws hw => by rw [I.list_inj hw hy]; exact ey⟩, ?_, fun c hc' => (hf1 c hc').1⟩
    exact ⟨b1, b2.extBut _ _ D.a1 hTI', ⟨_, _, b2.extBut _ _ D.a2 a2⟩, a3.extBut b2.extBut D.a3, a4.extBut b2.extBut D.a4⟩
  done := by
    intro X hP hw hK hc i pins s σ H E I hf st hg
    subst hP hw hK
    obtain ⟨xs, ys, hx, hy, hl⟩ := hg
    obtain ⟨ia, ra, pa, za⟩ := I.list hx
    obtain ⟨ib, rb, pb, zb⟩ := I.list hy
    have A := zap D st pa.isList pb.isList
    have hla := ra.length
    have hlb := rb.length
    obtain ⟨hz, hTI, ⟨p, q, hTO⟩, l1, l2⟩ := st
    refine wpAny_pyNext_zip_end (I.ok.hd hc) A hz hTI hTO l1 l2 pa.isList pb.isList (by
      rcases hl with hl | hl
      · exact .inl (by simp; omega)
      · exact .inr (by simp; omega)) fun h' k => ⟨rfl, ?_⟩
    exact I.turnedL (t' := s.toks) (its := [z, TI, TO, i1, i2]) (fun c o hc' e => by
      have hc'' : ¬ (c = z ∨ c = TI ∨ c = TO ∨ c = i1 ∨ c = i2) := by simpa using hc'
      exact k c o (fun z' => hc'' (.inl z')) (fun z' => hc'' (.inr (.inr (.inl z')))) (fun z' => hc'' (.inr (.inr (.inr (.inl z'))))) (fun z' => hc'' (.inr (.inr (.inr (.inr z'))))) e) hf
  self := fun _ _ _ _ _ st h => wpAny_pyIter_zip st.1 h
section
variable {X : Cx}
def iZip (K : PySem.W.Frag) (ta : TA) : TI := fun σ H R => ta σ H fun vs H1 => ∃ a b, vs = [.ref a, .ref b] ∧ (∃ xs, SqL K H1 a xs) ∧ (∃ ys, SqL K H1 b ys) ∧ R (Itz K a b) H1
theorem boot_zip : bootBuiltins "zip" = some (.type "zip") := by decide +kernel
theorem pi_zip {elts : List Expr} {ek : Nat} {epos : Pos} {a b : Expr} {ta : TA} {p pos : Pos} (hg : Gl X "zip") (hm : X.mg "zip" = none) (ha : PA X [a, b] ta) (hs : starEach [a, b] X.env = [(false, eval a X.env), (false, eval b X.env)] := by rfl) (hs2 : starEach [b] X.env = [(false, eval b X.env)] := by rfl) :
    PI X (.Tuple elts ek epos) (.Call (.Name "zip" p) [a, b] [] pos) (iZip X.K ta) := by
  intro pins s σ H R I h
  refine Call_ (ld_blt I hg hm boot_zip (PyProof.Rows.callWith_type1 (thn (ha pos pins s σ H _ I h) fun us s1 ⟨vs, H1, I1, r1, q1⟩ => ?_) (by rw [hs, hs2]) (by rw [hs2]; rfl)))
  obtain ⟨l1, l2, e, ⟨xs, hx⟩, ⟨ys, hy⟩, q⟩ := q1
  subst e
  obtain ⟨u, v, rfl, ru, rv⟩ := vals2 r1
  cases ru
  cases rv
  obtain ⟨ia, ra, pa, za⟩ := I1.list hx
  obtain ⟨ib, rb, pb, zb⟩ := I1.list hy
  refine call_zip_2 pa.isList pb.isList fun h' hz hTI hTO hi1 hi2 hsz hk => wpAny_pyIter_zip hz ?_
  have fr : ∀ b, s1.heap.objs.size ≤ b → FpOk X pins H1 b := fun b hb => I1.fpOk hb (I1.hok.fresh hb)
  refine ⟨_, [s1.heap.objs.size + 4, s1.heap.objs.size + 2, s1.heap.objs.size + 3, s1.heap.objs.size, s1.heap.objs.size + 1], _, _, H1, rfl, I1.kept (t' := s1.toks) hk,
    turn_zip (TI := s1.heap.objs.size + 2) (TO := s1.heap.objs.size + 3) (i1 := s1.heap.objs.size) (i2 := s1.heap.objs.size + 1) (a := l1) (b := l2) ?_, ⟨hz, hTI, ⟨_, _, hTO⟩, hi1, hi2⟩, fun b hb => ?_, q⟩
  · generalize s1.heap.objs.size = n
    have ne : ∀ {x y : Nat}, x ≠ y → (n + x : Nat) ≠ n + y := fun h e => h (Nat.add_left_cancel e)
    exact ⟨ne (by decide), ne (by decide), ne (x := 0) (by decide), ne (by decide), ne (by decide), ne (y := 0) (by decide), ne (by decide), ne (y := 0) (by decide), ne (by decide), ne (x := 0) (by decide)⟩
  · have hb' : b = s1.heap.objs.size + 4 ∨ b = s1.heap.objs.size + 2 ∨ b = s1.heap.objs.size + 3 ∨ b = s1.heap.objs.size ∨ b = s1.heap.objs.size + 1 := by simpa using hb
    rcases hb' with rfl | rfl | rfl | rfl | rfl
    · exact fr _ (Nat.le_add_right _ _)
    · exact fr _ (Nat.le_add_right _ _)
    · exact fr _ (Nat.le_add_right _ _)
    · exact fr _ (Nat.le_refl _)
    · exact fr _ (Nat.le_add_right _ _)
/-! ### a table of the module: texts to ints -/
def tabD (D : List (Str × Int)) : List (Str × PyProof.Rows.KTD.Dat) := D.map fun p => (p.1, .flat (.int p.2))
structure TabK (K : PySem.W.Frag) (a : Addr) (D : List (Str × Int)) : Prop where
  lk : PyProof.Rows.KTD.tabLook (PyProof.Rows.KTD.datLooks fun b => K.lookup b) (fun b => K.lookup b) a (tabD D) = true
def rIxTab (a : Addr) (D : List (Str × Int)) : R2 := fun x y H Q => ∃ k i, x = .ref a ∧ y = .str k ∧ PyProof.Rows.KTD.datumAt k D = some i ∧ Q (.int i) H
theorem inKeys_tab {k : Str} {i : Int} : ∀ {D : List (Str × Int)}, PyProof.Rows.KTD.datumAt k D = some i → PyProof.Rows.KTD.inKeys k (tabD D) = true
  | [], h => by cases h
  | (x, d) :: D, h => by
    have h' : (if decide (k = x) = true then some d else PyProof.Rows.KTD.datumAt k D) = some i := h
    show (decide (k = x) || PyProof.Rows.KTD.inKeys k (tabD D)) = true
    by_cases e : k = x
    · rw [decide_eq_true e]; rfl
    · rw [decide_eq_false e] at h' ⊢
      exact inKeys_tab (by simpa using h')
theorem eachL_tab {h : Heap} {k : Str} {i : Int} {P : Value → Prop} (hp : ∀ t, P (.int i t)) : ∀ {D : List (Str × Int)}, PyProof.Rows.KTD.datumAt k D = some i → PyProof.Rows.KTD.EachL h k P (tabD D)
  | [], h => by cases h
  | [(x, d)], h => by
    have h' : (if decide (k = x) = true then some d else none) = some i := h
    refine PyProof.Rows.KTD.eachL_last fun e => ?_
    rw [if_pos (decide_eq_true e)] at h'
    cases h'
    exact PyProof.Rows.KTD.opened_int hp
  | (x, d) :: p :: D, h => by
    have h' : (if decide (k = x) = true then some d else PyProof.Rows.KTD.datumAt k (p :: D)) = some i := h
    refine PyProof.Rows.KTD.eachL_ite ?_
    by_cases e : k = x
    · rw [if_pos (decide_eq_true e)] at h' ⊢
      cases h'
      exact PyProof.Rows.KTD.opened_int hp
    · rw [if_neg (by simpa using e)] at h' ⊢
      exact eachL_tab hp h'
theorem plain_tab : ∀ D : List (Str × Int), ((tabD D).all fun p => PyProof.Rows.KTD.plain p.2) = true
  | [] => rfl
  | (x, d) :: D => plain_tab D
theorem ix_tab {a : Addr} {D : List (Str × Int)} (T : TabK X.K a D) : IxR X (rIxTab a D) := by
  intro value slice pins s σ H x y v u Q I rx ry h hs
  obtain ⟨k, i, rfl, rfl, hk, q⟩ := h
  cases rx
  obtain ⟨t, rfl⟩ := ry
  have TT : PyProof.Rows.KTD.TextTab X.base a (tabD D) := PyProof.Rows.KTD.text_of_look (fun b o e => I.mod.kin b o e) T.lk
  exact PyProof.Rows.KTD.item_textA ⟨TT, I.bk⟩ (plain_tab D) (inKeys_tab hk) (eachL_tab (fun t' => ⟨.int i, H, I.tok _, ⟨_, rfl⟩, q⟩) hk) hs
end
end L2

/-! LIST COMPREHENSIONS by one or two names (none of them a cell), with a test or without -/
namespace L2
open PySem PySem.Spec PyProof.Rows
def blkNs (N xs : List Str) : List Str := N.map (fun y => if y ∈ xs then Str.empty else y) ++ xs
structure LcScopes (S : Scope) (N : List Str) (sc : Scope) (xs : List Str) : Prop where
  uniq : (sc.names.map (·.1)).Nodup
  kind : sc.kind = .function
  names : ∀ y ∈ sc.names, y.2 = .local → sc.names.lookup y.1 = some .local
  loc : ∀ x ∈ xs, sc.names.lookup x = some .local
  free : ∀ y ∈ sc.names, y.2 = .free → S.names.lookup y.1 = some .cell ∨ S.names.lookup y.1 = some .free
  only : ∀ y ∈ sc.names, y.2 = .local → y.1 ∈ xs ∨ y.1 = ".0"
  noC : ∀ y ∈ sc.names, y.2 ≠ .cell
  ne : ∀ y ∈ sc.names, y.1 ≠ Str.empty
  dot : ∀ y ∈ N, y ≠ ".0"
  nd : (blkNs N xs).Nodup
def Cx.blks (X : Cx) (N' : List Str) (sc : Scope) (s₀ : Shared) (H₀ : Hp) (fp : List Addr) : Cx :=
  { X with N := N', s₀ := s₀, H₀ := H₀, env := compEnvC sc (clOf X.env.cells sc.names []) s₀.heap.objs.size X.env, outer := X.stack, stack := X.stack, ex := fp, fn := fun _ => false, pn := [], xe := fun _ _ => False }
section
variable {X : Cx} {pins : List (Addr × Obj)} {σ : St} {H : Hp} {s : Shared} {sc : Scope} {xs : List Str} {fp : List Addr}
theorem blkNs_len (N xs : List Str) : (blkNs N xs).length = N.length + xs.length := by simp [blkNs]
theorem blkNs_at {N xs : List Str} {i : Nat} {y : Str} (h : (blkNs N xs)[i]? = some y) (hi : i < N.length) : ∃ y0, N[i]? = some y0 ∧ ((y0 ∈ xs ∧ y = Str.empty) ∨ (y0 ∉ xs ∧ y = y0)) := by
  unfold blkNs at h
  rw [List.getElem?_append_left (by simpa using hi), List.getElem?_map] at h
  cases q : N[i]? with
  | none => rw [q] at h; cases h
  | some y0 =>
    rw [q] at h
    refine ⟨y0, rfl, ?_⟩
    have h' : (if y0 ∈ xs then Str.empty else y0) = y := Option.some.inj h
    by_cases e : y0 ∈ xs
    · rw [if_pos e] at h'; exact .inl ⟨e, h'.symm⟩
    · rw [if_neg e] at h'; exact .inr ⟨e, h'.symm⟩
theorem Inv.has_cells (I : Inv X pins σ H s) {S : Scope} (L : LcScopes S X.N sc xs) (hS : X.env.scope = S) : ∀ y ∈ sc.names, y.2 = .free → (X.env.cells.lookup y.1).isSome = true := fun y hy hf => by
  have k : X.env.kindOf y.1 = some .cell ∨ X.env.kindOf y.1 = some .free := by
    show X.env.scope.names.lookup y.1 = _ ∨ X.env.scope.names.lookup y.1 = _
    rw [hS]
    exact L.free y hy hf
  obtain ⟨c, e⟩ := I.ok.has y.1 k
  rw [e]; rfl
theorem Inv.blks (I : Inv X pins σ H s) {S : Scope} (L : LcScopes S X.N sc xs) (hS : X.env.scope = S) (hf : ∀ b ∈ fp, FpOk X pins H b) (hb : ∀ b ∈ fp, b < s.heap.objs.size) {h1 : Heap} {tk : Nat} {m : Str → Option Value} (hn : h1.Ns s.heap.objs.size m)
    (hk : ∀ b o, s.heap.get? b = some o → h1.get? b = some o) : Inv (X.blks (blkNs X.N xs) sc s H fp) [] (σ ++ xs.map fun _ => none) H { s with heap := h1, toks := tk } := by
  have sub : ∀ y c, (clOf X.env.cells sc.names []).lookup y = some c → X.env.cells.lookup y = some c := clOf_sub sc.names [] fun _ _ z => by cases z
  have hasC : ∀ y, (y, NameKind.free) ∈ sc.names → ∃ c, (clOf X.env.cells sc.names []).lookup y = some c := fun y hy =>
    Option.isSome_iff_exists.mp (clOf_has (I.has_cells L hS (y, .free) hy rfl) sc.names [] hy)
  have kinds : ∀ y k, (relabel sc X.env).names.lookup y = some k → (k = .cell ∨ k = .free) → (y, NameKind.free) ∈ sc.names := fun y k e hk => by
    obtain ⟨k0, hm, q⟩ := relab_lookup e
    rcases q with rfl | ⟨_, rfl⟩
    · rcases hk with rfl | rfl
      · exact absurd rfl (L.noC _ hm)
      · exact hm
    · exact hm
  have stk := I.stkSub
  refine ⟨⟨I.ok.mod, L.kind, I.ok.glob, I.ok.blt, Nat.le_refl _, fun y z c e1 e2 => ?_, fun y hy => ?_, fun y c z e => ?_, I.ok.hd, I.ok.frames, .inl rfl, fun b hb' => ?_, I.bs, Nat.le_trans I.ok.bsz I.sz, fun b o e hb' => ?_, fun b hb' z => ?_, I.stack, I.stkFree⟩,
    rfl, I.bare, Un.kept hk, ⟨m, hn, fun i y v e1 e2 e3 => ?_⟩, fun y c e => ?_, I.hok.fresh (Nat.le_refl _), fun y c e => ?_, fun p hp => absurd (show p ∈ ([] : List (Addr × Obj)) from hp) (by simp), I.hok.kept hk, ?_⟩
  · exact I.ok.inj y z c (sub y c e1) (sub z c e2)
  · have hy' : (relabel sc X.env).names.lookup y = some .cell ∨ (relabel sc X.env).names.lookup y = some .free := hy
    rcases hy' with e | e
    · exact hasC y (kinds y _ e (.inl rfl))
    · exact hasC y (kinds y _ e (.inr rfl))
  · exact absurd (show false = true from z) (by decide)
  · obtain ⟨f0, f1, f2, f3, f4, f5⟩ := hf b hb'
    exact ⟨Nat.ne_of_lt (hb b hb'), fun y c e z => f4 y c (sub y c e) z⟩
  · obtain ⟨f0, f1, f2, f3, f4, f5⟩ := hf b hb'
    rcases f3 with z | z
    · exact I.ok.noex b o e z
    · exact absurd (Nat.lt_of_lt_of_le (Heap.lt_size (I.ok.bs b o e).1) z) (Nat.lt_irrefl _)
  · obtain ⟨f0, f1, f2, f3, f4, f5⟩ := hf b hb'
    rcases List.mem_cons.mp (stk b z) with q | q
    · exact f1 q
    · exact f2 q
  · have hl : σ.length = X.N.length := I.len
    have hi : i < X.N.length := by
      by_cases hi : i < σ.length
      · omega
      · rw [List.getElem?_append_right (by omega), List.getElem?_map] at e2
        cases q : xs[i - σ.length]? with
        | none => rw [q] at e2; cases e2
        | some n => rw [q] at e2; cases e2
    rw [List.getElem?_append_left (by omega)] at e2
    obtain ⟨y0, g1, g2⟩ := blkNs_at e1 hi
    have vis : ∃ k, (relabel sc X.env).names.lookup y = some k ∧ (k = .local ∨ k = .cell ∨ k = .free) := by
      rcases e3 with q | q | q
      · exact ⟨_, q, .inl rfl⟩
      · exact ⟨_, q, .inr (.inl rfl)⟩
      · exact ⟨_, q, .inr (.inr rfl)⟩
    obtain ⟨k, q, hk'⟩ := vis
    obtain ⟨k0, hm, q0⟩ := relab_lookup q
    rcases g2 with ⟨_, rfl⟩ | ⟨g2, rfl⟩
    · exact absurd rfl (L.ne _ hm)
    · have hkc : k = .cell ∨ k = .free := by
        rcases hk' with rfl | z
        · exfalso
          rcases q0 with rfl | ⟨z, _⟩
          · rcases L.only _ hm rfl with z | z
            · exact g2 z
            · exact L.dot y (List.mem_of_getElem? g1) z
          · cases z
        · exact z
      have hfr : (y, NameKind.free) ∈ sc.names := kinds y k q hkc
      have visX : X.env.scope.names.lookup y = some .cell ∨ X.env.scope.names.lookup y = some .free := by rw [hS]; exact L.free _ hfr rfl
      obtain ⟨m0, _, hl0⟩ := I.loc
      obtain ⟨u, r, lk⟩ := hl0 i y v g1 e2 (.inr visX)
      refine ⟨u, r, ?_⟩
      rcases lk with ⟨z, _⟩ | ⟨_, c, ec, hc⟩
      · exfalso
        have z' : X.env.scope.names.lookup y = some .local := z
        rcases visX with w' | w' <;> rw [z'] at w' <;> cases w'
      · obtain ⟨c', ec'⟩ := hasC y hfr
        have : c' = c := Option.some.inj ((sub y c' ec').symm.trans ec)
        subst this
        refine .inr ⟨?_, c', ec', ?_⟩
        · rcases hkc with rfl | rfl
          · exact .inl q
          · exact .inr q
        · obtain ⟨o, ho, hd⟩ := hc
          exact ⟨o, hk _ _ ho, hd⟩
  · obtain ⟨v, o, ho, hd⟩ := I.cell y c (sub y c e)
    exact ⟨v, o, hk _ _ ho, hd⟩
  · exact I.freeC y c (sub y c e)
  · rw [List.length_append, List.length_map, I.len]
    exact (blkNs_len X.N xs).symm
/-- the tests of a clause -/
def PTs (X : Cx) (ifs : List Expr) (t : TT) : Prop :=
  ∀ (pins : List (Addr × Obj)) (s : Shared) (σ : St) (H : Hp) (Q : Bool → Hp → Prop), Inv X pins σ H s → t σ H Q →
    wpAny (model X.prog X.w) X.A (forIn ifs true fun c r => if r = true then do let ok ← isTrue c X.env (eval c X.env); pure (ForInStep.yield ok) else pure (ForInStep.yield r)) (TP X pins σ Q) X.xe s
def tYes : TT := fun _ H Q => Q true H
theorem pts_nil : PTs X [] tYes := fun _ _ _ H _ I h => wpAny_tests_nil ⟨H, I, h⟩
theorem compLoopT {prog : Program} {w : World} {A : Around} {R : Result → Shared → Prop} {elt target iter : Expr} {ifs : List Expr} {scope : Scope} {pos : Pos} {it acc : Value} {env : Env} (I : Nat → Shared → Prop)
    (turn : ∀ n s, I n s → wpAny (model prog w) A (pyNext it) (fun r s₁ => match r with
      | none => R (.ok .next) s₁
      | some v => wpAny (model prog w) A (letOwnedTupleGo target it v) (fun _ s₁' => wpAny (model prog w) A (assign target env v) (fun _ s₂ =>
          wpAny (model prog w) A (forIn ifs true fun c r => if r = true then do let ok ← isTrue c env (eval c env); pure (ForInStep.yield ok) else pure (ForInStep.yield r)) (fun ok s₃ =>
            if ok = true then wpAny (model prog w) A (eval elt env) (fun x s₄ =>
              wpAny (model prog w) A (call (.builtin "list.append") [acc, x]) (fun _ s₅ => ∃ m, m < n ∧ I m s₅) (fun _ _ => False) s₄) (fun _ _ => False) s₃
            else ∃ m, m < n ∧ I m s₃) (fun _ _ => False) s₂) (fun _ _ => False) s₁') (fun _ _ => False) s₁) (fun _ _ => False) s)
    (n : Nat) (h : I n s) : codeAny (model prog w) A (.compLoop (.ListComp elt [⟨target, iter, ifs, 0⟩] scope pos) 0 it acc env) R s := by
  refine codeAny_loop rfl I (fun n s hI => ?_) n h
  show wpAny _ A ((compTurn (.ListComp elt [⟨target, iter, ifs, 0⟩] scope pos) 0 it acc env).onRaise (fun x => do noteFrame x env; theTreesLotGoes x)) _ _ s
  refine wpAny_noted ?_
  rw [compTurn_list]
  refine wpAny_bind (wpAny_standAt (wpAny_bind (wpAny_mono (turn n s hI) (fun r s₁ h₁ => ?_) fun _ _ z => z.elim)))
  cases r with
  | none => exact wpAny_pure h₁
  | some v =>
    refine wpAny_bind (wpAny_mono h₁ (fun _ s₁' h₁' => ?_) fun _ _ z => z.elim)
    refine wpAny_bind (wpAny_mono h₁' (fun _ s₂ h₂ => wpAny_bind (wpAny_mono h₂ (fun ok s₃ h₃ => ?_) fun _ _ z => z.elim)) fun _ _ z => z.elim)
    cases ok with
    | false => exact wpAny_pure ⟨rfl, h₃⟩
    | true =>
      exact wpAny_bind (wpAny_bind (wpAny_mono h₃ (fun x s₄ h₄ => wpAny_bind (wpAny_mono h₄ (fun _ s₅ h₅ => wpAny_pure (wpAny_pure ⟨rfl, h₅⟩)) fun _ _ z => z.elim)) fun _ _ z => z.elim))
/-- the reading: W turn measure items heap -/
def LcW (n : Nat) (J : It) (g : TG) (tt : TT) (te : TE) (σ : St) (H1 : Hp) (Q : VK) : Prop := ∀ D, H1 D = none → ∃ W : Nat → Nat → List V → Hp → Prop, (∃ m, W 0 m [] (upd H1 D (.lst []))) ∧
  ∀ i m ys H', W i m ys H' → H' D = some (.lst ys) ∧ ((J.stop i H' ∧ Q (.ref D) H') ∨ (J.go i H' ∧ ∀ z H2, J.yld i H' z H2 → ∀ os : St, os.length = n → g z (σ ++ os) H2 fun σ' H3 => (∃ os' : St, σ' = σ ++ os' ∧ os'.length = n) ∧ tt σ' H3 fun ok H4 =>
    if ok = true then te σ' H4 fun v H5 => H5 D = some (.lst ys) ∧ ys.length < sizeLine ∧ ∃ m', m' < m ∧ W (i + 1) m' (ys ++ [v]) (upd H5 D (.lst (ys ++ [v]))) else ∃ m', m' < m ∧ W (i + 1) m' ys H4))
def tLcs (n : Nat) (ti : TI) (g : TG) (tt : TT) (te : TE) : TE := fun σ H Q => ti σ H fun J H1 => LcW n J g tt te σ H1 Q
theorem lcs_core {elt iter target : Expr} {ifs : List Expr} {pos : Pos} {g : TG} {tt : TT} {te : TE} {S : Scope} {use : Option (Value → Sem Unit)} {QQ : Value → Shared → Prop} {Q : VK} {it : Addr} {tn : Nat → Heap → Prop} {J : It} (hc : X.calm = true) (L : LcScopes S X.N sc xs) (hS : X.env.scope = S)
    (hg : ∀ (s₀ : Shared) (H₀ : Hp) (fp : List Addr), PG (X.blks (blkNs X.N xs) sc s₀ H₀ fp) target g) (ht : ∀ (s₀ : Shared) (H₀ : Hp) (fp : List Addr), PTs (X.blks (blkNs X.N xs) sc s₀ H₀ fp) ifs tt)
    (he : ∀ (s₀ : Shared) (H₀ : Hp) (fp : List Addr), PE (X.blks (blkNs X.N xs) sc s₀ H₀ fp) elt te)
    (I : Inv X pins σ H s) (T : Turn X.prog X.w X.K target J fp it tn) (st : tn 0 s.heap) (hf : ∀ b ∈ fp, FpOk X pins H b) (h : LcW xs.length J g tt te σ H Q)
    (fin : ∀ (D C : Addr) (H' : Hp) (s' : Shared) (m : Str → Option Value), Inv X pins σ H' s' → Q (.ref D) H' → s'.heap.Ns C m → H' C = none → s.heap.objs.size ≤ C → (∀ p ∈ X.pn ++ pins, p.1 ≠ C) → C ≠ X.env.locals → (∀ y c, X.env.cells.lookup y = some c → c ≠ C) → compPost (model X.prog X.w) X.A X.xe use QQ (.ref D) C (.ok .next) s') :
    wpAny (model X.prog X.w) X.A (newList []) (fun acc s₃ => wpAny (model X.prog X.w) X.A (newFunctionEnv sc X.env.globals (clOf X.env.cells sc.names []) [] X.env.qual none .none (some X.env)) (fun cenv s₄ =>
      codeAny (model X.prog X.w) X.A (.compStart (.ListComp elt [⟨target, iter, ifs, 0⟩] sc pos) 0 (.ref it) acc { cenv with scope := relabel sc X.env }) (compPost (model X.prog X.w) X.A X.xe use QQ acc cenv.locals) s₄) X.xe s₃) X.xe s := by
  refine wpAny_newObj_type ?_
  have hD : H s.heap.objs.size = none := I.hok.fresh (Nat.le_refl _)
  obtain ⟨W, ⟨m0, w0⟩, turn⟩ := h s.heap.objs.size hD
  have I2 : Inv X pins σ (upd H s.heap.objs.size (.lst [])) { s with heap := s.heap.push { cls := .type "list", data := .seq ([] : List Value).toArray } } := I.lnew (t' := s.toks) .nil (Nat.zero_le _)
  have lt0 : ∀ b ∈ fp, b < s.heap.objs.size := fun b hb => by
    obtain ⟨o, e, _⟩ := T.obj 0 s.heap st b hb
    exact Heap.lt_size e
  have hf2 : ∀ b ∈ fp, FpOk X pins (upd H s.heap.objs.size (.lst [])) b := fun b hb => by
    obtain ⟨f0, f⟩ := hf b hb
    exact ⟨by rw [upd_ne (Nat.ne_of_lt (lt0 b hb))]; exact f0, f⟩
  have st2 : tn 0 (s.heap.push { cls := .type "list", data := .seq ([] : List Value).toArray }) := T.keep 0 _ _ st fun b _ o e => Heap.get?_push_of_some _ e
  generalize hs2 : ({ s with heap := s.heap.push { cls := .type "list", data := .seq ([] : List Value).toArray } } : Shared) = s2 at I2
  have eh : s2.heap = s.heap.push { cls := .type "list", data := .seq ([] : List Value).toArray } := by rw [← hs2]
  have lt2 : ∀ b ∈ fp, b < s2.heap.objs.size := fun b hb => by rw [eh, Heap.size_push]; exact Nat.lt_succ_of_lt (lt0 b hb)
  rw [← eh] at st2
  have le2 : s.heap.objs.size ≤ s2.heap.objs.size := by rw [eh, Heap.size_push]; exact Nat.le_succ _
  show wpAny _ _ _ _ _ s2
  refine newEnv_lc ?_
  rw [cellsFrom_none L.noC, pushCells_none L.noC]
  have hns₁ : (s2.heap.push { cls := .type "dict", data := .dict #[] }).Ns s2.heap.objs.size _ := Heap.Ns.new s2.heap (.type "dict")
  have keep : ∀ b o, s2.heap.get? b = some o → (s2.heap.push { cls := .type "dict", data := .dict #[] }).get? b = some o := fun b o e => Heap.get?_push_of_some _ e
  generalize s2.heap.push { cls := .type "dict", data := .dict #[] } = h₁ at hns₁ keep ⊢
  have J0 : Inv (X.blks (blkNs X.N xs) sc s2 (upd H s.heap.objs.size (.lst [])) fp) [] (σ ++ xs.map fun _ => none) (upd H s.heap.objs.size (.lst [])) { s2 with heap := h₁ } := I2.blks (tk := s2.toks) L hS hf2 lt2 hns₁ keep
  have st3 : tn 0 h₁ := T.keep 0 _ _ st2 fun b _ o e => keep b o e
  have stat : ∀ {H' : Hp}, (∀ b ∈ fp, H' b = none) → ∀ b ∈ fp, FpOk (X.blks (blkNs X.N xs) sc s2 (upd H s.heap.objs.size (.lst [])) fp) [] H' b := fun {H'} hn b hb => by
    have o1 := J0.ok.exf b hb
    exact ⟨hn b hb, o1.1, J0.ok.exfs b hb, .inl hb, o1.2, fun p hp => absurd (show p ∈ ([] : List (Addr × Obj)) from hp) (by simp)⟩
  have loop : codeAny (model X.prog X.w) X.A (.compLoop (.ListComp elt [⟨target, iter, ifs, 0⟩] sc pos) 0 (.ref it) (.ref s.heap.objs.size) (compEnvC sc (clOf X.env.cells sc.names []) s2.heap.objs.size X.env))
      (compPost (model X.prog X.w) X.A X.xe use QQ (.ref s.heap.objs.size) s2.heap.objs.size) { s2 with heap := h₁ } := by
    refine compLoopT (fun n s' => ∃ i ys H' os, os.length = xs.length ∧ Inv (X.blks (blkNs X.N xs) sc s2 (upd H s.heap.objs.size (.lst [])) fp) [] (σ ++ os) H' s' ∧ tn i s'.heap ∧ (∀ b ∈ fp, H' b = none) ∧ W i n ys H') ?_ m0 ⟨0, [], _, xs.map fun _ => none, by simp, J0, st3, fun b hb => (hf2 b hb).1, w0⟩
    rintro n s4 ⟨i, ys, H4, os, los, J4, st4, fr4, w4⟩
    obtain ⟨hD4, tt'⟩ := turn i n ys H4 w4
    rcases tt' with ⟨stop, q⟩ | ⟨go, step⟩
    · refine thn (T.done (X.blks (blkNs X.N xs) sc s2 (upd H s.heap.objs.size (.lst [])) fp) rfl rfl rfl hc i [] s4 _ H4 _ J4 (stat fr4) st4 stop) fun r s5 ⟨hr, J5⟩ => ?_
      subst hr
      have I5 : Inv X pins σ H4 s5 := I2.call' J5.os J5.base J5.hok J5.bare fun b hb => by
        obtain ⟨f0, f1, f2, f3, f4, f5⟩ := hf2 b hb
        exact ⟨f3, f1, f4, f5⟩
      obtain ⟨m5, n5, _⟩ := J5.loc
      exact fin _ _ H4 s5 m5 I5 q n5 J5.free le2 (fun p hp z => by
          have := Heap.lt_size (I2.pin p hp).1
          rw [z] at this
          exact Nat.lt_irrefl _ this) (Nat.ne_of_gt I2.lt) (fun y c e z => by
          obtain ⟨v, o, ho, _⟩ := I2.cell y c e
          have := Heap.lt_size ho
          rw [z] at this
          exact Nat.lt_irrefl _ this)
    · refine thn (T.item (X.blks (blkNs X.N xs) sc s2 (upd H s.heap.objs.size (.lst [])) fp) rfl rfl rfl hc i [] s4 _ H4 _ J4 (stat fr4) st4 go) fun r s5 ⟨u, hr, h5⟩ => ?_
      subst hr
      refine thn h5 fun _ s6 ⟨z, H6, J6, r6, y6, st6, fr6⟩ => ?_
      have J6' := J6.pinned (stat fr6) (T.obj _ _ st6)
      refine thn (hg s2 (upd H s.heap.objs.size (.lst [])) fp _ s6 _ H6 z u _ J6' r6 (step z H6 y6 os los)) fun _ s7 ⟨σ7, H7, J7, ⟨os', e7, l7⟩, t7⟩ => ?_
      subst e7
      refine thn (ht s2 (upd H s.heap.objs.size (.lst [])) fp _ s7 _ H7 _ J7 t7) fun ok s8 ⟨H8, J8, t8⟩ => ?_
      cases ok with
      | false =>
        rw [if_neg Bool.false_ne_true] at t8 ⊢
        obtain ⟨m', hm, w8⟩ := t8
        refine ⟨m', hm, i + 1, ys, _, os', l7, J8.unpinned, T.keep _ _ _ st6 fun b hb o e => (J8.pin (b, o) (List.mem_append_right _ (List.mem_append_right _ (mem_pinsAt hb e)))).1, fun b hb => ?_, w8⟩
        obtain ⟨o', e', _⟩ := T.obj _ _ st6 b hb
        exact (J8.pin (b, o') (List.mem_append_right _ (List.mem_append_right _ (mem_pinsAt hb e')))).2.1
      | true =>
        rw [if_pos rfl] at t8 ⊢
        refine thn (he s2 (upd H s.heap.objs.size (.lst [])) fp _ s8 _ H8 _ J8 t8) fun vv s9 ⟨v, H9, J9, r9, hD9, hz9, m', hm, w9⟩ => ?_
        refine thn (mt_append (X := X.blks (blkNs X.N xs) sc s2 (upd H s.heap.objs.size (.lst [])) fp) _ s9 _ H9 (.ref s.heap.objs.size) [v] (.ref s.heap.objs.size) [vv] (fun _ H' => H' = upd H9 s.heap.objs.size (.lst (ys ++ [v]))) J9 rfl (.cons r9 .nil) ⟨_, ys, v, rfl, rfl, hD9, hz9, rfl⟩) fun _ s10 ⟨_, H10, J10, _, e10⟩ => ?_
        subst e10
        refine ⟨m', hm, i + 1, ys ++ [v], _, os', l7, J10.unpinned, T.keep _ _ _ st6 fun b hb o e => (J10.pin (b, o) (List.mem_append_right _ (List.mem_append_right _ (mem_pinsAt hb e)))).1, fun b hb => ?_, w9⟩
        obtain ⟨o', e', _⟩ := T.obj _ _ st6 b hb
        exact (J10.pin (b, o') (List.mem_append_right _ (List.mem_append_right _ (mem_pinsAt hb e')))).2.1
  refine codeAny_compStart_list loop (T.self _ 0 _ _ _ st3 loop)
theorem pe_lcs {elt iter target : Expr} {ifs : List Expr} {pos : Pos} {ti : TI} {g : TG} {tt : TT} {te : TE} {S : Scope} (hc : X.calm = true) (L : LcScopes S X.N sc xs) (hS : X.env.scope = S) (hi : PI X target iter ti)
    (hg : ∀ (s₀ : Shared) (H₀ : Hp) (fp : List Addr), PG (X.blks (blkNs X.N xs) sc s₀ H₀ fp) target g) (ht : ∀ (s₀ : Shared) (H₀ : Hp) (fp : List Addr), PTs (X.blks (blkNs X.N xs) sc s₀ H₀ fp) ifs tt)
    (he : ∀ (s₀ : Shared) (H₀ : Hp) (fp : List Addr), PE (X.blks (blkNs X.N xs) sc s₀ H₀ fp) elt te) (hs : ∀ x, foldedSetIterable iter X.env x = pure x := by intro _; rfl) :
    PE X (.ListComp elt [⟨target, iter, ifs, 0⟩] sc pos) (tLcs xs.length ti g tt te) := by
  intro pins s σ H Q I h
  rw [eval_ListComp]
  refine wpAny_comprehension_free (use := none) rfl hs (closure_of (I.has_cells L hS)) L.kind L.names (thn (hi pins s σ H _ I h) fun xv s₁ h₁ => thn h₁ fun itv s₂ h₂ => ?_)
  obtain ⟨it, fp, tn, J, H2, rfl, I2, T, st2, f2, q2⟩ := h₂
  refine lcs_core hc L hS hg ht he I2 T st2 f2 q2 ?_
  intro D C H' s' m I' q hn hC hle hp hL hcl
  refine ⟨m, hn, fun h' hs' => ?_⟩
  have I3 : Inv X pins σ H' { s' with heap := h' } := I'.turned (t' := s'.toks) (fun b o hb e => (hs'.2 b hb).trans e) hC hL (.inr (Nat.le_trans I2.sz hle)) hcl hp
  exact ⟨.ref D, H', I3, rfl, q⟩
/-- y = [..] where the store comes ahead of the block's end -/
theorem ps_setLcs {elt iter target : Expr} {ifs : List Expr} {i : Nat} {y : Str} {py pos spos : Pos} {ti : TI} {g : TG} {tt : TT} {te : TE} {S : Scope} (hN : X.N.Nodup) (hi : X.N[i]? = some y) (hy : Loc X.env.scope y) (hc : X.calm = true) (L : LcScopes S X.N sc xs) (hS : X.env.scope = S) (hit : PI X target iter ti)
    (hg : ∀ (s₀ : Shared) (H₀ : Hp) (fp : List Addr), PG (X.blks (blkNs X.N xs) sc s₀ H₀ fp) target g) (ht : ∀ (s₀ : Shared) (H₀ : Hp) (fp : List Addr), PTs (X.blks (blkNs X.N xs) sc s₀ H₀ fp) ifs tt)
    (he : ∀ (s₀ : Shared) (H₀ : Hp) (fp : List Addr), PE (X.blks (blkNs X.N xs) sc s₀ H₀ fp) elt te)
    (hsw : swapsWith (.ListComp elt [⟨target, iter, ifs, 0⟩] sc pos) (some (.Name y py)) spos.line X.env = pure true := by rfl) (hs : ∀ x, foldedSetIterable iter X.env x = pure x := by intro _; rfl)
    (hf : X.fn y = true ∨ X.env.scope.names.lookup y = some .local := by first | exact .inl rfl | exact .inr rfl | assumption) :
    PS X (.Assign [.Name y py] (.ListComp elt [⟨target, iter, ifs, 0⟩] sc pos) spos) (tAsg (tLcs xs.length ti g tt te) (gName i)) := by
  intro pins s σ H D I h
  rw [exec_Assign_Name_used _ _ _ _ hsw]
  refine wpAny_bind (wpAny_standAt (wpAny_bind ?_))
  show wpAny _ _ (do let _ ← comprehension (.ListComp elt [⟨target, iter, ifs, 0⟩] sc pos) sc X.env _ (newList []) false (eval iter X.env) (some (assign (.Name y py) X.env))) _ _ s
  refine wpAny_bind (wpAny_mono (wpAny_comprehension_free (use := some (assign (.Name y py) X.env)) (Q := fun _ s' => SP X pins D .next s') rfl hs (closure_of (I.has_cells L hS)) L.kind L.names
    (thn (hit pins s σ H _ I h) fun xv s₁ h₁ => thn h₁ fun itv s₂ h₂ => ?_)) (fun _ s' hq => wpAny_pure (wpAny_pure hq)) fun _ _ e => e)
  obtain ⟨it, fp, tn, J, H2, rfl, I2, T, st2, f2, q2⟩ := h₂
  refine lcs_core (Q := fun v H' => D.nx (σ.set i (some v)) H') hc L hS hg ht he I2 T st2 f2 q2 ?_
  intro D' C H' s' m I' q hn hC hle hp hL hcl
  show wpAny _ _ (assign (.Name y py) X.env (.ref D')) _ _ s'
  refine wpAny_assign_Name (store_ok2 I' hN hi hy (v := .ref D') (u := .ref D') rfl (fun s'' I'' ⟨a, sb, ha⟩ => ?_) hf)
  have nCa : C ≠ a := by
    rcases ha with rfl | ha
    · exact hL
    · exact fun z => hcl y a ha z.symm
  refine ⟨m, hn.sameBut sb nCa, fun h' hs' => ?_⟩
  have I3 : Inv X pins (σ.set i (some (.ref D'))) H' { s'' with heap := h' } := I''.turned (t' := s''.toks) (fun b o hb e => (hs'.2 b hb).trans e) hC hL (.inr (Nat.le_trans I2.sz hle)) hcl hp
  exact ⟨_, H', I3, q⟩
/-- two names; one name -/
def g2 (K : PySem.W.Frag) (n : Nat) : TG := gTup K 2 (gCons (gName n) (gCons (gName (n + 1)) gNil))
theorem pg_two {S : Scope} {x y : Str} {px py tpos : Pos} {k : Nat} (hc : X.calm = true) (L : LcScopes S X.N sc [x, y]) (s₀ : Shared) (H₀ : Hp) (fp : List Addr) : PG (X.blks (blkNs X.N [x, y]) sc s₀ H₀ fp) (.Tuple [.Name x px, .Name y py] k tpos) (g2 X.K X.N.length) := by
  refine pg_tup (X := X.blks (blkNs X.N [x, y]) sc s₀ H₀ fp) hc (pgs_cons (pg_name L.nd ?_ (.inl (lookup_relabel_local (L.loc x (by simp)))) (.inr (lookup_relabel_local (L.loc x (by simp))))) (pgs_cons (pg_name L.nd ?_ (.inl (lookup_relabel_local (L.loc y (by simp)))) (.inr (lookup_relabel_local (L.loc y (by simp))))) pgs_nil))
  · show (blkNs X.N [x, y])[X.N.length]? = some x
    unfold blkNs
    rw [List.getElem?_append_right (by simp)]
    simp
  · show (blkNs X.N [x, y])[X.N.length + 1]? = some y
    unfold blkNs
    rw [List.getElem?_append_right (by simp)]
    simp
theorem pg_one {S : Scope} {x : Str} {px : Pos} (L : LcScopes S X.N sc [x]) (s₀ : Shared) (H₀ : Hp) (fp : List Addr) : PG (X.blks (blkNs X.N [x]) sc s₀ H₀ fp) (.Name x px) (gName X.N.length) := by
  refine pg_name L.nd ?_ (.inl (lookup_relabel_local (L.loc x (by simp)))) (.inr (lookup_relabel_local (L.loc x (by simp))))
  show (blkNs X.N [x])[X.N.length]? = some x
  unfold blkNs
  rw [List.getElem?_append_right (by simp)]
  simp
end
end L2

/-! a comprehension of one name, by the rule for several -/
namespace L2
open PySem PySem.Spec PyProof.Rows
theorem lcw_one {n : Nat} {J : It} {te : TE} {σ : St} {H1 : Hp} {Q : VK} (hn : σ.length = n) (h : ∀ D, H1 D = none → ∃ W : Nat → Nat → List V → Hp → Prop, (∃ m, W 0 m [] (upd H1 D (.lst []))) ∧
    ∀ i m ys H', W i m ys H' → H' D = some (.lst ys) ∧ ((J.stop i H' ∧ Q (.ref D) H') ∨ (J.go i H' ∧ ∀ z H2, J.yld i H' z H2 → te (σ ++ [some z]) H2 fun v H3 => H3 D = some (.lst ys) ∧ ys.length < sizeLine ∧ ∃ m', m' < m ∧ W (i + 1) m' (ys ++ [v]) (upd H3 D (.lst (ys ++ [v])))))) :
    LcW 1 J (gName n) tYes te σ H1 Q := by
  subst hn
  intro D hD
  obtain ⟨W, w0, st⟩ := h D hD
  refine ⟨W, w0, fun i m ys H' hw => ?_⟩
  obtain ⟨e, d⟩ := st i m ys H' hw
  refine ⟨e, d.imp id fun ⟨go, yl⟩ => ⟨go, fun z H2 hy os los => ?_⟩⟩
  match os, los with
  | [o], _ =>
    have es : (σ ++ [o]).set σ.length (some z) = σ ++ [some z] := by
      rw [List.set_append_right _ _ (Nat.le_refl _), Nat.sub_self]
      rfl
    show (∃ os' : St, (σ ++ [o]).set σ.length (some z) = σ ++ os' ∧ os'.length = 1) ∧ tYes ((σ ++ [o]).set σ.length (some z)) H2 _
    rw [es]
    exact ⟨⟨[some z], rfl, rfl⟩, iteT (B := ∃ m', m' < m ∧ W (i + 1) m' ys H2) (yl z H2 hy)⟩
section
variable {X : Cx} {sc : Scope} {x : Str}
theorem pe_lc1 {elt iter : Expr} {px pos : Pos} {ti : TI} {te : TE} {S : Scope} (hc : X.calm = true) (L : LcScopes S X.N sc [x]) (hS : X.env.scope = S) (hi : PI X (.Name x px) iter ti)
    (he : ∀ (s₀ : Shared) (H₀ : Hp) (fp : List Addr), PE (X.blks (blkNs X.N [x]) sc s₀ H₀ fp) elt te) (hs : ∀ x, foldedSetIterable iter X.env x = pure x := by intro _; rfl) :
    PE X (.ListComp elt [⟨.Name x px, iter, [], 0⟩] sc pos) (tLc ti te) := by
  intro pins s σ H Q I h
  rw [eval_ListComp]
  refine wpAny_comprehension_free (use := none) rfl hs (closure_of (I.has_cells L hS)) L.kind L.names (thn (hi pins s σ H _ I h) fun xv s₁ h₁ => thn h₁ fun itv s₂ h₂ => ?_)
  obtain ⟨it, fp, tn, J, H2, rfl, I2, T, st2, f2, q2⟩ := h₂
  refine lcs_core hc L hS (pg_one L) (fun _ _ _ => pts_nil) he I2 T st2 f2 (lcw_one I2.len q2) ?_
  intro D C H' s' m I' q hn hC hle hp hL hcl
  refine ⟨m, hn, fun h' hs' => ?_⟩
  have I3 : Inv X pins σ H' { s' with heap := h' } := I'.turned (t' := s'.toks) (fun b o hb e => (hs'.2 b hb).trans e) hC hL (.inr (Nat.le_trans I2.sz hle)) hcl hp
  exact ⟨.ref D, H', I3, rfl, q⟩
end
end L2

/-! y = [..] of one name, by the rule for several -/
namespace L2
open PySem PySem.Spec PyProof.Rows
section
variable {X : Cx} {sc : Scope} {x : Str}
theorem ps_setLc1 {elt iter : Expr} {i : Nat} {y : Str} {px py pos spos : Pos} {ti : TI} {te : TE} {S : Scope} (hN : X.N.Nodup) (hi : X.N[i]? = some y) (hy : Loc X.env.scope y) (hc : X.calm = true) (L : LcScopes S X.N sc [x]) (hS : X.env.scope = S) (hit : PI X (.Name x px) iter ti)
    (he : ∀ (s₀ : Shared) (H₀ : Hp) (fp : List Addr), PE (X.blks (blkNs X.N [x]) sc s₀ H₀ fp) elt te)
    (hsw : swapsWith (.ListComp elt [⟨.Name x px, iter, [], 0⟩] sc pos) (some (.Name y py)) spos.line X.env = pure true := by rfl) (hs : ∀ x, foldedSetIterable iter X.env x = pure x := by intro _; rfl)
    (hf : X.fn y = true ∨ X.env.scope.names.lookup y = some .local := by first | exact .inl rfl | exact .inr rfl | assumption) :
    PS X (.Assign [.Name y py] (.ListComp elt [⟨.Name x px, iter, [], 0⟩] sc pos) spos) (tAsg (tLc ti te) (gName i)) := by
  intro pins s σ H D I h
  rw [exec_Assign_Name_used _ _ _ _ hsw]
  refine wpAny_bind (wpAny_standAt (wpAny_bind ?_))
  show wpAny _ _ (do let _ ← comprehension (.ListComp elt [⟨.Name x px, iter, [], 0⟩] sc pos) sc X.env _ (newList []) false (eval iter X.env) (some (assign (.Name y py) X.env))) _ _ s
  refine wpAny_bind (wpAny_mono (wpAny_comprehension_free (use := some (assign (.Name y py) X.env)) (Q := fun _ s' => SP X pins D .next s') rfl hs (closure_of (I.has_cells L hS)) L.kind L.names
    (thn (hit pins s σ H _ I h) fun xv s₁ h₁ => thn h₁ fun itv s₂ h₂ => ?_)) (fun _ s' hq => wpAny_pure (wpAny_pure hq)) fun _ _ e => e)
  obtain ⟨it, fp, tn, J, H2, rfl, I2, T, st2, f2, q2⟩ := h₂
  refine lcs_core (Q := fun v H' => D.nx (σ.set i (some v)) H') hc L hS (pg_one L) (fun _ _ _ => pts_nil) he I2 T st2 f2 (lcw_one (Q := fun v H' => D.nx (σ.set i (some v)) H') I2.len q2) ?_
  intro D' C H' s' m I' q hn hC hle hp hL hcl
  show wpAny _ _ (assign (.Name y py) X.env (.ref D')) _ _ s'
  refine wpAny_assign_Name (store_ok2 I' hN hi hy (v := .ref D') (u := .ref D') rfl (fun s'' I'' ⟨a, sb, ha⟩ => ?_) hf)
  have nCa : C ≠ a := by
    rcases ha with rfl | ha
    · exact hL
    · exact fun z => hcl y a ha z.symm
  refine ⟨m, hn.sameBut sb nCa, fun h' hs' => ?_⟩
  have I3 : Inv X pins (σ.set i (some (.ref D'))) H' { s'' with heap := h' } := I''.turned (t' := s''.toks) (fun b o hb e => (hs'.2 b hb).trans e) hC hL (.inr (Nat.le_trans I2.sz hle)) hcl hp
  exact ⟨_, H', I3, q⟩
end
end L2

namespace M11
/-- gcd as an int -/
abbrev G (a b : Int) : Int := (Int.gcd a b : Nat)
theorem gcd_step (a b : Int) : Int.gcd b (a.fmod b) = Int.gcd a b := by
  rw [Int.fmod_def, Int.gcd_sub_mul_left_right, Int.gcd_comm]
theorem fmod_small (a b : Int) (h : b ≠ 0) : (a.fmod b).natAbs < b.natAbs := by
  rcases Int.lt_or_lt_of_ne h with hb | hb
  · have e := Int.neg_fmod_neg a b
    have h1 := Int.fmod_nonneg_of_pos (-a) (b := -b) (by omega)
    have h2 := Int.fmod_lt_of_pos (-a) (b := -b) (by omega)
    omega
  · have h1 := Int.fmod_nonneg_of_pos a hb
    have h2 := Int.fmod_lt_of_pos a hb
    omega
theorem gcd_end (a : Int) : (if a < 0 then -a else a) = G a 0 := by
  show _ = ((Int.gcd a 0 : Nat) : Int)
  rw [Int.gcd_zero_right]
  split <;> omega
def sgn (t b : Int) : Int := if b < 0 then -(G t b) else G t b
/-- lowest terms -/
def low (t b : Int) : Int × Int := (t.fdiv (sgn t b), b.fdiv (sgn t b))
theorem sgn_ne {t b : Int} (h : b ≠ 0) : sgn t b ≠ 0 := by
  have := Int.gcd_pos_of_ne_zero_right t h
  unfold sgn G
  split <;> omega
theorem G_le {t b : Int} (h : b ≠ 0) : G t b ≤ (b.natAbs : Int) := by
  have h1 : Int.gcd t b ∣ b.natAbs := by
    have := Int.natAbs_dvd_natAbs.mpr (Int.gcd_dvd_right t b)
    simpa using this
  have h2 : 0 < b.natAbs := by omega
  exact Int.ofNat_le.mpr (Nat.le_of_dvd h2 h1)
theorem sgn_le {t b : Int} (h : b ≠ 0) : (sgn t b).natAbs ≤ b.natAbs := by
  have h1 := G_le (t := t) h
  have h2 : 0 ≤ G t b := Int.natCast_nonneg _
  unfold sgn
  generalize G t b = g at h1 h2 ⊢
  split <;> omega
theorem sgn_natAbs (t b : Int) : (sgn t b).natAbs = Int.gcd t b := by
  unfold sgn G
  split <;> omega
theorem sgn_dvd_l (t b : Int) : sgn t b ∣ t := by
  unfold sgn
  split
  · exact Int.neg_dvd.mpr (Int.gcd_dvd_left t b)
  · exact Int.gcd_dvd_left t b
theorem sgn_dvd_r (t b : Int) : sgn t b ∣ b := by
  unfold sgn
  split
  · exact Int.neg_dvd.mpr (Int.gcd_dvd_right t b)
  · exact Int.gcd_dvd_right t b
/-- what lowest terms are -/
theorem low_spec {t b : Int} (h : b ≠ 0) : ∃ t' b', t = sgn t b * t' ∧ b = sgn t b * b' ∧ low t b = (t', b') ∧ 0 < b' ∧ Int.gcd t' b' = 1 := by
  have hn := sgn_ne (t := t) h
  obtain ⟨t', e1⟩ := sgn_dvd_l t b
  obtain ⟨b', e2⟩ := sgn_dvd_r t b
  refine ⟨t', b', e1, e2, ?_, ?_, ?_⟩
  · have f1 : t.fdiv (sgn t b) = t' := (congrArg (fun z => Int.fdiv z (sgn t b)) e1).trans (Int.mul_fdiv_cancel_left t' hn)
    have f2 : b.fdiv (sgn t b) = b' := (congrArg (fun z => Int.fdiv z (sgn t b)) e2).trans (Int.mul_fdiv_cancel_left b' hn)
    unfold low
    rw [f1, f2]
  · by_cases hb : b < 0
    · have hs : sgn t b < 0 := by
        have := Int.gcd_pos_of_ne_zero_right t h
        unfold sgn G
        rw [if_pos hb]
        omega
      by_cases hp : 0 < b'
      · exact hp
      · have := Int.mul_nonneg_of_nonpos_of_nonpos (a := sgn t b) (b := b') (by omega) (by omega)
        omega
    · have hs : 0 < sgn t b := by
        have := Int.gcd_pos_of_ne_zero_right t h
        unfold sgn G
        rw [if_neg hb]
        omega
      by_cases hp : 0 < b'
      · exact hp
      · have := Int.mul_nonpos_of_nonneg_of_nonpos (a := sgn t b) (b := b') (by omega) (by omega)
        omega
  · have g1 : Int.gcd (sgn t b * t') (sgn t b * b') = (sgn t b).natAbs * Int.gcd t' b' := Int.gcd_mul_left _ _ _
    rw [← e1, ← e2, sgn_natAbs] at g1
    have g2 := Int.gcd_pos_of_ne_zero_right t h
    have g3 : Int.gcd t b * Int.gcd t' b' = Int.gcd t b * 1 := by omega
    exact Nat.eq_of_mul_eq_mul_left g2 g3
/-- crosswise alike -/
theorem low_cross {t b : Int} (h : b ≠ 0) : (low t b).1 * b = t * (low t b).2 := by
  obtain ⟨t', b', e1, e2, e3, _⟩ := low_spec (t := t) h
  rw [e3]
  generalize sgn t b = d at e1 e2
  subst e1 e2
  show t' * (d * b') = d * t' * b'
  rw [← Int.mul_assoc, Int.mul_comm t' d]
theorem low_pos {t b : Int} (h : b ≠ 0) : 0 < (low t b).2 := by
  obtain ⟨t', b', _, _, e3, h', _⟩ := low_spec (t := t) h
  rw [e3]; exact h'
theorem low_cop {t b : Int} (h : b ≠ 0) : Int.gcd (low t b).1 (low t b).2 = 1 := by
  obtain ⟨t', b', _, _, e3, _, h'⟩ := low_spec (t := t) h
  rw [e3]; exact h'
theorem natAbs_le_of_mul {d x : Int} (h : d ≠ 0) : x.natAbs ≤ (d * x).natAbs := by
  rw [Int.natAbs_mul]
  exact Nat.le_mul_of_pos_left _ (by omega)
/-- small enough for every step: below 2 ^ 250 -/
def Bd (x : Int) : Prop := x.natAbs < 2 ^ 250
/-- a fraction at hand -/
structure Fr (x y : Int) : Prop where
  bx : Bd x
  by' : Bd y
  pos : 0 < y
end M11
namespace M11
theorem cop_dvd {x y z : Int} (h : Int.gcd x y = 1) (d : y ∣ x * z) : y ∣ z := by
  have d' : y.natAbs ∣ x.natAbs * z.natAbs := by
    rw [← Int.natAbs_mul]
    exact Int.natAbs_dvd_natAbs.mpr d
  have c : Nat.Coprime y.natAbs x.natAbs := by
    show Nat.gcd y.natAbs x.natAbs = 1
    rw [Nat.gcd_comm]
    exact h
  exact Int.natAbs_dvd_natAbs.mp (Nat.Coprime.dvd_of_dvd_mul_left c d')
theorem low_uniq {t b x y : Int} (hb : b ≠ 0) (hy : 0 < y) (hg : Int.gcd x y = 1) (hc : x * b = t * y) : low t b = (x, y) := by
  have c1 := low_cross (t := t) hb
  have p1 := low_pos (t := t) hb
  have g1 := low_cop (t := t) hb
  generalize low t b = l at c1 p1 g1
  obtain ⟨x', y'⟩ := l
  have c1' : x' * b = t * y' := c1
  have p1' : 0 < y' := p1
  have g1' : Int.gcd x' y' = 1 := g1
  have e : x * y' = x' * y := by
    have : (x * y') * b = (x' * y) * b := by grind
    exact Int.eq_of_mul_eq_mul_right hb this
  have d1 : y ∣ y' := cop_dvd hg ⟨x', by rw [e, Int.mul_comm]⟩
  have d2 : y' ∣ y := cop_dvd g1' ⟨x, by rw [← e, Int.mul_comm]⟩
  have ey : y' = y := Int.dvd_antisymm (by omega) (by omega) d2 d1
  subst ey
  have ex : x' = x := by
    have : x * y' = x' * y' := e
    exact (Int.eq_of_mul_eq_mul_right (by omega) this).symm
  rw [ex]
theorem low_eq {t b t' b' : Int} (hb : b ≠ 0) (hb' : b' ≠ 0) (h : t * b' = t' * b) : low t b = low t' b' := by
  have c1 := low_cross (t := t') hb'
  have p1 := low_pos (t := t') hb'
  have g1 := low_cop (t := t') hb'
  generalize low t' b' = l at c1 p1 g1
  obtain ⟨x, y⟩ := l
  refine low_uniq hb p1 g1 ?_
  have c1' : x * b' = t' * y := c1
  have : (x * b) * b' = (t * y) * b' := by grind
  exact Int.eq_of_mul_eq_mul_right hb' this
theorem low_self {x y : Int} (hy : 0 < y) (hg : Int.gcd x y = 1) : low x y = (x, y) := low_uniq (by omega) hy hg rfl
theorem low_one (x : Int) : low x 1 = (x, 1) := low_self (by decide) (by rw [Int.gcd_one_right])
/-! the common divisor of a row -/
def foldG (b : Int) (ts : List Int) : Int := ts.foldl (fun d t => G d t) b
theorem G_pos {a b : Int} (h : 0 < a) : 0 < G a b := Int.ofNat_lt.mpr (Int.gcd_pos_of_ne_zero_left b (by omega))
theorem foldG_spec : ∀ (ts : List Int) (b : Int), 0 < b → 0 < foldG b ts ∧ foldG b ts ∣ b ∧ ∀ t ∈ ts, foldG b ts ∣ t
  | [], b, h => ⟨h, Int.dvd_refl _, fun t ht => by cases ht⟩
  | t :: ts, b, h => by
    have hp := G_pos (b := t) h
    obtain ⟨h1, h2, h3⟩ := foldG_spec ts (G b t) hp
    have e : foldG b (t :: ts) = foldG (G b t) ts := rfl
    rw [e]
    refine ⟨h1, Int.dvd_trans h2 (Int.gcd_dvd_left b t), fun u hu => ?_⟩
    rcases List.mem_cons.mp hu with rfl | hu
    · exact Int.dvd_trans h2 (Int.gcd_dvd_right b u)
    · exact h3 u hu
theorem foldG_one : ∀ ts : List Int, foldG 1 ts = 1
  | [] => rfl
  | t :: ts => by
    show foldG (G 1 t) ts = 1
    have : G 1 t = 1 := by unfold G; rw [Int.one_gcd]; rfl
    rw [this]
    exact foldG_one ts
def lowerR (ts : List Int) (b : Int) : List Int × Int := (ts.map fun t => t.fdiv (foldG b ts), b.fdiv (foldG b ts))
theorem fdiv_of_dvd {d t : Int} (hd : 0 < d) (h : d ∣ t) : ∃ q, t = d * q ∧ t.fdiv d = q := by
  obtain ⟨q, e⟩ := h
  exact ⟨q, e, by rw [e]; exact Int.mul_fdiv_cancel_left q (by omega)⟩
theorem lowerR_one {ts : List Int} {b : Int} (h : foldG b ts = 1) : lowerR ts b = (ts, b) := by
  unfold lowerR
  rw [h]
  simp only [Int.fdiv_one, List.map_id']
theorem lowerR_pos {ts : List Int} {b : Int} (h : 0 < b) : 0 < (lowerR ts b).2 ∧ (lowerR ts b).2 ≤ b := by
  obtain ⟨h1, h2, h3⟩ := foldG_spec ts b h
  obtain ⟨q, e1, e2⟩ := fdiv_of_dvd h1 h2
  show 0 < b.fdiv (foldG b ts) ∧ b.fdiv (foldG b ts) ≤ b
  rw [e2]
  generalize foldG b ts = d at *
  have hq : 0 < q := by
    by_cases z : 0 < q
    · exact z
    · have := Int.mul_nonpos_of_nonneg_of_nonpos (a := d) (b := q) (by omega) (by omega)
      omega
  refine ⟨hq, ?_⟩
  rw [e1]
  have := Int.mul_le_mul_of_nonneg_right (a := 1) (b := d) (c := q) (by omega) (by omega)
  omega
theorem lowerR_le {ts : List Int} {b : Int} (h : 0 < b) : ∀ x ∈ (lowerR ts b).1, ∃ t ∈ ts, x.natAbs ≤ t.natAbs := by
  obtain ⟨h1, h2, h3⟩ := foldG_spec ts b h
  intro x hx
  obtain ⟨t, ht, rfl⟩ := List.mem_map.mp hx
  obtain ⟨r, e3, e4⟩ := fdiv_of_dvd h1 (h3 t ht)
  refine ⟨t, ht, ?_⟩
  rw [e4]
  have := natAbs_le_of_mul (d := foldG b ts) (x := r) (by omega)
  rw [← e3] at this
  exact this
theorem lowerR_len (ts : List Int) (b : Int) : (lowerR ts b).1.length = ts.length := by unfold lowerR; simp
/-! bounds -/
def Bn (n : Nat) (x : Int) : Prop := x.natAbs < 2 ^ n
theorem Bn.mono {n m : Nat} {x : Int} (h : Bn n x) (hm : n ≤ m) : Bn m x := Nat.lt_of_lt_of_le h (Nat.pow_le_pow_right (by decide) hm)
theorem Bn.mul {n m : Nat} {x y : Int} (h : Bn n x) (h' : Bn m y) : Bn (n + m) (x * y) := by
  unfold Bn at *
  rw [Int.natAbs_mul, Nat.pow_add]
  exact Nat.mul_lt_mul'' h h'
theorem Bn.add {n : Nat} {x y : Int} (h : Bn n x) (h' : Bn n y) : Bn (n + 1) (x + y) := by
  unfold Bn at *
  have := Int.natAbs_add_le x y
  rw [Nat.pow_succ]
  omega
theorem Bn.le {n : Nat} {x y : Int} (h : Bn n x) (h' : y.natAbs ≤ x.natAbs) : Bn n y := Nat.lt_of_le_of_lt h' h
theorem bn_sum {n : Nat} : ∀ (k : Nat) (l : List Int), l.length ≤ 2 ^ k → (∀ x ∈ l, Bn n x) → Bn (n + k + 1) l.sum := by
  intro k l hl h
  have key : ∀ l : List Int, (∀ x ∈ l, Bn n x) → l.sum.natAbs ≤ l.length * 2 ^ n := by
    intro l
    induction l with
    | nil => intro _; simp
    | cons a l ih =>
      intro h
      have h1 := ih fun x hx => h x (List.mem_cons_of_mem _ hx)
      have h2 : a.natAbs < 2 ^ n := h a List.mem_cons_self
      rw [List.sum_cons, List.length_cons, Nat.succ_mul]
      have := Int.natAbs_add_le a l.sum
      omega
  have h1 := key l h
  have h2 : l.length * 2 ^ n ≤ 2 ^ k * 2 ^ n := Nat.mul_le_mul_right _ hl
  have h3 : 2 ^ k * 2 ^ n = 2 ^ (n + k) := by rw [← Nat.pow_add, Nat.add_comm]
  have h4 : 0 < 2 ^ (n + k) := Nat.pow_pos (by decide)
  show l.sum.natAbs < 2 ^ (n + k + 1)
  rw [Nat.pow_succ]
  omega
end M11

/-! fractions of a value by one shared divisor; a fraction times a value, crosswise -/
namespace M11
/-- what is kept of the product: each top's part of the bottom divides it -/
def AnyOk (b : Int) (ts : List Int) (p : Int) : Prop := ∀ t ∈ ts, t ≠ 0 → G t b ∣ p
/-- a fraction (a, c) times a value: crosswise -/
def manyR (a c : Int) (ts : List Int) (b : Int) : List Int × Int := (ts.map fun t => a.fdiv (G a b) * t.fdiv (foldG c ts), c.fdiv (foldG c ts) * b.fdiv (G a b))
theorem manyR_spec {a c b : Int} {ts : List Int} (hc : 0 < c) (hb : 0 < b) : 0 < (manyR a c ts b).2 ∧ (manyR a c ts b).2 ≤ c * b ∧ (manyR a c ts b).1.map (fun t => low t (manyR a c ts b).2) = ts.map (fun t => low (a * t) (c * b)) ∧ ∀ x ∈ (manyR a c ts b).1, ∃ t ∈ ts, x.natAbs ≤ (a * t).natAbs := by
  obtain ⟨h1, h2, h3⟩ := foldG_spec ts c hc
  have p1 : 0 < G a b := Int.ofNat_lt.mpr (Int.gcd_pos_of_ne_zero_right a (by omega))
  obtain ⟨a', ea, fa⟩ := fdiv_of_dvd p1 (Int.gcd_dvd_left a b)
  obtain ⟨b', eb, fb⟩ := fdiv_of_dvd p1 (Int.gcd_dvd_right a b)
  obtain ⟨c', ec, fc⟩ := fdiv_of_dvd h1 h2
  unfold manyR
  dsimp only
  rw [fa, fb, fc]
  generalize foldG c ts = g at *
  generalize G a b = d at *
  have pb : 0 < b' := by
    by_cases z : 0 < b'
    · exact z
    · have := Int.mul_nonpos_of_nonneg_of_nonpos (a := d) (b := b') (by omega) (by omega)
      omega
  have pc : 0 < c' := by
    by_cases z : 0 < c'
    · exact z
    · have := Int.mul_nonpos_of_nonneg_of_nonpos (a := g) (b := c') (by omega) (by omega)
      omega
  refine ⟨Int.mul_pos pc pb, ?_, ?_, fun x hx => ?_⟩
  · have l1 : c' ≤ c := by
      have := Int.mul_le_mul_of_nonneg_right (a := 1) (b := g) (c := c') (by omega) (by omega)
      omega
    have l2 : b' ≤ b := by
      have := Int.mul_le_mul_of_nonneg_right (a := 1) (b := d) (c := b') (by omega) (by omega)
      omega
    exact Int.mul_le_mul l1 l2 (by omega) (by omega)
  · rw [List.map_map]
    refine List.map_congr_left fun t ht => ?_
    obtain ⟨t', et, ft⟩ := fdiv_of_dvd h1 (h3 t ht)
    show low (a' * t.fdiv g) (c' * b') = low (a * t) (c * b)
    rw [ft]
    have z1 := Int.mul_pos pc pb
    have z2 := Int.mul_pos hc hb
    refine low_eq (by omega) (by omega) ?_
    clear fa fb fc ft h2 h3
    rw [ea, eb, ec, et]
    grind
  · obtain ⟨t, ht, rfl⟩ := List.mem_map.mp hx
    obtain ⟨t', et, ft⟩ := fdiv_of_dvd h1 (h3 t ht)
    refine ⟨t, ht, ?_⟩
    rw [ft]
    have e : a * t = (d * g) * (a' * t') := by
      clear fa fb fc ft h2 h3 hx
      rw [ea, et]
      grind
    rw [e]
    exact natAbs_le_of_mul (by have := Int.mul_pos p1 h1; omega)
theorem manyR_len (a c : Int) (ts : List Int) (b : Int) : (manyR a c ts b).1.length = ts.length := by unfold manyR; simp
end M11

/-! ROW TERMS: what they are worth, their rows -/
namespace TM
open PySem L2
inductive Tm where
  | one
  | hue (c : Int)
  | near (t : Tm)
  | both (t u : Tm)
  | plus (t u : Tm)
  | many (a b : Int) (t : Tm)
def Tm.dat : Tm → PyData
  | .one => .tuple [.str "one"]
  | .hue c => .tuple [.str "hue", .int c]
  | .near t => .tuple [.str "near", t.dat]
  | .both t u => .tuple [.str "both", t.dat, u.dat]
  | .plus t u => .tuple [.str "plus", t.dat, u.dat]
  | .many a b t => .tuple [.str "many", .tuple [.int a, .int b], t.dat]
def Tm.kids : Tm → List Tm
  | .one => []
  | .hue _ => []
  | .near t => [t]
  | .both t u => [t, u]
  | .plus t u => [t, u]
  | .many _ _ t => [t]
def Tm.size : Tm → Nat
  | .one => 1
  | .hue _ => 1
  | .near t => t.size + 1
  | .both t u => t.size + u.size + 1
  | .plus t u => t.size + u.size + 1
  | .many _ _ t => t.size + 1
def Tm.mans : Tm → Nat
  | .one => 0
  | .hue _ => 0
  | .near t => t.mans
  | .both t u => t.mans + u.mans
  | .plus t u => t.mans + u.mans
  | .many _ _ t => t.mans + 1
/-- the fractions within are fractions, not too great -/
def Tm.good : Tm → Prop
  | .one => True
  | .hue _ => True
  | .near t => t.good
  | .both t u => t.good ∧ u.good
  | .plus t u => t.good ∧ u.good
  | .many a b t => (a.natAbs ≤ 10 ^ 60 ∧ 0 < b ∧ b ≤ 2 ^ 40 ∧ Int.gcd a b = 1) ∧ t.good
theorem Tm.size_pos : ∀ t : Tm, 1 ≤ t.size := by intro t; cases t <;> simp [Tm.size]
theorem Tm.mans_le : ∀ t : Tm, t.mans ≤ t.size := by
  intro t
  induction t with
  | one => simp [Tm.mans]
  | hue c => simp [Tm.mans]
  | near t ih => simp only [Tm.mans, Tm.size]; omega
  | both t u h1 h2 => simp only [Tm.mans, Tm.size]; omega
  | plus t u h1 h2 => simp only [Tm.mans, Tm.size]; omega
  | many a b t ih => simp only [Tm.mans, Tm.size]; omega
/-- from the term inwards, the last one first -/
def Tm.pre : Tm → List Tm
  | .one => [.one]
  | .hue c => [.hue c]
  | .near t => .near t :: t.pre
  | .both t u => .both t u :: (u.pre ++ t.pre)
  | .plus t u => .plus t u :: (u.pre ++ t.pre)
  | .many a b t => .many a b t :: t.pre
theorem Tm.pre_eq (t : Tm) : t.pre = t :: t.kids.reverse.flatMap Tm.pre := by
  cases t <;> simp [Tm.pre, Tm.kids]
theorem Tm.pre_len : ∀ t : Tm, t.pre.length = t.size := by
  intro t
  induction t with
  | one => rfl
  | hue c => rfl
  | near t ih => simp [Tm.pre, Tm.size, ih]
  | both t u h1 h2 => simp only [Tm.pre, Tm.size, List.length_cons, List.length_append, h1, h2]; omega
  | plus t u h1 h2 => simp only [Tm.pre, Tm.size, List.length_cons, List.length_append, h1, h2]; omega
  | many a b t ih => simp [Tm.pre, Tm.size, ih]
/-- how the rows stand: ahead of x there are B and x's own, behind it B and x -/
inductive Ch : List Tm → List Tm → List Tm → Prop
  | nil (st : List Tm) : Ch st [] st
  | cons {B : List Tm} {x : Tm} {L st : List Tm} : Ch (B ++ [x]) L st → Ch (B ++ x.kids) (x :: L) st
theorem Ch.app {a b c : List Tm} {L L' : List Tm} (h : Ch a L b) (h' : Ch b L' c) : Ch a (L ++ L') c := by
  induction h with
  | nil st => exact h'
  | cons _ ih => exact .cons (ih h')
theorem Tm.chain : ∀ (t : Tm) (B : List Tm), Ch B t.pre.reverse (B ++ [t]) := by
  intro t
  induction t with
  | one => intro B; exact (by simpa [Tm.pre, Tm.kids] using Ch.cons (B := B) (x := .one) (.nil _))
  | hue c => intro B; exact (by simpa [Tm.pre, Tm.kids] using Ch.cons (B := B) (x := .hue c) (.nil _))
  | near t ih =>
    intro B
    have := (ih B).app (Ch.cons (B := B) (x := .near t) (.nil _))
    simpa [Tm.pre] using this
  | both t u h1 h2 =>
    intro B
    have e : B ++ [t] ++ [u] = B ++ (Tm.both t u).kids := by simp [Tm.kids]
    have := ((h1 B).app (h2 (B ++ [t]))).app (e ▸ Ch.cons (B := B) (x := .both t u) (.nil _))
    simpa [Tm.pre] using this
  | plus t u h1 h2 =>
    intro B
    have e : B ++ [t] ++ [u] = B ++ (Tm.plus t u).kids := by simp [Tm.kids]
    have := ((h1 B).app (h2 (B ++ [t]))).app (e ▸ Ch.cons (B := B) (x := .plus t u) (.nil _))
    simpa [Tm.pre] using this
  | many a b t ih =>
    intro B
    have := (ih B).app (Ch.cons (B := B) (x := .many a b t) (.nil _))
    simpa [Tm.pre] using this
theorem Ch.pop {st L fin : List Tm} {x : Tm} (h : Ch st (x :: L) fin) : ∃ B, st = B ++ x.kids ∧ Ch (B ++ [x]) L fin := by
  cases h with
  | cons h => exact ⟨_, rfl, h⟩
theorem Ch.done {st fin : List Tm} (h : Ch st [] fin) : st = fin := by cases h; rfl
/-- what is within -/
def Tm.inn (t : Tm) (p : Tm → Prop) : Prop := ∀ x ∈ t.pre, p x
theorem Tm.kid_size {t x : Tm} (h : x ∈ t.kids) : x.size < t.size := by
  cases t <;> simp [Tm.kids] at h <;> (try rcases h with rfl | rfl) <;> (try subst h) <;> simp only [Tm.size] <;> omega
theorem Tm.kids_len (t : Tm) : t.kids.length ≤ 2 := by cases t <;> simp [Tm.kids]
theorem Tm.kid_good {t x : Tm} (g : t.good) (h : x ∈ t.kids) : x.good := by
  cases t <;> simp [Tm.kids] at h <;> simp only [Tm.good] at g
  · subst h; exact g
  · rcases h with rfl | rfl
    · exact g.1
    · exact g.2
  · rcases h with rfl | rfl
    · exact g.1
    · exact g.2
  · subst h; exact g.2
theorem Tm.kid_mans {t x : Tm} (h : x ∈ t.kids) : x.mans ≤ t.mans := by
  cases t <;> simp [Tm.kids] at h <;> (try rcases h with rfl | rfl) <;> (try subst h) <;> simp only [Tm.mans] <;> omega
theorem Tm.pre_prop {p : Tm → Prop} (hp : ∀ t x, p t → x ∈ t.kids → p x) : ∀ t : Tm, p t → ∀ x ∈ t.pre, p x := by
  intro t
  induction t with
  | one => intro h x hx; simp [Tm.pre] at hx; subst hx; exact h
  | hue c => intro h x hx; simp [Tm.pre] at hx; subst hx; exact h
  | near t ih =>
    intro h x hx
    rcases List.mem_cons.mp (by simpa [Tm.pre] using hx) with rfl | hx
    · exact h
    · exact ih (hp _ _ h (by simp [Tm.kids])) x hx
  | both t u h1 h2 =>
    intro h x hx
    have hx' : x = .both t u ∨ x ∈ u.pre ∨ x ∈ t.pre := by simpa [Tm.pre] using hx
    rcases hx' with rfl | hx | hx
    · exact h
    · exact h2 (hp _ _ h (by simp [Tm.kids])) x hx
    · exact h1 (hp _ _ h (by simp [Tm.kids])) x hx
  | plus t u h1 h2 =>
    intro h x hx
    have hx' : x = .plus t u ∨ x ∈ u.pre ∨ x ∈ t.pre := by simpa [Tm.pre] using hx
    rcases hx' with rfl | hx | hx
    · exact h
    · exact h2 (hp _ _ h (by simp [Tm.kids])) x hx
    · exact h1 (hp _ _ h (by simp [Tm.kids])) x hx
  | many a b t ih =>
    intro h x hx
    rcases List.mem_cons.mp (by simpa [Tm.pre] using hx) with rfl | hx
    · exact h
    · exact ih (hp _ _ h (by simp [Tm.kids])) x hx
/-! ### rows over one bottom -/
abbrev Rw := List Int × Int
def dot (w r : List Int) : Int := (List.zipWith (fun a b => a * b) w r).sum
def rowR (hs : List Int) (M : List (List Int)) : Tm → Rw
  | .one => (List.replicate hs.length 1, 1)
  | .hue c => (hs.map fun h => if h = c then 1 else 0, 1)
  | .near t => (M.map fun w => dot w (rowR hs M t).1, (rowR hs M t).2)
  | .both t u => M11.lowerR (List.zipWith (fun a b => a * b) (rowR hs M t).1 (rowR hs M u).1) ((rowR hs M t).2 * (rowR hs M u).2)
  | .plus t u => M11.lowerR (List.zipWith (fun a b => a * (rowR hs M u).2 + b * (rowR hs M t).2) (rowR hs M t).1 (rowR hs M u).1) ((rowR hs M t).2 * (rowR hs M u).2)
  | .many a b t => M11.manyR a b (rowR hs M t).1 (rowR hs M t).2
structure RwOk (n s m : Nat) (r : Rw) : Prop where
  len : r.1.length = n
  tops : ∀ x ∈ r.1, M11.Bn (300 * s) x
  pos : 0 < r.2
  bot : r.2 ≤ 2 ^ (40 * m)
structure MOk (n : Nat) (hs : List Int) (M : List (List Int)) : Prop where
  hl : hs.length = n
  ml : M.length = n
  row : ∀ x ∈ M, x.length = n ∧ ∀ z ∈ x, z.natAbs ≤ 10 ^ 60
  few : n ≤ 16
theorem bn200 {z : Int} (h : z.natAbs ≤ 10 ^ 60) : M11.Bn 200 z := Nat.lt_of_le_of_lt h (by decide)
theorem zip_mem {a b : List Int} {f : Int → Int → Int} {x : Int} (h : x ∈ List.zipWith f a b) : ∃ u ∈ a, ∃ v ∈ b, x = f u v := by
  obtain ⟨i, hi, e⟩ := List.getElem_of_mem h
  rw [List.getElem_zipWith] at e
  exact ⟨_, List.getElem_mem _, _, List.getElem_mem _, e.symm⟩
theorem pos_pow {x : Int} {n : Nat} (h0 : 0 < x) (h : x ≤ 2 ^ n) : M11.Bn (n + 1) x := by
  unfold M11.Bn
  have h1 : (x.natAbs : Int) ≤ (2 : Int) ^ n := by omega
  have h2 : x.natAbs ≤ 2 ^ n := by
    have e : ((2 ^ n : Nat) : Int) = (2 : Int) ^ n := by rw [Int.natCast_pow]; rfl
    omega
  rw [Nat.pow_succ]
  have : 0 < 2 ^ n := Nat.pow_pos (by decide)
  omega
theorem bot_mul {x y : Int} {a b : Nat} (hx0 : 0 < x) (hx : x ≤ 2 ^ (40 * a)) (hy0 : 0 < y) (hy : y ≤ 2 ^ (40 * b)) : 0 < x * y ∧ x * y ≤ 2 ^ (40 * (a + b)) := by
  refine ⟨Int.mul_pos hx0 hy0, ?_⟩
  rw [Nat.mul_add, Int.pow_add]
  exact Int.mul_le_mul hx hy (by omega) (Int.pow_nonneg (by decide))
theorem lower_ok {n s m : Nat} {ts : List Int} {b : Int} (hl : ts.length = n) (ht : ∀ x ∈ ts, M11.Bn (300 * s) x) (hb : 0 < b) (hm : b ≤ 2 ^ (40 * m)) : RwOk n s m (M11.lowerR ts b) := by
  obtain ⟨p1, p2⟩ := M11.lowerR_pos (ts := ts) hb
  refine ⟨by rw [M11.lowerR_len]; exact hl, fun x hx => ?_, p1, by omega⟩
  obtain ⟨t, h1, h2⟩ := M11.lowerR_le hb x hx
  exact (ht t h1).le h2
theorem dot_bn {n k : Nat} {w r : List Int} (hn : w.length ≤ 16) (hw : ∀ z ∈ w, z.natAbs ≤ 10 ^ 60) (hr : ∀ z ∈ r, M11.Bn k z) : M11.Bn (k + 205) (dot w r) := by
  have := M11.bn_sum (n := 200 + k) 4 (List.zipWith (fun a b => a * b) w r) (by rw [List.length_zipWith]; show _ ≤ 16; omega) fun x hx => by
    obtain ⟨u, hu, v, hv, rfl⟩ := zip_mem hx
    exact (bn200 (hw u hu)).mul (hr v hv)
  exact this.mono (by omega)
theorem rowR_ok {n : Nat} {hs : List Int} {M : List (List Int)} (W : MOk n hs M) : ∀ t : Tm, t.good → RwOk n t.size t.mans (rowR hs M t) := by
  intro t
  induction t with
  | one =>
    intro _
    refine ⟨by show (List.replicate hs.length (1 : Int)).length = n; rw [List.length_replicate]; exact W.hl, fun x hx => ?_, by show (0 : Int) < 1; decide, by show (1 : Int) ≤ 2 ^ (40 * 0); decide⟩
    rw [List.eq_of_mem_replicate hx]
    exact (show M11.Bn 1 1 by unfold M11.Bn; decide).mono (by show 1 ≤ 300 * 1; decide)
  | hue c =>
    intro _
    refine ⟨by show (hs.map _).length = n; rw [List.length_map]; exact W.hl, fun x hx => ?_, by show (0 : Int) < 1; decide, by show (1 : Int) ≤ 2 ^ (40 * 0); decide⟩
    obtain ⟨h, _, rfl⟩ := List.mem_map.mp hx
    refine M11.Bn.mono (n := 1) ?_ (by show 1 ≤ 300 * 1; decide)
    unfold M11.Bn
    split <;> decide
  | near t ih =>
    intro g
    have r := ih g
    refine ⟨by show (M.map _).length = n; rw [List.length_map]; exact W.ml, fun x hx => ?_, r.pos, r.bot⟩
    obtain ⟨v, hv, rfl⟩ := List.mem_map.mp hx
    obtain ⟨l1, l2⟩ := W.row v hv
    have fw := W.few
    exact (dot_bn (n := n) (by omega) l2 r.tops).mono (by simp only [Tm.size]; omega)
  | both t u h1 h2 =>
    intro g
    have r1 := h1 g.1
    have r2 := h2 g.2
    obtain ⟨b1, b2⟩ := bot_mul r1.pos r1.bot r2.pos r2.bot
    refine lower_ok (by rw [List.length_zipWith, r1.len, r2.len]; exact Nat.min_self n) (fun x hx => ?_) b1 b2
    obtain ⟨a, ha, b, hb, rfl⟩ := zip_mem hx
    exact ((r1.tops a ha).mul (r2.tops b hb)).mono (by simp only [Tm.size]; omega)
  | plus t u h1 h2 =>
    intro g
    have r1 := h1 g.1
    have r2 := h2 g.2
    have m1 := t.mans_le
    have m2 := u.mans_le
    obtain ⟨b1, b2⟩ := bot_mul r1.pos r1.bot r2.pos r2.bot
    refine lower_ok (by rw [List.length_zipWith, r1.len, r2.len]; exact Nat.min_self n) (fun x hx => ?_) b1 b2
    obtain ⟨a, ha, b, hb, rfl⟩ := zip_mem hx
    have e1 := ((r1.tops a ha).mul (pos_pow r2.pos r2.bot)).mono (m := 300 * t.size + 300 * u.size + 1) (by omega)
    have e2 := ((r2.tops b hb).mul (pos_pow r1.pos r1.bot)).mono (m := 300 * t.size + 300 * u.size + 1) (by omega)
    exact (e1.add e2).mono (by simp only [Tm.size]; omega)
  | many a b t ih =>
    intro g
    have r := ih g.2
    obtain ⟨g1, g2, g3, g4⟩ := g.1
    have hb : b ≤ 2 ^ (40 * 1) := g3
    obtain ⟨b1, b2⟩ := bot_mul g2 hb r.pos r.bot
    obtain ⟨m1, m2, _, m4⟩ := M11.manyR_spec (a := a) (ts := (rowR hs M t).1) g2 r.pos
    refine ⟨by show (M11.manyR _ _ _ _).1.length = n; rw [M11.manyR_len]; exact r.len, fun x hx => ?_, m1, Int.le_trans m2 (by
      have e : 40 * (1 + t.mans) = 40 * (Tm.many a b t).mans := by simp only [Tm.mans]; omega
      rw [← e]; exact b2)⟩
    obtain ⟨v, hv, hl⟩ := m4 x hx
    exact (((bn200 g1).mul (r.tops v hv)).le hl).mono (by simp only [Tm.size]; omega)
/-! ### the row as fractions -/
def frs (r : Rw) : List (Int × Int) := r.1.map fun t => M11.low t r.2
end TM

/-! xs.extend(t) of a tuple -/
namespace L2
open PySem PySem.Spec PyProof.Rows
theorem extend_tup (l : Addr) (items : Array Value) (n : Nat) (b : Addr) (items2 : Array Value) (hs0 : ¬(!items.isEmpty && Builtin.List.listTooLong (items.size + items2.size)) = true) (hs1 : items.size ≤ sizeLine) (hs2 : items.size + items2.size ≤ sizeLine + 1) :
    Meets (Builtin.«list.extend» ⟨[.ref l, .ref b], []⟩) (fun _ R s => s.heap.get? l = some { cls := .type "list", dict := none, data := .seq items n, slots := #[] } ∧ IsTup s.heap b items2 ∧ R (.ok (.ret Value.none)) { s with heap := s.heap.update l (Obj.mapSeq fun x => x ++ items2), toks := s.toks }) :=
  .of_wp fun prog w A R s h => by
    obtain ⟨hl, ⟨o, ho, hc, n2, hd⟩, h⟩ := h
    show wpAny _ _ (Builtin.List.listExtendWith (.ref l) (.ref b) .none) _ _ s
    unfold Builtin.List.listExtendWith
    refine wpAny_bind (wpAny_typeOf ⟨o, ho, hc⟩ ?_)
    have h1 : (Builtin.List.listSameRef (.ref l) (.ref b) || Value.type "tuple" == Value.type "list" || Value.type "tuple" == Value.type "tuple") = true := by simp
    simp only [h1, if_true]
    refine wpAny_bind ?_
    unfold Builtin.List.listItems
    refine wpAny_bind (wpAny_seqItems ho hd (wpAny_pure ?_))
    refine wpAny_bind ?_
    refine wpAny_bind (wpAny_seqItems hl rfl (wpAny_pure ?_))
    rw [if_neg hs0]
    show wpAny _ A.in1 (updateSeq l (· ++ items2) >>= fun _ => ret Value.none) _ _ s
    refine wpAny_bind (wpAny_updateSeq hl rfl (hz := hs1) (_hz' := by rw [Array.size_append]; exact hs2) ?_)
    exact wpAny_pure ⟨_, rfl, h⟩
section
variable {X : Cx}
def rExtendT (K : PySem.W.Frag) : V → List V → Hp → VK → Prop := fun x vs H Q => ∃ l b xs zs, x = .ref l ∧ vs = [.ref b] ∧ H l = some (.lst xs) ∧ SqT K H b zs ∧ xs.length + zs.length ≤ sizeLine ∧ Q .non (upd H l (.lst (xs ++ zs)))
theorem mt_extendT : MtM X "list.extend" (rExtendT X.K) := by
  intro pins s σ H x vs v us Q I rx rv h
  obtain ⟨l, b, xs, zs, rfl, rfl, hH, hB, hz, q⟩ := h
  cases rx
  obtain ⟨u, rfl, ru⟩ := rv.one
  cases ru
  obtain ⟨z, its, n, r, hl, e⟩ := I.lstM hH
  obtain ⟨its2, r2, t2, z2⟩ := I.tuple hB
  have hl2 := r2.length
  have hsz : its.toArray.size + its2.toArray.size ≤ sizeLine := by rw [List.size_toArray, List.size_toArray]; omega
  have hlong : ¬ (!its.toArray.isEmpty && Builtin.List.listTooLong (its.toArray.size + its2.toArray.size)) = true := by
    rw [notLongL hsz, Bool.and_false]
    exact Bool.false_ne_true
  refine call_meets F.slot_list_extend ⟨_, e, rfl⟩ F.entry_list_extend (F.args_list_extend_2 _ _)
    (extend_tup l its.toArray n b its2.toArray hlong (by rw [List.size_toArray]; omega) (by omega)) ⟨e, t2, ?_⟩
  refine ⟨.non, _, I.lset (its' := its ++ its2) hH e (by simp) (r.append r2) ?_, rfl, q⟩
  rw [List.length_append]
  omega
end
end L2

namespace My
open PySem L2 PyProof.Rows
def top (i : Nat) : Stmt := PySem.Challenge.pw_evenkin_k14_whole_maps_of_trees.main.body.getD i (.Pass ⟨0, 0, 0, 0⟩)
abbrev sGd : Stmt := top 1
abbrev sFr : Stmt := top 2
abbrev sDot : Stmt := top 6
abbrev sSums : Stmt := top 7
abbrev sInner : Stmt := top 13
abbrev sFirst : Stmt := top 14
abbrev sAll : Stmt := top 15
abbrev sLowered : Stmt := top 16
abbrev sBothRow : Stmt := top 17
abbrev sPlusRow : Stmt := top 18
abbrev sManyRow : Stmt := top 19
abbrev sLeaf : Stmt := top 22
abbrev sFromOne : Stmt := top 23
abbrev sTwo : Stmt := top 24
abbrev sByKind : Stmt := top 25
abbrev sOver : Stmt := top 26
abbrev sTov : Stmt := top 27
abbrev sTot : Stmt := top 28
abbrev sTotalOf : Stmt := top 30
abbrev sTermOf : Stmt := top 32
abbrev sMapsTotal : Stmt := top 33
abbrev sCell : Stmt := top 35
abbrev sWhole : Stmt := top 36
abbrev sMix : Stmt := top 37
abbrev sBegun : Stmt := top 38
abbrev sTake : Stmt := top 39
abbrev sWeight : Stmt := top 40
abbrev sWeb : Stmt := top 41
abbrev sTree : Stmt := top 42
abbrev sKnotsL : Stmt := top 43
abbrev sCounted : Stmt := top 44
abbrev sMaps : Stmt := top 45
abbrev sLaw : Stmt := top 46

/-! THE DRAWS: _law_mix, _law_begun, _law_take, _law_weight -/
section
variable {P : Program} {w : World} {K : PySem.W.Frag} {mg : Str → Option Value} {base : Heap}
/-- a draw stands at p: three ints, the second at most n -/
def Drw (H : Hp) (p : Addr) (n : Nat) : Prop := ∃ a b c : Int, H p = some (.lst [.int a, .int b, .int c]) ∧ 0 ≤ b ∧ b ≤ (n : Int)
/-- all but p is as it was -/
def But (p : Addr) (H H' : Hp) : Prop := ∀ b o, b ≠ p → H b = some o → H' b = some o
theorem But.refl (p : Addr) (H : Hp) : But p H H := fun _ _ _ h => h
theorem But.trans {p : Addr} {H H1 H2 : Hp} (a : But p H H1) (b : But p H1 H2) : But p H H2 := fun c o n h => b c o n (a c o n h)
theorem But.upd {p : Addr} {H : Hp} {o : HO} : But p H (upd H p o) := fun b u n h => by rw [upd_ne n]; exact h
theorem But.new {p q : Addr} {H : Hp} {o : HO} (h : H q = none) : But p H (L2.upd H q o) := fun b u _ e => by rw [upd_ne (ne_of_none e h)]; exact e
theorem Drw.new {p q : Addr} {H : Hp} {o : HO} {n : Nat} (d : Drw H p n) (h : H q = none) : Drw (L2.upd H q o) p n := by
  obtain ⟨a, b, c, e, r⟩ := d
  exact ⟨a, b, c, by rw [upd_ne (ne_of_none e h)]; exact e, r⟩
theorem Drw.mono {p : Addr} {H : Hp} {n m : Nat} (d : Drw H p n) (h : n ≤ m) : Drw H p m := by
  obtain ⟨a, b, c, e, r1, r2⟩ := d
  exact ⟨a, b, c, e, r1, by omega⟩
def spMix : Sp := fun vs H Q _ => ∃ c k : Int, vs = [.int c, .int k] ∧ 0 ≤ k ∧ k < 2 ^ 40 ∧ ∀ r : Int, Q (.int r) H
def spBegun : Sp := fun vs H Q _ => ∃ c : Int, vs = [.int c] ∧ ∀ p H', H p = none → Same H H' → Drw H' p 1 → Q (.ref p) H'
def spTake : Sp := fun vs H Q _ => ∃ (p : Addr) (m : Int) (n : Nat), vs = [.ref p, .int m] ∧ 0 < m ∧ m < 1073741824 ∧ Drw H p n ∧ n ≤ 1000000 ∧ ∀ (r : Int) H', 0 ≤ r → r < m → But p H H' → Drw H' p (n + 2) → Q (.int r) H'
theorem cmul_l {x y : Int} (h1 : -(2 ^ 64) < x) (h2 : x < 2 ^ 64) : CMul x y := .inl ⟨h1, h2⟩
theorem cmul_r {x y : Int} (h1 : -(2 ^ 64) < y) (h2 : y < 2 ^ 64) : CMul x y := .inr ⟨h1, h2⟩
theorem scMix : FnScope ["_law_cell", "_law_k", "_law_x"] ["_law_cell", "_law_k"] (defScope sMix) := ⟨rfl, rfl, rfl, by decide +kernel, rfl, by decide +kernel, by decide +kernel⟩
theorem ok_mix {f : Addr} {fd : FuncData} (F : Fun K "_law_mix" "_law_mix" sMix f fd) : FnOk P w K mg base CX0 1 f fd ["_law_cell", "_law_k"] spMix := by
  refine F.ok scMix (fun vs H Q E h => ?_) (fun cdv A outer s H vs Q E hr h => ?_)
  · obtain ⟨a, b, rfl, _⟩ := h
    rfl
  · obtain ⟨c, k, rfl, h0, h1, q⟩ := h
    refine ⟨_, pss_cons (ps_set (i := 2) scMix.nd rfl (Or.inl rfl) (pe_op op_mod (pe_op op_add (pe_op op_mod (pv 0) pe_int) (pe_op op_mul pe_int (pv 1))) pe_int))
      (pss_cons (ps_set (i := 2) scMix.nd rfl (Or.inl rfl) (pe_op op_mod (pe_op op_add (pe_op op_add (pe_op op_add (pe_op op_mul (pv 2) (pv 2)) (pe_op op_mul pe_int (pv 2))) (pe_op op_mul (pe_op op_mul (pv 1) (pv 1)) (pv 1))) pe_int) pe_int))
      (pss_one (ps_ret (pe_op op_mod (pe_op op_mul (pv 2) (pv 2)) pe_int)))), ?_⟩
    refine ⟨_, rfl, _, _, rfl, rfl, (by show (0 : Int) < 2147483647; decide), _, rfl, _, _, rfl, rfl, cmul_l (by decide) (by decide), _, _, rfl, rfl, _, _, rfl, rfl, (by show (0 : Int) < 2147483629; decide), ?_⟩
    have b1 := Int.emod_nonneg (c % 2147483647 + 31 * k) (b := 2147483629) (by decide)
    have b2 := Int.emod_lt_of_pos (c % 2147483647 + 31 * k) (b := 2147483629) (by decide)
    generalize (c % 2147483647 + 31 * k) % 2147483629 = x at b1 b2 ⊢
    refine ⟨_, rfl, _, rfl, _, _, rfl, rfl, cmul_l (by omega) (by omega), _, rfl, _, _, rfl, rfl, cmul_l (by decide) (by decide), _, _, rfl, rfl, _, rfl, _, rfl, _, _, rfl, rfl, cmul_l (by omega) (by omega), _, rfl, _, _, rfl, rfl, cmul_r (by omega) (by omega), _, _, rfl, rfl, _, _, rfl, rfl, _, _, rfl, rfl, (by show (0 : Int) < 2147483629; decide), ?_⟩
    have c1 := Int.emod_nonneg (x * x + 16807 * x + k * k * k + 7) (b := 2147483629) (by decide)
    have c2 := Int.emod_lt_of_pos (x * x + 16807 * x + k * k * k + 7) (b := 2147483629) (by decide)
    generalize (x * x + 16807 * x + k * k * k + 7) % 2147483629 = y at c1 c2 ⊢
    refine ⟨_, rfl, _, rfl, _, _, rfl, rfl, cmul_l (by omega) (by omega), _, _, rfl, rfl, (by show (0 : Int) < 2147483587; decide), q _⟩
theorem scBegun : FnScope ["_law_cell"] ["_law_cell"] (defScope sBegun) := ⟨rfl, rfl, rfl, by decide +kernel, rfl, by decide +kernel, by decide +kernel⟩
theorem ok_begun {f : Addr} {fd : FuncData} (F : Fun K "_law_begun" "_law_begun" sBegun f fd) : FnOk P w K mg base CX0 1 f fd ["_law_cell"] spBegun := by
  refine F.ok scBegun (fun vs H Q E h => ?_) (fun cdv A outer s H vs Q E hr h => ?_)
  · obtain ⟨a, rfl, _⟩ := h
    rfl
  · obtain ⟨c, rfl, q⟩ := h
    refine ⟨_, pss_one (ps_ret (pe_lst (pa_cons (pe_op op_fdiv (pv 0) pe_int) (pa_cons (pe_op op_mod (pv 0) pe_int) (pa_cons (pv 0) pa_nil))))), ?_⟩
    refine ⟨_, rfl, _, _, rfl, rfl, ⟨by decide, by decide⟩, _, rfl, _, _, rfl, rfl, (by show (0 : Int) < 2; decide), _, rfl, (by show 3 ≤ sizeLine; decide), fun p hp => ?_⟩
    have b1 := Int.emod_nonneg c (b := 2) (by decide)
    have b2 := Int.emod_lt_of_pos c (b := 2) (by decide)
    exact q p _ hp (Same.upd hp) ⟨_, _, _, upd_same, b1, by omega⟩
theorem ix0 (a b c : V) : atI [a, b, c] 0 = some a := rfl
theorem ix1 (a b c : V) : atI [a, b, c] 1 = some b := rfl
theorem ix2 (a b c : V) : atI [a, b, c] 2 = some c := rfl
theorem scTake : FnScope ["_law_draw", "_law_most", "_law_found"] ["_law_draw", "_law_most"] (defScope sTake) := ⟨rfl, rfl, rfl, by decide +kernel, rfl, by decide +kernel, by decide +kernel⟩
theorem ok_take {f fM : Addr} {fd fdM : FuncData} (F : Fun K "_law_take" "_law_take" sTake f fd) (DM : Dn K mg "_law_mix" sMix ["_law_cell", "_law_k"] fM fdM) : FnOk P w K mg base CX0 2 f fd ["_law_draw", "_law_most"] spTake := by
  have GM : FnOk P w K mg base CX0 1 fM fdM ["_law_cell", "_law_k"] spMix := ok_mix DM.fn
  refine F.ok scTake (fun vs H Q E h => ?_) (fun cdv A outer s H vs Q E hr h => ?_)
  · obtain ⟨p, m, n, rfl, _⟩ := h
    rfl
  · obtain ⟨p, m, n, rfl, hm0, hm1, ⟨a, b, c, hp, hb0, hb1⟩, hn, q⟩ := h
    refine ⟨_, pss_cons (ps_if (PW.pt (pw_and (pt_cmpR op_eq (pe_ix ix_list (pv 0) pe_int (fun _ _ => rfl)) pe_int (nomark _)) (pw_and1 (pt_cmpR op_in_seq (pe_ix ix_list (pv 0) pe_int (fun _ _ => rfl)) (pe_lst (pa_cons pe_int (pa_cons (pe_un un_neg pe_int) pa_nil))) rfl))))
        (pss_cons (ps_asg pe_int (pg_sub (pv 0) pe_int set_list)) (pss_one (ps_asg (pe_ix ix_list (pv 0) pe_int (fun _ _ => rfl)) (pg_sub (pv 0) pe_int set_list)))) pss_nil)
      (pss_cons (ps_if (pt_cmpR op_eq (pe_ix ix_list (pv 0) pe_int (fun _ _ => rfl)) pe_int (nomark _))
        (pss_cons (ps_set (i := 2) scTake.nd rfl (Or.inl rfl) (pe_op op_mod (pe_ix ix_list (pv 0) pe_int (fun _ _ => rfl)) (pv 1)))
        (pss_cons (ps_asg (pe_op op_fdiv (pe_ix ix_list (pv 0) pe_int (fun _ _ => rfl)) (pv 1)) (pg_sub (pv 0) pe_int set_list))
        (pss_one (ps_ret (pv 2))))) pss_nil)
      (pss_cons (ps_asg (pe_op op_add (pe_ix ix_list (pv 0) pe_int (fun _ _ => rfl)) pe_int) (pg_sub (pv 0) pe_int set_list))
      (pss_one (ps_ret (pe_op op_mod (pe_fn DM GM hr rfl (pa_cons (pe_ix ix_list (pv 0) pe_int (fun _ _ => rfl)) (pa_cons (pe_ix ix_list (pv 0) pe_int (fun _ _ => rfl)) pa_nil))) (pv 1)))))), ?_⟩
    have hc0 : ∀ (H1 : Hp) (a1 b1 : Int), But p H H1 → H1 p = some (.lst [.int a1, .int b1, .int c]) → 0 ≤ b1 → b1 ≤ (n : Int) + 1 → b1 = 0 → ∀ z : Int, But p H (upd H1 p (.lst [.int z, .int b1, .int c])) ∧ Drw (upd H1 p (.lst [.int z, .int b1, .int c])) p (n + 2) := fun H1 a1 b1 hB h1 h2 h3 _ z =>
      ⟨hB.trans But.upd, z, b1, c, upd_same, h2, by omega⟩
    refine ⟨_, rfl, p, _, _, _, rfl, rfl, SqL.of hp, ix1 _ _ _, rfl, _, rfl, ?_⟩
    by_cases hb : b = 0
    · refine itDP (by rw [hb]) ?_
      refine ⟨_, rfl, p, _, _, _, rfl, rfl, SqL.of hp, ix0 _ _ _, 1, rfl, (by show 2 ≤ sizeLine; decide), fun l hl => ⟨l, _, rfl, .inl (SqL.of upd_same), rfl, rfl, _, rfl, ?_⟩⟩
      have npl : p ≠ l := ne_of_none hp hl
      have hp1 : upd H l (.lst [.int 0, .int (-1)]) p = some (.lst [.int a, .int b, .int c]) := by rw [upd_ne npl]; exact hp
      have hB1 : But p H (upd H l (.lst [.int 0, .int (-1)])) := But.new hl
      generalize upd H l (.lst [.int 0, .int (-1)]) = H1 at hp1 hB1 ⊢
      generalize inV (V.int a) [V.int 0, V.int (-1)] = t
      cases t with
      | true =>
        refine iteT ?_
        refine ⟨_, rfl, p, _, 1, 1, rfl, rfl, hp1, rfl, ?_⟩
        refine ⟨_, rfl, p, _, _, _, rfl, rfl, SqL.of upd_same, ix2 _ _ _, _, rfl, p, _, 0, 0, rfl, rfl, upd_same, rfl, ?_⟩
        rw [upd_upd]
        have hp2 : upd H1 p (.lst [.int c, .int 1, .int c]) p = some (.lst [.int c, .int 1, .int c]) := upd_same
        have hB2 : But p H (upd H1 p (.lst [.int c, .int 1, .int c])) := hB1.trans But.upd
        refine ⟨_, rfl, p, _, _, _, rfl, rfl, SqL.of hp2, ix1 _ _ _, rfl, _, rfl, ?_⟩
        refine itDN (by intro z; cases z) ?_
        refine ⟨_, rfl, p, _, _, _, rfl, rfl, SqL.of hp2, ix1 _ _ _, _, _, rfl, rfl, _, rfl, p, _, 1, 1, rfl, rfl, hp2, rfl, ?_⟩
        rw [upd_upd]
        refine ⟨_, rfl, p, _, _, _, rfl, rfl, SqL.of upd_same, ix0 _ _ _, _, rfl, p, _, _, _, rfl, rfl, SqL.of upd_same, ix1 _ _ _, _, _, rfl, (by decide), (by decide), fun r => ?_⟩
        refine ⟨_, rfl, _, _, rfl, rfl, hm0, ?_⟩
        exact q _ _ (Int.emod_nonneg _ (Int.ne_of_gt hm0)) (Int.emod_lt_of_pos _ hm0) (hB1.trans But.upd) ⟨c, 1 + 1, c, upd_same, by decide, by omega⟩
      | false =>
        refine iteF ?_
        refine ⟨_, rfl, p, _, _, _, rfl, rfl, SqL.of hp1, ix1 _ _ _, rfl, _, rfl, ?_⟩
        refine itDP (by rw [hb]) ?_
        refine ⟨_, rfl, p, _, _, _, rfl, rfl, SqL.of hp1, ix0 _ _ _, _, rfl, _, _, rfl, rfl, hm0, ?_⟩
        refine ⟨_, rfl, p, _, _, _, rfl, rfl, SqL.of hp1, ix0 _ _ _, _, rfl, _, _, rfl, rfl, ⟨hm0, hm1⟩, _, rfl, p, _, 0, 0, rfl, rfl, hp1, rfl, ?_⟩
        refine ⟨_, rfl, ?_⟩
        exact q _ _ (Int.emod_nonneg _ (Int.ne_of_gt hm0)) (Int.emod_lt_of_pos _ hm0) (hB1.trans But.upd) ⟨_, b, c, upd_same, hb0, by omega⟩
    · refine itDN (fun z => hb (V.int.inj z)) ?_
      refine iteF ?_
      refine ⟨_, rfl, p, _, _, _, rfl, rfl, SqL.of hp, ix1 _ _ _, rfl, _, rfl, ?_⟩
      refine itDN (fun z => hb (V.int.inj z)) ?_
      refine ⟨_, rfl, p, _, _, _, rfl, rfl, SqL.of hp, ix1 _ _ _, _, _, rfl, rfl, _, rfl, p, _, 1, 1, rfl, rfl, hp, rfl, ?_⟩
      refine ⟨_, rfl, p, _, _, _, rfl, rfl, SqL.of upd_same, ix0 _ _ _, _, rfl, p, _, _, _, rfl, rfl, SqL.of upd_same, ix1 _ _ _, _, _, rfl, (by omega), (by omega), fun r => ?_⟩
      refine ⟨_, rfl, _, _, rfl, rfl, hm0, ?_⟩
      exact q _ _ (Int.emod_nonneg _ (Int.ne_of_gt hm0)) (Int.emod_lt_of_pos _ hm0) But.upd ⟨a, b + 1, c, upd_same, by omega, by omega⟩
/-! ### a weight -/
def wMax : Nat := 10 ^ 60
def spWeight : Sp := fun vs H Q _ => ∃ (p : Addr) (y : Int) (n : Nat), vs = [.ref p, .int y] ∧ Drw H p n ∧ n ≤ 900000 ∧ ∀ (r : Int) H', r.natAbs ≤ wMax → But p H H' → Drw H' p (n + 2) → Q (.int r) H'
theorem p59 : (10 : Int) ^ (59 : Int).toNat = 100000000000000000000000000000000000000000000000000000000000 := by decide
theorem p60' : (10 : Int) ^ (60 : Int).toNat = 1000000000000000000000000000000000000000000000000000000000000 := by decide
theorem pow59 : CPow 10 59 := ⟨by decide, by decide, by decide⟩
theorem pow60 : CPow 10 60 := ⟨by decide, by decide, by decide⟩
theorem scWeight : FnScope ["_law_draw", "_law_way"] ["_law_draw", "_law_way"] (defScope sWeight) := ⟨rfl, rfl, rfl, by decide +kernel, rfl, by decide +kernel, by decide +kernel⟩
theorem ok_weight {f fT : Addr} {fd fdT : FuncData} (F : Fun K "_law_weight" "_law_weight" sWeight f fd) (DT : Dn K mg "_law_take" sTake ["_law_draw", "_law_most"] fT fdT) (GT : FnOk P w K mg base CX0 2 fT fdT ["_law_draw", "_law_most"] spTake) : FnOk P w K mg base CX0 3 f fd ["_law_draw", "_law_way"] spWeight := by
  refine F.ok scWeight (fun vs H Q E h => ?_) (fun cdv A outer s H vs Q E hr h => ?_)
  · obtain ⟨p, y, n, rfl, _⟩ := h
    rfl
  · obtain ⟨p, y, n, rfl, hd, hn, q⟩ := h
    refine ⟨_, pss_cons (ps_if (pt_cmpR op_eq (pv 1) pe_int (nomark _)) (pss_one (ps_ret (pe_fn DT GT hr rfl (pa_cons (pv 0) (pa_cons pe_int pa_nil))))) pss_nil)
      (pss_cons (ps_if (pt_cmpR op_eq (pv 1) pe_int (nomark _)) (pss_one (ps_ret (pe_op op_sub (pe_fn DT GT hr rfl (pa_cons (pv 0) (pa_cons pe_int pa_nil))) pe_int))) pss_nil)
      (pss_one (ps_ret (pe_ix ix_list (pe_lst (pa_cons pe_int (pa_cons pe_int (pa_cons (pe_un un_neg pe_int) (pa_cons pe_int (pa_cons (pe_op op_add (pe_op op_pow pe_int pe_int) pe_int) (pa_cons (pe_un un_neg (pe_op op_sub (pe_op op_pow pe_int pe_int) pe_int)) (pa_cons pe_int (pa_cons (pe_un un_neg pe_int) pa_nil)))))))))
        (pe_fn DT GT hr rfl (pa_cons (pv 0) (pa_cons pe_int pa_nil))) (fun _ _ => rfl))))), ?_⟩
    refine ⟨_, rfl, rfl, _, rfl, ?_⟩
    refine ite2 (fun _ => ?_) (fun _ => ?_)
    · exact ⟨_, rfl, p, 2, n, rfl, by decide, by decide, hd, by omega, fun r H' h0 h1 hB hD => q r H' (by unfold wMax; omega) hB hD⟩
    · refine ⟨_, rfl, rfl, _, rfl, ?_⟩
      refine ite2 (fun _ => ?_) (fun _ => ?_)
      · exact ⟨_, rfl, p, 5, n, rfl, by decide, by decide, hd, by omega, fun r H' h0 h1 hB hD => ⟨_, _, rfl, rfl, q _ H' (by unfold wMax; omega) hB hD⟩⟩
      · refine ⟨1, rfl, _, _, rfl, rfl, pow59, _, _, rfl, rfl, _, _, rfl, rfl, pow60, _, _, rfl, rfl, _, rfl, 3, rfl, (by show 8 ≤ sizeLine; decide), fun l hl => ?_⟩
        refine ⟨_, rfl, p, 8, n, rfl, by decide, by decide, hd.new hl, by omega, fun r H' h0 h1 hB hD => ?_⟩
        have hl' : H' l = some (.lst [.int 0, .int 1, .int (-1), .int 7, .int (10 ^ (59 : Int).toNat + 3), .int (-(10 ^ (60 : Int).toNat - 1)), .int 2, .int (-3)]) := hB l _ (by
          obtain ⟨a, b, c, e, _⟩ := hd
          exact (ne_of_none e hl).symm) upd_same
        obtain ⟨j, rfl⟩ := Int.eq_ofNat_of_zero_le h0
        have hj : j < 8 := by omega
        obtain ⟨v, hv, hw⟩ : ∃ v : Int, [V.int 0, .int 1, .int (-1), .int 7, .int (10 ^ (59 : Int).toNat + 3), .int (-(10 ^ (60 : Int).toNat - 1)), .int 2, .int (-3)][j]? = some (.int v) ∧ v.natAbs ≤ wMax := by
          rw [p59, p60']
          unfold wMax
          match j, hj with
          | 0, _ => exact ⟨_, rfl, by decide⟩
          | 1, _ => exact ⟨_, rfl, by decide⟩
          | 2, _ => exact ⟨_, rfl, by decide⟩
          | 3, _ => exact ⟨_, rfl, by decide⟩
          | 4, _ => exact ⟨_, rfl, by decide⟩
          | 5, _ => exact ⟨_, rfl, by decide⟩
          | 6, _ => exact ⟨_, rfl, by decide⟩
          | 7, _ => exact ⟨_, rfl, by decide⟩
        refine ⟨l, _, _, .int v, rfl, rfl, SqL.of hl', atI_nat hv, ?_⟩
        exact q v H' hw ((But.new hl).trans hB) hD
end

/-! THE WEB THAT IS DRAWN: _law_web -/
section
variable {P : Program} {w : World} {K : PySem.W.Frag} {mg : Str → Option Value} {base : Heap}
/-- lists of ints at the addresses rs -/
structure RowsAt (H : Hp) (rs : List Addr) (M : List (List Int)) : Prop where
  len : rs.length = M.length
  row : ∀ (i : Nat) (r : Addr) (x : List Int), rs[i]? = some r → M[i]? = some x → H r = some (.lst (x.map V.int))
  nd : rs.Nodup
def ent (M : List (List Int)) (i j : Nat) : Int := ((M[i]?.getD [])[j]?).getD 0
structure Sq (n : Nat) (M : List (List Int)) : Prop where
  len : M.length = n
  row : ∀ (i : Nat) (x : List Int), M[i]? = some x → x.length = n ∧ ∀ z ∈ x, z.natAbs ≤ wMax
  sym : ∀ i j : Nat, i < n → j < n → ent M i j = ent M j i
def put (M : List (List Int)) (i j : Nat) (z : Int) : List (List Int) := M.set i ((M[i]?.getD []).set j z)
theorem ent_put (M : List (List Int)) (n i j a b : Nat) (z : Int) (hl : M.length = n) (hr : ∀ (i : Nat) (x : List Int), M[i]? = some x → x.length = n) (hi : i < n) (hj : j < n) : ent (put M i j z) a b = if a = i ∧ b = j then z else ent M a b := by
  unfold ent put
  by_cases ha : a = i
  · subst ha
    rw [List.getElem?_set_self (by omega)]
    have hx : ∃ x, M[a]? = some x := ⟨M[a]'(by omega), by simp [hl, hi]⟩
    obtain ⟨x, hx⟩ := hx
    have lx := hr a x hx
    rw [hx]
    simp only [Option.getD_some]
    by_cases hb : b = j
    · subst hb
      rw [List.getElem?_set_self (by omega)]
      simp
    · rw [List.getElem?_set_ne (Ne.symm hb), if_neg (fun z => hb z.2)]
  · rw [List.getElem?_set_ne (Ne.symm ha), if_neg (fun z => ha z.1)]
theorem put_row {M : List (List Int)} {n i j : Nat} {z : Int} (hl : M.length = n) (hz : z.natAbs ≤ wMax) (hr : ∀ (i : Nat) (x : List Int), M[i]? = some x → x.length = n ∧ ∀ z ∈ x, z.natAbs ≤ wMax) :
    (put M i j z).length = n ∧ ∀ (k : Nat) (x : List Int), (put M i j z)[k]? = some x → x.length = n ∧ ∀ z ∈ x, z.natAbs ≤ wMax := by
  unfold put
  refine ⟨by rw [List.length_set]; exact hl, fun k x hx => ?_⟩
  by_cases hk : k = i
  · subst hk
    by_cases hlt : k < M.length
    · rw [List.getElem?_set_self hlt] at hx
      have hx := Option.some.inj hx
      have hy : M[k]? = some M[k] := by simp [hlt]
      have hh := hr k _ hy
      subst hx
      rw [hy]
      simp only [Option.getD_some, List.length_set]
      refine ⟨hh.1, fun y hy' => ?_⟩
      rcases List.mem_or_eq_of_mem_set hy' with q | q
      · exact hh.2 y q
      · rw [q]; exact hz
    · rw [List.getElem?_eq_none (by rw [List.length_set]; omega)] at hx
      cases hx
  · rw [List.getElem?_set_ne (Ne.symm hk)] at hx
    exact hr k x hx
theorem Sq.put {n : Nat} {M : List (List Int)} (S : Sq n M) {i j : Nat} {z : Int} (hi : i < n) (hj : j < n) (hz : z.natAbs ≤ wMax) : Sq n (put (put M i j z) j i z) := by
  obtain ⟨l1, r1⟩ := put_row (i := i) (j := j) S.len hz S.row
  obtain ⟨l2, r2⟩ := put_row (i := j) (j := i) l1 hz r1
  refine ⟨l2, r2, fun a b ha hb => ?_⟩
  have hr := fun (i : Nat) (x : List Int) h => (S.row i x h).1
  have hr1 := fun (k : Nat) (x : List Int) h => (r1 k x h).1
  rw [ent_put _ n j i a b z l1 hr1 hj hi, ent_put _ n j i b a z l1 hr1 hj hi, ent_put _ n i j a b z S.len hr hi hj, ent_put _ n i j b a z S.len hr hi hj]
  have := S.sym a b ha hb
  by_cases h1 : a = j ∧ b = i
  · rw [if_pos h1]
    by_cases h2 : b = j ∧ a = i
    · rw [if_pos h2]
    · rw [if_neg h2, if_pos ⟨h1.2, h1.1⟩]
  · rw [if_neg h1]
    by_cases h2 : a = i ∧ b = j
    · rw [if_pos h2, if_pos ⟨h2.2, h2.1⟩]
    · rw [if_neg h2, if_neg (fun q => h2 ⟨q.2, q.1⟩), if_neg (fun q => h1 ⟨q.2, q.1⟩)]
      exact this
theorem RowsAt.put {H : Hp} {rs : List Addr} {M : List (List Int)} (R : RowsAt H rs M) {i : Nat} {r : Addr} {x : List Int} {j : Nat} {z : Int} (hr : rs[i]? = some r) (hx : M[i]? = some x) :
    RowsAt (upd H r (.lst ((x.set j z).map V.int))) rs (put M i j z) := by
  unfold My.put
  refine ⟨by rw [List.length_set]; exact R.len, fun k r' x' h1 h2 => ?_, R.nd⟩
  by_cases hk : k = i
  · subst hk
    rw [hr] at h1; cases h1
    rw [List.getElem?_set_self (List.getElem?_eq_some_iff.mp hx).1, hx] at h2
    cases h2
    exact upd_same
  · rw [List.getElem?_set_ne (Ne.symm hk)] at h2
    have ne : r' ≠ r := fun e => by
      subst e
      obtain ⟨p1, q1⟩ := List.getElem?_eq_some_iff.mp h1
      obtain ⟨p2, q2⟩ := List.getElem?_eq_some_iff.mp hr
      exact hk ((List.getElem_inj R.nd).mp (q1.trans q2.symm))
    rw [upd_ne ne]
    exact R.row k r' x' h1 h2
theorem RowsAt.keep {H H' : Hp} {rs : List Addr} {M : List (List Int)} (R : RowsAt H rs M) (k : ∀ r ∈ rs, ∀ o, H r = some o → H' r = some o) : RowsAt H' rs M :=
  ⟨R.len, fun i r x h1 h2 => k r (List.mem_of_getElem? h1) _ (R.row i r x h1 h2), R.nd⟩
theorem But.updN {d a : Addr} {H H' : Hp} {o : HO} (c : But d H H') (h : H a = none) : But d H (L2.upd H' a o) := fun b u n e => by
  rw [upd_ne (ne_of_none e h)]
  exact c b u n e
theorem Drw.updN {d a : Addr} {H : Hp} {o : HO} {n : Nat} (D : Drw H d n) (h : a ≠ d) : Drw (L2.upd H a o) d n := by
  obtain ⟨x, y, z, e, r⟩ := D
  exact ⟨x, y, z, by rw [upd_ne h.symm]; exact e, r⟩
theorem RowsAt.snoc {H H' : Hp} {rs : List Addr} {M : List (List Int)} {l : Addr} {x : List Int} (R : RowsAt H rs M) (k : ∀ r ∈ rs, ∀ o, H r = some o → H' r = some o) (hl : H' l = some (.lst (x.map V.int))) (hn : l ∉ rs) : RowsAt H' (rs ++ [l]) (M ++ [x]) := by
  refine ⟨by rw [List.length_append, List.length_append, R.len]; rfl, fun i r y h1 h2 => ?_, ?_⟩
  · by_cases hi : i < rs.length
    · rw [List.getElem?_append_left hi] at h1
      rw [List.getElem?_append_left (by rw [← R.len]; exact hi)] at h2
      exact k r (List.mem_of_getElem? h1) _ (R.row i r y h1 h2)
    · rw [List.getElem?_append_right (by omega)] at h1
      rw [List.getElem?_append_right (by rw [← R.len]; omega), ← R.len] at h2
      cases e : i - rs.length with
      | zero => rw [e] at h1 h2; cases h1; cases h2; exact hl
      | succ j => rw [e] at h1; cases h1
  · rw [List.nodup_append]
    refine ⟨R.nd, by simp, fun a ha b hb e => ?_⟩
    rw [List.mem_singleton.mp hb] at e
    exact hn (e ▸ ha)
theorem RowsAt.get {H : Hp} {rs : List Addr} {M : List (List Int)} (R : RowsAt H rs M) {i : Nat} (h : i < rs.length) : ∃ r x, rs[i]? = some r ∧ M[i]? = some x ∧ H r = some (.lst (x.map V.int)) := by
  have h1 : rs[i]? = some rs[i] := by simp [h]
  have h' : i < M.length := by rw [← R.len]; exact h
  have h2 : M[i]? = some M[i] := by simp [h']
  exact ⟨_, _, h1, h2, R.row i _ _ h1 h2⟩
theorem ixN_nat {n j : Nat} (h : j < n) : ixN n (j : Int) = some j := by
  unfold ixN
  rw [if_pos (by omega), if_pos (by omega)]
  simp
/-- a web of n places at p -/
structure WebAt (H : Hp) (p hA rA : Addr) (rs : List Addr) (n : Nat) (hs : List Int) (M : List (List Int)) : Prop where
  tup : H p = some (.tup [.ref hA, .ref rA])
  hue : H hA = some (.lst (hs.map V.int))
  rws : H rA = some (.lst (rs.map V.ref))
  row : RowsAt H rs M
  len : hs.length = n
  pos : ∀ z ∈ hs, 0 ≤ z ∧ z.natAbs ≤ wMax
  sq : Sq n M
def spWeb : Sp := fun vs H Q _ => ∃ (d : Addr) (m : Int) (n : Nat), vs = [.ref d, .int m] ∧ 0 ≤ m ∧ m ≤ 8 ∧ Drw H d n ∧ n ≤ 800000 ∧
  ∀ (H' : Hp) (p hA rA : Addr) (rs : List Addr) (k : Nat) (hs : List Int) (M : List (List Int)), (k : Int) ≤ m → But d H H' → Drw H' d (n + 200) → WebAt H' p hA rA rs k hs M → (∀ a ∈ p :: hA :: rA :: rs, H a = none ∧ a ≠ d) → hA ≠ rA → hA ∉ rs → rA ∉ rs → Q (.ref p) H'

/-! ### the text's parts -/
def bodyAt (s : Stmt) (i : Nat) : Stmt := (defBody s).getD i (.Pass ⟨0, 0, 0, 0⟩)
def asgVal (s : Stmt) : Expr := match s with
  | .Assign _ v _ => v
  | .Return (some v) _ => v
  | _ => .Constant .none 0 ⟨0, 0, 0, 0⟩
def lcScope (e : Expr) : Scope := match e with
  | .ListComp _ _ sc _ => sc
  | _ => { kind := .function, names := [], isGenerator := false, isCoroutine := false }
structure BltW (mg : Str → Option Value) : Prop where
  range : mg "range" = none
  int : mg "int" = none
abbrev nWeb : List Str := ["_law_draw", "_law_most", "_law_many", "_law_way", "_law_hues", "_law_u", "_law_rows", "_law_v", "_law_weight_here"]
theorem scWeb : FnScope nWeb ["_law_draw", "_law_most"] (defScope sWeb) := ⟨rfl, rfl, rfl, by decide +kernel, rfl, by decide +kernel, by decide +kernel⟩
theorem lcWeb : LcScopes (defScope sWeb) nWeb (lcScope (asgVal (bodyAt sWeb 4))) ["_law_u"] := ⟨by decide +kernel, rfl, by decide +kernel, by decide +kernel, by decide +kernel, by decide +kernel, by decide +kernel, by decide +kernel, by decide +kernel, by decide +kernel⟩
theorem zeros_map (k : Nat) : (List.replicate k [V.int 0]).flatten = (List.replicate k (0 : Int)).map V.int := by
  induction k with
  | zero => rfl
  | succ k ih => rw [List.replicate_succ, List.flatten_cons, ih, List.replicate_succ, List.map_cons]; rfl
theorem sq_zero (n : Nat) : Sq n (List.replicate n (List.replicate n 0)) := by
  refine ⟨List.length_replicate, fun i x hx => ?_, fun i j hi hj => ?_⟩
  · rw [List.getElem?_replicate] at hx
    split at hx
    · cases hx
      refine ⟨List.length_replicate, fun z hz => ?_⟩
      rw [List.eq_of_mem_replicate hz]
      exact Nat.zero_le _
    · cases hx
  · unfold ent
    rw [List.getElem?_replicate, List.getElem?_replicate, if_pos hi, if_pos hj]
    simp only [Option.getD_some, List.getElem?_replicate, if_pos hi, if_pos hj]
theorem hues4 (r : Nat) (h : r < 4) : ∃ v : Int, [V.int 0, .int 1, .int 7, .int (10 ^ (60 : Int).toNat - 1)][r]? = some (.int v) ∧ 0 ≤ v ∧ v.natAbs ≤ wMax := by
  rw [p60']
  unfold wMax
  match r, h with
  | 0, _ => exact ⟨_, rfl, by decide, by decide⟩
  | 1, _ => exact ⟨_, rfl, by decide, by decide⟩
  | 2, _ => exact ⟨_, rfl, by decide, by decide⟩
  | 3, _ => exact ⟨_, rfl, by decide, by decide⟩
theorem ok_web {f fT fW : Addr} {fd fdT fdW : FuncData} (B : BltW mg) (F : Fun K "_law_web" "_law_web" sWeb f fd) (DT : Dn K mg "_law_take" sTake ["_law_draw", "_law_most"] fT fdT) (GT : FnOk P w K mg base CX0 2 fT fdT ["_law_draw", "_law_most"] spTake)
    (DW : Dn K mg "_law_weight" sWeight ["_law_draw", "_law_way"] fW fdW) (GW : FnOk P w K mg base CX0 3 fW fdW ["_law_draw", "_law_way"] spWeight) : FnOk P w K mg base CX0 4 f fd ["_law_draw", "_law_most"] spWeb := by
  refine F.ok scWeb (fun vs H Q E h => ?_) (fun cdv A outer s H vs Q E hr h => ?_)
  · obtain ⟨d, m, n, rfl, _⟩ := h
    rfl
  · obtain ⟨d, m, n, rfl, hm0, hm1, hd, hn, q⟩ := h
    refine ⟨_, pss_cons (ps_set (i := 2) scWeb.nd rfl (Or.inr rfl) (pe_fn DT GT (hr.mono (by decide)) rfl (pa_cons (pv 0) (pa_cons (pe_op op_add (pv 1) pe_int) pa_nil))))
      (pss_cons (ps_set (i := 3) scWeb.nd rfl (Or.inl rfl) (pe_fn DT GT (hr.mono (by decide)) rfl (pa_cons (pv 0) (pa_cons pe_int pa_nil))))
      (pss_cons (ps_set (i := 4) scWeb.nd rfl (Or.inl rfl) (pe_lst pa_nil))
      (pss_cons (ps_for PassesOwn.never rfl (pi_range1 rfl B.range (pa_cons (pv 2) pa_nil)) (pg_name (i := 5) scWeb.nd rfl (Or.inl rfl))
        (pss_one (ps_expr (pe_bm PySem.F.plainAttrs_list PySem.F.slot_list_append PySem.F.type_list_append mt_append (pv 4) (pa_cons (pe_ix ix_list (pe_lst (pa_cons pe_int (pa_cons pe_int (pa_cons pe_int (pa_cons (pe_op op_sub (pe_op op_pow pe_int pe_int) pe_int) pa_nil)))))
          (pe_fn DT GT (hr.mono (by decide)) rfl (pa_cons (pv 0) (pa_cons (pe_op op_add pe_int (pe_op op_mul pe_int (pe_callTy call_int1 (by rfl) B.int boot_int (pa_cons (pe_cmpR op_eq (pv 3) pe_int (nomark _)) pa_nil)))) pa_nil))) (fun _ _ => rfl)) pa_nil)))))
      (pss_cons (ps_setLc1 (i := 6) scWeb.nd rfl (Or.inl rfl) rfl lcWeb rfl (pi_range1 rfl B.range (pa_cons (pv 2) pa_nil)) (fun _ _ _ => pe_op op_rep (pe_lst (pa_cons pe_int pa_nil)) (pv 2)))
      (pss_cons (ps_for PassesOwn.never rfl (pi_range1 rfl B.range (pa_cons (pv 2) pa_nil)) (pg_name (i := 5) scWeb.nd rfl (Or.inl rfl))
        (pss_one (ps_for PassesOwn.never rfl (pi_range1 rfl B.range (pa_cons (pe_op op_add (pv 5) pe_int) pa_nil)) (pg_name (i := 7) scWeb.nd rfl (Or.inl rfl))
          (pss_cons (ps_set (i := 8) scWeb.nd rfl (Or.inl rfl) (pe_fn DW GW hr rfl (pa_cons (pv 0) (pa_cons (pv 3) pa_nil))))
          (pss_cons (ps_asg (pv 8) (pg_sub (pe_ix ix_list (pv 6) (pv 5) (fun _ _ => rfl)) (pv 7) set_list))
          (pss_one (ps_asg (pv 8) (pg_sub (pe_ix ix_list (pv 6) (pv 7) (fun _ _ => rfl)) (pv 5) set_list))))))))
      (pss_one (ps_ret (pe_tup (pa_cons (pv 4) (pa_cons (pv 6) pa_nil)))))))))), ?_⟩
    refine ⟨_, rfl, _, rfl, _, _, rfl, rfl, d, m + 1, n, rfl, by omega, by omega, hd, by omega, fun k H1 k0 k1 hB1 hD1 => ?_⟩
    refine ⟨_, rfl, d, 3, n + 2, rfl, by decide, by decide, hD1, by omega, fun y H2 y0 y1 hB2 hD2 => ?_⟩
    obtain ⟨k, rfl⟩ := Int.eq_ofNat_of_zero_le k0
    have hk : (k : Int) ≤ m := by omega
    refine ⟨Nat.zero_le _, fun hA hhA => ?_⟩
    have c2 := hB1.trans hB2
    have nd1 : ∀ {a : Addr} {Hx : Hp} {j : Nat}, Drw Hx d j → Hx a = none → a ≠ d := fun {a Hx j} D h e => by
      obtain ⟨_, _, _, e', _⟩ := D
      rw [e, e'] at h
      cases h
    have old : ∀ {a : Addr} {Hx : Hp}, But d H Hx → a ≠ d → Hx a = none → H a = none := fun {a Hx} hB hne h => by
      cases e : H a with
      | none => rfl
      | some o => rw [hB a o hne e] at h; cases h
    have hAd := nd1 hD2 hhA
    have hA0 := old c2 hAd hhA
    refine ⟨_, rfl, (k : Int), rfl, by omega, by omega, for_range (n := k) (fun i σ H' => ∃ (o5 : Option V) (hs : List Int), σ = [some (.ref d), some (.int m), some (.int (k : Int)), some (.int y), some (.ref hA), o5, none, none, none] ∧ But d H H' ∧ Drw H' d (n + 4 + 2 * i) ∧
      H' hA = some (.lst (hs.map V.int)) ∧ hs.length = i ∧ ∀ z ∈ hs, 0 ≤ z ∧ z.natAbs ≤ wMax) ⟨none, [], rfl, c2.trans (But.new hhA), hD2.new hhA, upd_same, rfl, fun z hz => by cases hz⟩ ?_ ?_⟩
    · rintro i σ H3 hi ⟨o5, hs, rfl, c3, hD3, e3, l3, p3⟩
      refine ⟨_, rfl, .inl ⟨rfl, _, SqL.of e3⟩, _, _, rfl, rfl, pow60, _, _, rfl, rfl, (by show 4 ≤ sizeLine; decide), fun l hl => ?_⟩
      have nld := nd1 hD3 hl
      have nlA : hA ≠ l := ne_of_none e3 hl
      refine ⟨_, rfl, _, rfl, rfl, .inr ⟨_, rfl, _, _, rfl, rfl, cmul_l (by decide) (by decide), _, _, rfl, rfl, d, _, n + 4 + 2 * i, rfl, by split <;> decide, by split <;> decide, hD3.new hl, by omega, fun r H4 r0 r1 hB4 hD4 => ?_⟩⟩
      obtain ⟨r, rfl⟩ := Int.eq_ofNat_of_zero_le r0
      have hr4 : r < 4 := by
        have : (r : Int) < 4 := Int.lt_of_lt_of_le r1 (by split <;> decide)
        omega
      obtain ⟨v, hv, v0, v1⟩ := hues4 r hr4
      have el : H4 l = some (.lst [V.int 0, .int 1, .int 7, .int (10 ^ (60 : Int).toNat - 1)]) := hB4 l _ nld upd_same
      have eA : H4 hA = some (.lst (hs.map V.int)) := hB4 hA _ hAd (by rw [upd_ne nlA]; exact e3)
      refine ⟨l, _, _, .int v, rfl, rfl, SqL.of el, atI_nat hv, ?_⟩
      refine ⟨hA, _, _, rfl, rfl, eA, small1000 (by rw [List.length_map]; omega), ?_⟩
      refine ⟨_, hs ++ [v], rfl, (c3.trans ((But.new hl).trans hB4)).updN hA0, (hD4.mono (by omega)).updN hAd, by rw [List.map_append]; exact upd_same, by rw [List.length_append, l3]; rfl, fun z hz => ?_⟩
      rcases List.mem_append.mp hz with z1 | z1
      · exact p3 z z1
      · rw [List.mem_singleton.mp z1]; exact ⟨v0, v1⟩
    · rintro σ H3 ⟨o5, hs, rfl, c3, hD3, e3, l3, p3⟩
      -- the rows
      refine ⟨_, rfl, (k : Int), rfl, by omega, by omega, fun D hDn => ?_⟩
      have hDd := nd1 hD3 hDn
      have hD0 := old c3 hDd hDn
      have nDA : hA ≠ D := ne_of_none e3 hDn
      refine ⟨fun i mm ys H' => mm = k - i ∧ i ≤ k ∧ ∃ rs : List Addr, ys = rs.map V.ref ∧ rs.length = i ∧ But d H H' ∧ Drw H' d (n + 4 + 2 * k) ∧ H' hA = some (.lst (hs.map V.int)) ∧ H' D = some (.lst ys) ∧
        RowsAt H' rs (List.replicate i (List.replicate k 0)) ∧ ∀ r ∈ rs, H r = none ∧ r ≠ d ∧ r ≠ hA ∧ r ≠ D, ⟨k, by simp, Nat.zero_le _, [], rfl, rfl, c3.updN hD0, hD3.updN hDd, by rw [upd_ne nDA]; exact e3, upd_same, ⟨rfl, (fun i r x h _ => by cases h), List.nodup_nil⟩, (fun r hr => by cases hr)⟩, ?_⟩
      rintro i mm ys H4 ⟨rfl, hi, rs, rfl, l4, c4, hD4, e4, eD, R4, o4⟩
      refine ⟨eD, ?_⟩
      by_cases hlt : i < k
      · refine .inr ⟨hlt, ?_⟩
        rintro z H5 ⟨eH, rfl⟩
        have eH := eH.symm
        subst eH
        refine ⟨(by show 1 ≤ sizeLine; decide), fun l1 hl1 => ?_⟩
        refine ⟨_, rfl, l1, (k : Int), _, rfl, rfl, upd_same, by omega, by omega, Nat.le_of_lt (small1000 (by show 1 * (k : Int).toNat ≤ 1000; omega)), fun l2 hl2 => ?_⟩
        have n21 : l2 ≠ l1 := (ne_of_none upd_same hl2).symm
        have hl2' : H4 l2 = none := by rw [upd_ne n21] at hl2; exact hl2
        have sm : Same H4 (upd (upd H4 l1 (.lst [.int 0])) l2 (.lst (List.replicate (k : Int).toNat [V.int 0]).flatten)) := (Same.upd hl1).trans (Same.upd hl2)
        have el : upd (upd H4 l1 (.lst [.int 0])) l2 (.lst (List.replicate (k : Int).toNat [V.int 0]).flatten) l2 = some (.lst ((List.replicate k (0 : Int)).map V.int)) := by
          rw [upd_same, Int.toNat_natCast, zeros_map]
        have cx : But d H (upd (upd H4 l1 (.lst [.int 0])) l2 (.lst (List.replicate (k : Int).toNat [V.int 0]).flatten)) := fun b o nb e => sm b o (c4 b o nb e)
        have dx : Drw (upd (upd H4 l1 (.lst [.int 0])) l2 (.lst (List.replicate (k : Int).toNat [V.int 0]).flatten)) d (n + 4 + 2 * k) := (hD4.new hl1).new hl2
        generalize upd (upd H4 l1 (.lst [.int 0])) l2 (.lst (List.replicate (k : Int).toNat [V.int 0]).flatten) = H5 at sm el cx dx ⊢
        have l2d : l2 ≠ d := nd1 hD4 hl2'
        have l2A : l2 ≠ hA := (ne_of_none e4 hl2').symm
        have l2D : l2 ≠ D := (ne_of_none eD hl2').symm
        have l2r : l2 ∉ rs := fun hm => by
          obtain ⟨j, hj, e⟩ := List.getElem_of_mem hm
          obtain ⟨r, x, g1, g2, g3⟩ := R4.get hj
          have : rs[j]? = some l2 := by rw [List.getElem?_eq_getElem hj, e]
          rw [g1] at this
          cases this
          rw [g3] at hl2'
          cases hl2'
        refine ⟨sm _ _ eD, small1000 (by rw [List.length_map]; omega), k - (i + 1), by omega, rfl, hlt, rs ++ [l2], by rw [List.map_append]; rfl, by rw [List.length_append, l4]; rfl, cx.updN hD0, dx.updN hDd, by rw [upd_ne nDA]; exact sm _ _ e4, upd_same, ?_, ?_⟩
        · have R5 : RowsAt H5 (rs ++ [l2]) (List.replicate i (List.replicate k 0) ++ [List.replicate k 0]) := R4.snoc (fun r _ o e => sm r o e) el l2r
          rw [← List.replicate_succ'] at R5
          refine R5.keep fun r hr o e => ?_
          have : r ≠ D := by
            rcases List.mem_append.mp hr with z | z
            · exact (o4 r z).2.2.2
            · rw [List.mem_singleton.mp z]; exact l2D
          rw [upd_ne this]
          exact e
        · intro r hr
          rcases List.mem_append.mp hr with z | z
          · exact o4 r z
          · rw [List.mem_singleton.mp z]
            exact ⟨old c4 l2d hl2', l2d, l2A, l2D⟩
      · have : i = k := by omega
        subst this
        refine .inl ⟨Nat.le_refl _, ?_⟩
        -- the weights
        refine ⟨_, rfl, (i : Int), rfl, by omega, by omega, for_range (n := i) (fun u σ H' => ∃ (o5 o7 o8 : Option V) (M : List (List Int)), σ = [some (.ref d), some (.int m), some (.int (i : Int)), some (.int y), some (.ref hA), o5, some (.ref D), o7, o8] ∧ But d H H' ∧ Drw H' d (n + 4 + 2 * i + 18 * u) ∧
          H' hA = some (.lst (hs.map V.int)) ∧ H' D = some (.lst (rs.map V.ref)) ∧ RowsAt H' rs M ∧ Sq i M) ⟨_, _, _, _, rfl, c4, hD4, e4, eD, R4, sq_zero i⟩ ?_ ?_⟩
        · rintro u σ H5 hu ⟨o5, o7, o8, M, rfl, c5, hD5, e5, eD5, R5, S5⟩
          refine ⟨_, rfl, _, _, rfl, rfl, (0 + (u : Nat) : Int) + 1, rfl, by omega, by omega, ?_⟩
          have eu : ((0 + (u : Nat) : Int) + 1).toNat = u + 1 := by omega
          rw [eu]
          refine for_range (n := u + 1) (fun v σ H' => ∃ (o7 o8 : Option V) (M : List (List Int)), σ = [some (.ref d), some (.int m), some (.int (i : Int)), some (.int y), some (.ref hA), some (.int (0 + (u : Nat))), some (.ref D), o7, o8] ∧ But d H H' ∧ Drw H' d (n + 4 + 2 * i + 18 * u + 2 * v) ∧
            H' hA = some (.lst (hs.map V.int)) ∧ H' D = some (.lst (rs.map V.ref)) ∧ RowsAt H' rs M ∧ Sq i M) ⟨_, _, M, rfl, c5, hD5, e5, eD5, R5, S5⟩ ?_ ?_
          · rintro v σ H6 hv ⟨o7, o8, M, rfl, c6, hD6, e6, eD6, R6, S6⟩
            refine ⟨_, rfl, _, rfl, d, y, _, rfl, hD6, by omega, fun z H7 hz hB7 hD7 => ?_⟩
            have c7 := c6.trans hB7
            have e7 := hB7 hA _ hAd e6
            have eD7 := hB7 D _ hDd eD6
            have R7 : RowsAt H7 rs M := R6.keep fun r hr o e => hB7 r o (o4 r hr).2.1 e
            obtain ⟨ru, xu, g1, g2, g3⟩ := R7.get (i := u) (by omega)
            have hru := o4 ru (List.mem_of_getElem? g1)
            have lxu := (S6.row u xu g2).1
            have a1 : atI (rs.map V.ref) (0 + (u : Nat) : Int) = some (.ref ru) := by rw [Int.zero_add]; exact atI_nat (by rw [List.getElem?_map, g1]; rfl)
            refine ⟨_, rfl, _, rfl, _, rfl, D, _, _, _, rfl, rfl, SqL.of eD7, a1, _, rfl, ru, _, _, v, rfl, rfl, g3, by rw [Int.zero_add, List.length_map]; exact ixN_nat (by omega), ?_⟩
            rw [← List.map_set]
            have R8 := R7.put (j := v) (z := z) g1 g2
            have c8 : But d H (upd H7 ru (.lst ((xu.set v z).map V.int))) := c7.updN hru.1
            have hD8 : Drw (upd H7 ru (.lst ((xu.set v z).map V.int))) d _ := hD7.updN hru.2.1
            have e8 : upd H7 ru (.lst ((xu.set v z).map V.int)) hA = _ := (upd_ne hru.2.2.1.symm).trans e7
            have eD8 : upd H7 ru (.lst ((xu.set v z).map V.int)) D = _ := (upd_ne hru.2.2.2.symm).trans eD7
            generalize upd H7 ru (.lst ((xu.set v z).map V.int)) = H8 at R8 c8 hD8 e8 eD8 ⊢
            obtain ⟨rv, xv, k1, k2, k3⟩ := R8.get (i := v) (by omega)
            have hrv := o4 rv (List.mem_of_getElem? k1)
            have lxv := ((put_row (i := u) (j := v) S6.len hz S6.row).2 v xv k2).1
            have a2 : atI (rs.map V.ref) (0 + (v : Nat) : Int) = some (.ref rv) := by rw [Int.zero_add]; exact atI_nat (by rw [List.getElem?_map, k1]; rfl)
            refine ⟨_, rfl, _, rfl, _, rfl, D, _, _, _, rfl, rfl, SqL.of eD8, a2, _, rfl, rv, _, _, u, rfl, rfl, k3, by rw [Int.zero_add, List.length_map]; exact ixN_nat (by omega), ?_⟩
            rw [← List.map_set]
            exact ⟨_, _, _, rfl, c8.updN hrv.1, (hD8.mono (by omega)).updN hrv.2.1, (upd_ne hrv.2.2.1.symm).trans e8, (upd_ne hrv.2.2.2.symm).trans eD8, R8.put (j := u) (z := z) k1 k2, S6.put (by omega) (by omega) hz⟩
          · rintro σ H6 ⟨o7, o8, M, rfl, c6, hD6, e6, eD6, R6, S6⟩
            exact ⟨_, _, _, M, rfl, c6, hD6.mono (by omega), e6, eD6, R6, S6⟩
        · rintro σ H5 ⟨o5, o7, o8, M, rfl, c5, hD5, e5, eD5, R5, S5⟩
          refine ⟨_, rfl, _, rfl, (by show 2 ≤ sizeLine; decide), fun p hp => ?_⟩
          have npd := nd1 hD5 hp
          have np := fun {a : Addr} {o : HO} (e : H5 a = some o) => ne_of_none e hp
          have R6 : RowsAt (upd H5 p (.tup [.ref hA, .ref D])) rs M := R5.keep fun r hr o e => by rw [upd_ne (np e)]; exact e
          refine q _ p hA D rs i hs M hk (c5.trans (But.new hp)) ((hD5.new hp).mono (by omega)) ⟨upd_same, by rw [upd_ne (np e5)]; exact e5, by rw [upd_ne (np eD5)]; exact eD5, R6, l3, p3, S5⟩ ?_ nDA (fun z => (o4 _ z).2.2.1 rfl) (fun z => (o4 _ z).2.2.2 rfl)
          intro a ha
          rcases List.mem_cons.mp ha with rfl | ha
          · exact ⟨old c5 npd hp, npd⟩
          · rcases List.mem_cons.mp ha with rfl | ha
            · exact ⟨hA0, hAd⟩
            · rcases List.mem_cons.mp ha with rfl | ha
              · exact ⟨hD0, hDd⟩
              · exact ⟨(o4 a ha).1, (o4 a ha).2.1⟩
end

/-! common to the laws of webs: lists of ints as data, webs that are read, comprehensions whose items are new rows -/
section
variable {P : Program} {w : World} {K : PySem.W.Frag} {mg : Str → Option Value} {base : Heap}
structure BltO (mg : Str → Option Value) : Prop where
  range : mg "range" = none
  list : mg "list" = none
  len : mg "len" = none
  max : mg "max" = none
  min : mg "min" = none
  sorted : mg "sorted" = none
  isi : mg "isinstance" = none
  tuple : mg "tuple" = none
  verr : mg "ValueError" = none
/-! ### lists of ints as data -/
def dI (ns : List Int) : PyData := .list (ns.map .int)
/-- a web that is read -/
structure WR (H : Hp) (p : Addr) (hs : List Int) (M : List (List Int)) : Prop where
  ex : ∃ hA rA rs, H p = some (.tup [.ref hA, .ref rA]) ∧ H hA = some (.lst (hs.map V.int)) ∧ H rA = some (.lst (rs.map V.ref)) ∧ RowsAt H rs M
theorem WR.mono {H H' : Hp} {p : Addr} {hs : List Int} {M : List (List Int)} (W : WR H p hs M) (e : Same H H') : WR H' p hs M := by
  obtain ⟨hA, rA, rs, h1, h2, h3, R⟩ := W.ex
  exact ⟨hA, rA, rs, e _ _ h1, e _ _ h2, e _ _ h3, R.keep fun r _ o z => e r o z⟩
theorem ix_tupK {K : PySem.W.Frag} {X : Cx} (h : X.K = K := by rfl) : IxR X (rIxT K) := by subst h; exact ix_tup
theorem take_snoc {α : Type} {xs : List α} {i : Nat} {x : α} (h : xs[i]? = some x) : xs.take (i + 1) = xs.take i ++ [x] := by
  rw [List.take_succ, h]
  rfl
def tupAt (e : Expr) (i : Nat) : Expr := match e with
  | .Tuple es _ _ => es.getD i (.Constant .none 0 ⟨0, 0, 0, 0⟩)
  | _ => .Constant .none 0 ⟨0, 0, 0, 0⟩
theorem at_ref {rs : List Addr} {j : Nat} {r : Addr} (h : rs[j]? = some r) : atI (rs.map V.ref) (j : Int) = some (.ref r) := atI_nat (by rw [List.getElem?_map, h]; rfl)
theorem Same.sq {H H' : Hp} {a : Addr} {xs : List V} (e : Same H H') (h : SqL K H a xs) : SqL K H' a xs := (Same.keep (ok := any) e).seq trivial h
theorem map_get {α β : Type} {f : α → β} {xs : List α} {i : Nat} {y : β} (h : (xs.map f)[i]? = some y) : ∃ x, xs[i]? = some x ∧ y = f x := by
  rw [List.getElem?_map] at h
  obtain ⟨x, h1, h2⟩ := Option.map_eq_some_iff.mp h
  exact ⟨x, h1, h2.symm⟩
def rLO (K : PySem.W.Frag) : List V → Hp → VK → Prop := fun xs H Q => ∃ p ys, xs = [.ref p] ∧ (SqL K H p ys ∨ SqT K H p ys) ∧ ∀ l, H l = none → Q (.ref l) (upd H l (.lst ys))
/-! ### webs as data -/
def dW (hs : List Int) (M : List (List Int)) : PyData := .tuple [dI hs, .list (M.map dI)]
end

/-! THE PROGRAM'S ROWS: divisors, terms taken apart -/
section
variable {P : Program} {w : World} {K : PySem.W.Frag} {mg : Str → Option Value} {base : Heap}
structure BltR (mg : Str → Option Value) : Prop where
  abs : mg "abs" = none
  len : mg "len" = none
  sum : mg "sum" = none
  zip : mg "zip" = none
def CMulN (i j : Int) : Prop := ∃ n, n ≤ 1000000 ∧ M11.Bn n i ∧ M11.Bn n j
theorem op_mulN {X : Cx} : OpR X (binaryOp .Mult) (rI CMulN fun i j => .int (i * j)) :=
  opI fun _ _ _ _ _ _ _ hc q => mul_int q (by
    obtain ⟨n, h, a, b⟩ := hc
    have e : (2 : Nat) ^ 20 = 1048576 := by decide
    exact IntMulOk.of_bits (Nat.le_trans (bits_le a) (by omega)) (Nat.le_trans (bits_le b) (by omega)))
def tupF (l : Int × Int) : HO := .tup [.int l.1, .int l.2]
def spG : Sp := fun vs H Q _ => ∃ a b : Int, vs = [.int a, .int b] ∧ Q (.int (M11.G a b)) H
def spF : Sp := fun vs H Q _ => ∃ t b : Int, vs = [.int t, .int b] ∧ b ≠ 0 ∧ b.natAbs < 2 ^ 1000 ∧ ∀ p, H p = none → Q (.ref p) (upd H p (tupF (M11.low t b)))
theorem scGd : FnScope ["number", "other", "rest"] ["number", "other"] (defScope sGd) := ⟨rfl, rfl, rfl, by decide +kernel, rfl, by decide +kernel, by decide +kernel⟩
theorem ok_gd {f : Addr} {fd : FuncData} (B : BltR mg) (F : Fun K "greatest_divisor" "greatest_divisor" sGd f fd) : FnOk P w K mg base CX0 1 f fd ["number", "other"] spG := by
  refine F.ok scGd (fun vs H Q E h => ?_) (fun cdv A outer s H vs Q E hr h => ?_)
  · obtain ⟨a, b, rfl, _⟩ := h
    rfl
  · obtain ⟨a, b, rfl, k⟩ := h
    refine ⟨_, pss_cons (ps_while PassesOwn.never (pt_cmpR op_ne (pv 1) pe_int (nomark _))
        (pss_cons (ps_set (i := 2) scGd.nd rfl (Or.inl rfl) (pe_op op_modN (pv 0) (pv 1)))
        (pss_cons (ps_set (i := 0) scGd.nd rfl (Or.inl rfl) (pv 1))
        (pss_one (ps_set (i := 1) scGd.nd rfl (Or.inl rfl) (pv 2))))))
      (pss_one (ps_ret (pe_callB call_abs (by rfl) B.abs boot_abs (pa_cons (pv 0) pa_nil)))), ?_⟩
    refine while_by (fun σ H' => ∃ (x y : Int) (r : Option V), σ = [some (.int x), some (.int y), r] ∧ H' = H ∧ Int.gcd x y = Int.gcd a b)
      (fun σ _ => match σ with | [_, some (.int y), _] => y.natAbs | _ => 0) ⟨a, b, none, rfl, rfl, rfl⟩ ?_ ?_
    · rintro σ H' ⟨x, y, r, rfl, rfl, hg⟩
      refine ⟨_, rfl, rfl, _, rfl, ?_⟩
      by_cases hy : y = 0
      · subst hy
        refine iteNS rfl ?_
        refine ⟨_, rfl, x, rfl, ?_⟩
        have e : (if x < 0 then -x else x) = M11.G a b := by
          rw [M11.gcd_end]
          show ((Int.gcd x 0 : Nat) : Int) = ((Int.gcd a b : Nat) : Int)
          rw [hg]
        rw [e]
        exact k
      · refine iteNP (fun z => hy (V.int.inj z)) ?_
        refine ⟨_, rfl, _, rfl, x, y, rfl, rfl, hy, _, rfl, _, rfl, ?_⟩
        exact ⟨⟨y, x.fmod y, _, rfl, rfl, by rw [M11.gcd_step]; exact hg⟩, M11.fmod_small x y hy⟩
    · rintro σ H' Q1 Q2 hq ⟨v, e, sc, c, ec, q⟩
      exact ⟨v, e, sc, c, ec, hq _ _ q⟩
theorem scFr : FnScope ["top", "bottom", "divisor"] ["top", "bottom"] (defScope sFr) := ⟨rfl, rfl, rfl, by decide +kernel, rfl, by decide +kernel, by decide +kernel⟩
theorem cdivB {t b : Int} (h : b ≠ 0) (hb : b.natAbs < 2 ^ 1000) (u d : Int) (e : d = M11.sgn t b) : CDivB u d := by
  subst e
  exact ⟨M11.sgn_ne h, Nat.lt_of_le_of_lt (M11.sgn_le h) hb⟩
theorem ok_fr {f fG : Addr} {fd fdG : FuncData} (B : BltR mg) (F : Fun K "fraction_of" "fraction_of" sFr f fd) (DG : Dn K mg "greatest_divisor" sGd ["number", "other"] fG fdG) (GG : FnOk P w K mg base CX0 1 fG fdG ["number", "other"] spG) : FnOk P w K mg base CX0 2 f fd ["top", "bottom"] spF := by
  refine F.ok scFr (fun vs H Q E h => ?_) (fun cdv A outer s H vs Q E hr h => ?_)
  · obtain ⟨a, b, rfl, _⟩ := h
    rfl
  · obtain ⟨t, b, rfl, hb, hz, k⟩ := h
    refine ⟨_, pss_cons (ps_set (i := 2) scFr.nd rfl (Or.inl rfl) (pe_fn DG GG hr rfl (pa_cons (pv 0) (pa_cons (pv 1) pa_nil))))
      (pss_cons (ps_if (pt_cmpR op_lt (pv 1) pe_int (nomark _)) (pss_one (ps_set (i := 2) scFr.nd rfl (Or.inl rfl) (pe_un un_neg (pv 2)))) pss_nil)
      (pss_one (ps_ret (pe_tup (pa_cons (pe_op op_fdivB (pv 0) (pv 2)) (pa_cons (pe_op op_fdivB (pv 1) (pv 2)) pa_nil)))))), ?_⟩
    refine ⟨_, rfl, _, rfl, t, b, rfl, ?_⟩
    refine ⟨_, rfl, _, _, rfl, rfl, _, rfl, ?_⟩
    by_cases hn : b < 0
    · refine itDP hn ?_
      have e : -(M11.G t b) = M11.sgn t b := (if_pos hn).symm
      refine ⟨_, rfl, _, rfl, ?_⟩
      refine ⟨_, rfl, _, rfl, _, _, rfl, rfl, cdivB hb hz _ _ e, _, rfl, _, rfl, _, _, rfl, rfl, cdivB hb hz _ _ e, (by show 2 ≤ sizeLine; decide), fun p hp => ?_⟩
      have q := k p hp
      unfold M11.low at q
      rw [← e] at q
      exact q
    · refine itDN hn ?_
      have e : M11.G t b = M11.sgn t b := (if_neg hn).symm
      refine ⟨_, rfl, _, rfl, _, _, rfl, rfl, cdivB hb hz _ _ e, _, rfl, _, rfl, _, _, rfl, rfl, cdivB hb hz _ _ e, (by show 2 ≤ sizeLine; decide), fun p hp => ?_⟩
      have q := k p hp
      unfold M11.low at q
      rw [← e] at q
      exact q
/-! ### terms that stand on the heap -/
open TM in
def tmWord : Tm → Str
  | .one => "one"
  | .hue _ => "hue"
  | .near _ => "near"
  | .both _ _ => "both"
  | .plus _ _ => "plus"
  | .many _ _ _ => "many"
open TM in
/-- a term at p: its word, what else it has, the terms in it -/
theorem tm_at {ok : Addr → Prop} {H : Hp} {v : V} (t : Tm) (h : DA K ok H v t.dat) : ∃ p pre ks, v = .ref p ∧ SqT K H p ((.str (tmWord t) :: pre) ++ ks) ∧ ks.length = t.kids.length ∧ DAs K ok H ks (t.kids.map Tm.dat) ∧
    (∀ c, t = .hue c → pre = [.int c]) ∧ (∀ a b u, t = .many a b u → ∃ f, pre = [.ref f] ∧ SqT K H f [.int a, .int b]) := by
  cases t with
  | one =>
    cases h with
    | tup _ hs r =>
      cases r with
      | cons r1 r =>
        cases r; cases r1
        exact ⟨_, [], [], rfl, hs, rfl, .nil, fun c z => (by cases z), fun a b u z => (by cases z)⟩
  | hue c =>
    cases h with
    | tup _ hs r =>
      cases r with
      | cons r1 r =>
        cases r with
        | cons r2 r =>
          cases r; cases r1; cases r2
          exact ⟨_, [.int c], [], rfl, hs, rfl, .nil, fun c z => (by cases z; rfl), fun a b u z => (by cases z)⟩
  | near t =>
    cases h with
    | tup _ hs r =>
      cases r with
      | cons r1 r =>
        cases r with
        | cons r2 r =>
          cases r; cases r1
          exact ⟨_, [], [_], rfl, hs, rfl, .cons r2 .nil, fun c z => (by cases z), fun a b u z => (by cases z)⟩
  | both t u =>
    cases h with
    | tup _ hs r =>
      cases r with
      | cons r1 r =>
        cases r with
        | cons r2 r =>
          cases r with
          | cons r3 r =>
            cases r; cases r1
            exact ⟨_, [], [_, _], rfl, hs, rfl, .cons r2 (.cons r3 .nil), fun c z => (by cases z), fun a b u z => (by cases z)⟩
  | plus t u =>
    cases h with
    | tup _ hs r =>
      cases r with
      | cons r1 r =>
        cases r with
        | cons r2 r =>
          cases r with
          | cons r3 r =>
            cases r; cases r1
            exact ⟨_, [], [_, _], rfl, hs, rfl, .cons r2 (.cons r3 .nil), fun c z => (by cases z), fun a b u z => (by cases z)⟩
  | many a b t =>
    cases h with
    | tup _ hs r =>
      cases r with
      | cons r1 r =>
        cases r with
        | cons r2 r =>
          cases r with
          | cons r3 r =>
            cases r; cases r1
            cases r2 with
            | tup _ hf rf =>
              cases rf with
              | cons q1 rf =>
                cases rf with
                | cons q2 rf =>
                  cases rf; cases q1; cases q2
                  exact ⟨_, [.ref _], [_], rfl, hs, rfl, .cons r3 .nil, fun c z => (by cases z), fun a b u z => (by cases z; exact ⟨_, rfl, hf⟩)⟩
def inTab : List (Str × Int) := [("one", 0), ("hue", 0), ("near", 1), ("both", 2), ("rows", 1), ("same", 0), ("tie", 0), ("all", 0), ("on", 1), ("turned", 1), ("then", 2), ("meet", 2), ("plus", 2), ("many", 1)]
theorem td1 : PyProof.Rows.KTD.datumAt ("one" : Str) inTab = some 0 := by decide +kernel
theorem td2 : PyProof.Rows.KTD.datumAt ("hue" : Str) inTab = some 0 := by decide +kernel
theorem td3 : PyProof.Rows.KTD.datumAt ("near" : Str) inTab = some 1 := by decide +kernel
theorem td4 : PyProof.Rows.KTD.datumAt ("both" : Str) inTab = some 2 := by decide +kernel
theorem td5 : PyProof.Rows.KTD.datumAt ("plus" : Str) inTab = some 2 := by decide +kernel
theorem td6 : PyProof.Rows.KTD.datumAt ("many" : Str) inTab = some 1 := by decide +kernel
open TM in
theorem tab_word (t : Tm) : PyProof.Rows.KTD.datumAt (tmWord t) inTab = some ((t.kids.length : Nat) : Int) := by
  cases t
  · exact td1
  · exact td2
  · exact td3
  · exact td4
  · exact td5
  · exact td6
theorem cut_behind (pre ks : List V) : cutV (pre ++ ks) (some ((pre.length : Nat) : Int)) none = ks := by
  unfold cutV
  rw [HT.sIx_nat, HT.sIx_none, List.length_append, Nat.min_eq_left (by omega), List.drop_left]
  exact List.take_of_length_le (by omega)
theorem cut_ahead (pre ks : List V) : cutV (pre ++ ks) none (some ((pre.length : Nat) : Int)) = pre := by
  unfold cutV
  rw [HT.sIx_nat, HT.sIx_none, List.length_append, Nat.min_eq_left (by omega), List.drop_zero, Nat.sub_zero, List.take_left]
theorem at_hd (x : V) (xs : List V) : atI (x :: xs) 0 = some x := atI_nat (xs := x :: xs) (j := 0) rfl
theorem at_snd (x y : V) (xs : List V) : atI (x :: y :: xs) 1 = some y := atI_nat (xs := x :: y :: xs) (j := 1) rfl
/-! ### inner_terms -/
open TM in
def spInner (K : PySem.W.Frag) : Sp := fun vs H Q _ => ∃ (v : V) (t : Tm) (H0 : Hp), vs = [v] ∧ Same H0 H ∧ DA K any H0 v t.dat ∧ ∀ q ks H', Same H H' → H' q = some (.tup ks) → ks.length = t.kids.length → DAs K any H0 ks (t.kids.map Tm.dat) → Q (.ref q) H'
theorem scInner : FnScope ["term"] ["term"] (defScope sInner) := ⟨rfl, rfl, rfl, by decide +kernel, rfl, by decide +kernel, by decide +kernel⟩
theorem ok_inner {f aT : Addr} {fd : FuncData} (B : BltR mg) (hG : mg "INNER_TERMS" = some (.ref aT)) (TB : TabK K aT inTab) (F : Fun K "inner_terms" "inner_terms" sInner f fd) : FnOk P w K mg base CX0 1 f fd ["term"] (spInner K) := by
  refine F.ok scInner (fun vs H Q E h => ?_) (fun cdv A outer s H vs Q E hr h => ?_)
  · obtain ⟨v, t, H0, rfl, _⟩ := h
    rfl
  · obtain ⟨v, t, H0, rfl, s0, hT, q⟩ := h
    obtain ⟨p, pre, ks, rfl, hp, hk, dk, _, _⟩ := tm_at t hT
    have hp' := s0.seqT hp
    refine ⟨_, pss_one (ps_ret (pe_slice sl_tup (pv 0) (po_some (pe_op op_sub (pe_callB call_len_seq (by rfl) B.len PySem.boot_len (pa_cons (pv 0) pa_nil)) (pe_ix (ix_tab TB) (pe_glob (v := .ref aT) rfl hG rfl) (pe_ix ix_tup (pv 0) pe_int (fun _ _ => rfl)) (fun _ _ => rfl)))) po_none)), ?_⟩
    refine ⟨_, rfl, _, rfl, p, _, rfl, .inr hp', _, rfl, p, _, _, _, rfl, rfl, hp', at_hd _ _, _, _, rfl, rfl, tab_word t, _, _, rfl, rfl, _, rfl, p, _, rfl, hp', ?_, fun q' hq' => ?_⟩
    · rintro ⟨h1, _⟩
      have e : ((((V.str (tmWord t) :: pre) ++ ks).length : Nat) : Int) - ((t.kids.length : Nat) : Int) = (((V.str (tmWord t) :: pre).length : Nat) : Int) := by
        rw [List.length_append, hk]; omega
      have h1' : HT.sIx ((V.str (tmWord t) :: pre) ++ ks).length 0 (some (((((V.str (tmWord t) :: pre) ++ ks).length : Nat) : Int) - ((t.kids.length : Nat) : Int))) = 0 := h1
      rw [e, HT.sIx_nat, List.length_append, List.length_cons] at h1'
      omega
    · have e : ((((V.str (tmWord t) :: pre) ++ ks).length : Nat) : Int) - ((t.kids.length : Nat) : Int) = (((V.str (tmWord t) :: pre).length : Nat) : Int) := by
        rw [List.length_append, hk]; omega
      have e2 : cutV ((V.str (tmWord t) :: pre) ++ ks) (some (((((V.str (tmWord t) :: pre) ++ ks).length : Nat) : Int) - ((t.kids.length : Nat) : Int))) none = ks := by rw [e]; exact cut_behind _ _
      have := q q' ks (L2.upd H q' (.tup ks)) (Same.upd hq') upd_same hk dk
      rw [← e2] at this
      exact this
end

/-! terms_innermost_first, lowered -/
section
variable {P : Program} {w : World} {K : PySem.W.Frag} {mg : Str → Option Value} {base : Heap}
open TM in
def spFirst (K : PySem.W.Frag) : Sp := fun vs H Q _ => ∃ (v : V) (t : Tm) (H0 : Hp), vs = [v] ∧ Same H0 H ∧ DA K any H0 v t.dat ∧ t.size ≤ 900 ∧
  ∀ F fs H', Same H H' → H' F = some (.lst fs) → DAs K any H0 fs (t.pre.reverse.map Tm.dat) → Q (.ref F) H'
abbrev nFirst : List Str := ["term", "waiting", "found", "part"]
theorem scFirst : FnScope nFirst ["term"] (defScope sFirst) := ⟨rfl, rfl, rfl, by decide +kernel, rfl, by decide +kernel, by decide +kernel⟩
theorem das_len {ok : Addr → Prop} {H : Hp} : ∀ {ys : List V} {ds : List PyData}, DAs K ok H ys ds → ys.length = ds.length
  | _, _, .nil => rfl
  | _, _, .cons _ r => by rw [List.length_cons, List.length_cons, das_len r]
theorem das_app {ok : Addr → Prop} {H : Hp} : ∀ {ys : List V} {ds : List PyData} {ys' : List V} {ds' : List PyData}, DAs K ok H ys ds → DAs K ok H ys' ds' → DAs K ok H (ys ++ ys') (ds ++ ds')
  | _, _, _, _, .nil, h => h
  | _, _, _, _, .cons a r, h => .cons a (das_app r h)
theorem das_split {ok : Addr → Prop} {H : Hp} : ∀ {ds : List PyData} {ds' : List PyData} {ys : List V}, DAs K ok H ys (ds ++ ds') → ∃ a b, ys = a ++ b ∧ DAs K ok H a ds ∧ DAs K ok H b ds'
  | [], ds', ys, h => ⟨[], ys, rfl, .nil, h⟩
  | d :: ds, ds', _, .cons h r => by
    obtain ⟨a, b, rfl, h1, h2⟩ := das_split r
    exact ⟨_ :: a, b, rfl, .cons h h1, h2⟩
theorem das_rev {ok : Addr → Prop} {H : Hp} : ∀ {ys : List V} {ds : List PyData}, DAs K ok H ys ds → DAs K ok H ys.reverse ds.reverse
  | _, _, .nil => .nil
  | _, _, .cons a r => by
    rw [List.reverse_cons, List.reverse_cons]
    exact das_app (das_rev r) (.cons a .nil)
theorem seq_while {c : TT} {tb u : TS} {D : Ends} {σ : L2.St} {H : Hp} (h : tWhile c tb { D with nx := u D } σ H) : tSeq (tWhile c tb) u D σ H := h
open TM in
theorem flat_pre (tws : List Tm) (t : Tm) : (tws ++ [t]).reverse.flatMap Tm.pre = t :: (tws ++ t.kids).reverse.flatMap Tm.pre := by
  rw [List.reverse_append, List.reverse_append, List.flatMap_append, List.flatMap_append]
  show t.pre ++ [] ++ _ = _
  rw [List.append_nil]
  conv => lhs; rw [Tm.pre_eq t]
  rfl
open TM in
theorem flat_len (tws : List Tm) : tws.length ≤ (tws.reverse.flatMap Tm.pre).length := by
  have key : ∀ l : List Tm, l.length ≤ (l.flatMap Tm.pre).length := by
    intro l
    induction l with
    | nil => exact Nat.le_refl _
    | cons a l ih =>
      rw [List.flatMap_cons, List.length_append, List.length_cons, Tm.pre_len]
      have := Tm.size_pos a
      omega
  have := key tws.reverse
  rw [List.length_reverse] at this
  exact this
open TM in
theorem ok_first {f fI : Addr} {fd fdI : FuncData} (F : Fun K "terms_innermost_first" "terms_innermost_first" sFirst f fd) (DI : Dn K mg "inner_terms" sInner ["term"] fI fdI) (GI : FnOk P w K mg base CX0 1 fI fdI ["term"] (spInner K)) : FnOk P w K mg base CX0 2 f fd ["term"] (spFirst K) := by
  refine F.ok scFirst (fun vs H Q E h => ?_) (fun cdv A outer s H vs Q E hr h => ?_)
  · obtain ⟨v, t, H0, rfl, _⟩ := h
    rfl
  · obtain ⟨v, t, H0, rfl, s0, hT, hz, q⟩ := h
    refine ⟨_, pss_cons (ps_set (i := 1) scFirst.nd rfl (Or.inl rfl) (pe_lst (pa_cons (pv 0) pa_nil)))
      (pss_cons (ps_set (i := 2) scFirst.nd rfl (Or.inl rfl) (pe_lst pa_nil))
      (pss_cons (ps_while PassesOwn.never (pt_truth (pv 1) (fun _ => rfl))
        (pss_cons (ps_set (i := 3) scFirst.nd rfl (Or.inl rfl) (pe_bm0 PySem.F.plainAttrs_list PySem.F.slot_list_pop PySem.F.type_list_pop mt_pop (pv 1)))
        (pss_cons (ps_expr (pe_bm PySem.F.plainAttrs_list PySem.F.slot_list_append PySem.F.type_list_append mt_append (pv 2) (pa_cons (pv 3) pa_nil)))
        (pss_one (ps_expr (pe_bm PySem.F.plainAttrs_list PySem.F.slot_list_extend PySem.F.type_list_extend mt_extendT (pv 1) (pa_cons (pe_fn DI GI hr rfl (pa_cons (pv 3) pa_nil)) pa_nil)))))))
      (pss_cons (ps_expr (pe_bm0 PySem.F.plainAttrs_list PySem.F.slot_list_reverse PySem.F.type_list_reverse mt_reverse (pv 2)))
      (pss_one (ps_ret (pv 2)))))), ?_⟩
    refine ⟨_, rfl, (by show 1 ≤ sizeLine; decide), fun W hW => ?_⟩
    refine ⟨Nat.zero_le _, fun R hR => ?_⟩
    have nRW : W ≠ R := ne_of_none upd_same hR
    have hR0 : H R = none := by rw [upd_ne nRW.symm] at hR; exact hR
    dsimp only [gName]
    refine seq_while (while_by (fun σ H' => ∃ (o3 : Option V) (ws fs : List V) (tws tfs : List Tm), σ = [some v, some (.ref W), some (.ref R), o3] ∧ Same H H' ∧ H' W = some (.lst ws) ∧ H' R = some (.lst fs) ∧ DAs K any H0 ws (tws.map Tm.dat) ∧ DAs K any H0 fs (tfs.map Tm.dat) ∧ t.pre = tfs ++ tws.reverse.flatMap Tm.pre)
      (fun _ H' => match H' R with | some (.lst fs) => t.size - fs.length | _ => 0) ?_ ?_ ?_)
    · refine ⟨none, [v], [], [t], [], rfl, (Same.upd hW).trans (Same.upd hR), by rw [upd_ne nRW]; exact upd_same, upd_same, .cons hT .nil, .nil, ?_⟩
      show t.pre = [] ++ (t.pre ++ [])
      rw [List.append_nil, List.nil_append]
    · rintro σ H1 ⟨o3, ws, fs, tws, tfs, rfl, s1, eW, eR, dW, dF, hp⟩
      refine ⟨_, rfl, !ws.isEmpty, .inl ⟨ws, SqL.of eW, rfl⟩, ?_⟩
      have lW := das_len dW
      have lF := das_len dF
      rw [List.length_map] at lW lF
      have lp := congrArg List.length hp
      rw [Tm.pre_len, List.length_append] at lp
      rcases List.eq_nil_or_concat tws with rfl | ⟨tws', x, rfl⟩
      · cases dW
        refine iteF ?_
        refine ⟨_, rfl, .inl ⟨rfl, _, SqL.of eR⟩, R, fs, rfl, rfl, eR, ?_⟩
        refine ⟨_, rfl, q R fs.reverse _ (fun b o e => ?_) upd_same ?_⟩
        · rw [upd_ne (ne_of_none e hR0)]
          exact s1 _ _ e
        · have hp' : t.pre = tfs := by rw [hp]; simp
          rw [hp', List.map_reverse]
          exact das_rev dF
      · rw [List.concat_eq_append] at *
        rw [List.map_append] at dW
        obtain ⟨a, b, rfl, d1, d2⟩ := das_split dW
        cases d2 with
        | cons dx d2 =>
          cases d2
          rename_i y
          have en : (!(a ++ [y]).isEmpty) = true := by simp
          rw [en]
          refine iteT ?_
          refine ⟨_, rfl, .inl ⟨rfl, _, SqL.of eW⟩, W, a ++ [y], y, rfl, rfl, eW, by simp, ?_⟩
          have eR2 : L2.upd H1 W (.lst (a ++ [y]).dropLast) R = some (.lst fs) := by rw [upd_ne nRW.symm]; exact eR
          refine ⟨_, rfl, .inl ⟨rfl, _, SqL.of eR2⟩, _, rfl, R, fs, y, rfl, rfl, eR2, small1000 (by
            rw [flat_pre, List.length_cons] at lp
            omega), ?_⟩
          have eW3 : L2.upd (L2.upd H1 W (.lst (a ++ [y]).dropLast)) R (.lst (fs ++ [y])) W = some (.lst a) := by rw [upd_ne nRW, upd_same]; simp
          have s3 : Same H (L2.upd (L2.upd H1 W (.lst (a ++ [y]).dropLast)) R (.lst (fs ++ [y]))) := fun b o e => by
            rw [upd_ne (ne_of_none e hR0), upd_ne (ne_of_none e hW)]
            exact s1 _ _ e
          have eR3 : L2.upd (L2.upd H1 W (.lst (a ++ [y]).dropLast)) R (.lst (fs ++ [y])) R = some (.lst (fs ++ [y])) := upd_same
          generalize L2.upd (L2.upd H1 W (.lst (a ++ [y]).dropLast)) R (.lst (fs ++ [y])) = H3 at eW3 s3 eR3 ⊢
          refine ⟨_, rfl, .inl ⟨rfl, _, SqL.of eW3⟩, _, rfl, y, x, H0, rfl, s0.trans s3, dx, fun q' ks H4 s4 eq lk dk => ?_⟩
          have lk' := lk
          refine ⟨W, q', a, ks, rfl, rfl, s4 _ _ eW3, SqT.of eq, Nat.le_of_lt (small1000 (by
            have := Tm.kids_len x
            have l1 := das_len d1
            rw [List.length_map] at l1
            have hh := flat_len (tws' ++ [x])
            rw [List.length_append, List.length_singleton] at hh
            omega)), ?_⟩
          have eR5 : L2.upd H4 W (.lst (a ++ ks)) R = some (.lst (fs ++ [y])) := by rw [upd_ne nRW.symm]; exact s4 _ _ eR3
          refine ⟨⟨_, a ++ ks, fs ++ [y], tws' ++ x.kids, tfs ++ [x], rfl, fun b o e => ?_, upd_same, eR5, ?_, ?_, ?_⟩, ?_⟩
          · rw [upd_ne (ne_of_none e hW)]
            exact s4 _ _ (s3 _ _ e)
          · rw [List.map_append]
            exact das_app d1 dk
          · rw [List.map_append]
            exact das_app dF (.cons dx .nil)
          · rw [hp, flat_pre, List.append_assoc]
            rfl
          · show (match L2.upd H4 W (.lst (a ++ ks)) R with | some (.lst fs) => t.size - fs.length | _ => 0) < (match H1 R with | some (.lst fs) => t.size - fs.length | _ => 0)
            rw [eR5, eR]
            show t.size - (fs ++ [y]).length < t.size - fs.length
            rw [flat_pre, List.length_cons] at lp
            rw [List.length_append, List.length_singleton]
            omega
    · rintro σ H' Q1 Q2 hq ⟨v', e, k', c, q'⟩
      exact ⟨v', e, k', c, hq _ _ q'⟩
end

/-! comprehensions with one value each; lowered, hue_row, sum_of_products, near_row, both_row, plus_row, many_row -/
section
variable {P : Program} {w : World} {K : PySem.W.Frag} {mg : Str → Option Value} {base : Heap}
theorem lc_vals {a : Addr} {xs : List V} {te : TE} {Q : Hp → Prop} {σ : L2.St} {H1 : Hp} {D : Addr} (vs : List V) (hlen : vs.length = xs.length) (hm : xs.length ≤ 900) (hD : H1 D = none) (hxs : SqL K H1 a xs)
    (hs : ∀ (i : Nat) (x v : V) (H' : Hp), xs[i]? = some x → vs[i]? = some v → Same H1 H' → te (σ ++ [some x]) H' fun u H3 => u = v ∧ Same H' H3)
    (hd : ∀ H', Same H1 H' → H' D = some (.lst vs) → Q H')
    (mono : ∀ σ H Q Q', (∀ v H1, Q v H1 → Q' v H1) → te σ H Q → te σ H Q') :
    ∃ W : Nat → Nat → List V → Hp → Prop, (∃ m, W 0 m [] (upd H1 D (.lst []))) ∧
      ∀ i m ys H', W i m ys H' → H' D = some (.lst ys) ∧ (((Itl K a).stop i H' ∧ Q H') ∨ ((Itl K a).go i H' ∧ ∀ z H2, (Itl K a).yld i H' z H2 → te (σ ++ [some z]) H2 fun v H3 => H3 D = some (.lst ys) ∧ ys.length < sizeLine ∧ ∃ m', m' < m ∧ W (i + 1) m' (ys ++ [v]) (upd H3 D (.lst (ys ++ [v]))))) := by
  refine lc_list (xs := xs) (fun i ys H' => ys = vs.take i ∧ Same H1 H' ∧ H' D = some (.lst ys)) ⟨by rw [List.take_zero], Same.upd hD, upd_same⟩ (fun i ys H' _ ⟨_, sm, eD⟩ => ⟨Same.sq sm hxs, eD⟩) ?_ ?_ mono
  · rintro i x ys H4 hx ⟨rfl, s4, eD⟩
    have hi : i < vs.length := by rw [hlen]; exact (List.getElem?_eq_some_iff.mp hx).1
    have hv : vs[i]? = some vs[i] := List.getElem?_eq_getElem hi
    refine mono _ _ _ _ ?_ (hs i x vs[i] H4 hx hv s4)
    rintro u H5 ⟨rfl, s5⟩
    refine ⟨s5 _ _ eD, small1000 (by rw [List.length_take]; omega), by rw [take_snoc hv], fun b o e => ?_, upd_same⟩
    rw [upd_ne (ne_of_none e hD)]
    exact s5 _ _ (s4 _ _ e)
  · rintro ys H4 ⟨rfl, s4, eD⟩
    rw [← hlen, List.take_length] at eD
    exact hd H4 s4 eD
theorem set2 (σ : L2.St) (a b : Option V) (x y : V) : ((σ ++ [a, b]).set σ.length (some x)).set (σ.length + 1) (some y) = σ ++ [some x, some y] := by
  rw [List.set_append_right _ _ (Nat.le_refl _), Nat.sub_self, List.set_append_right _ _ (Nat.le_succ _)]
  have : σ.length + 1 - σ.length = 1 := by omega
  rw [this]
  rfl
theorem lc_zip {a b : Addr} {xs ys : List V} {te : TE} {Q : VK} {σ : L2.St} {n : Nat} {H1 : Hp} (vs : List V) (hn : σ.length = n) (hx : SqL K H1 a xs) (hy : SqL K H1 b ys) (hlx : xs.length = vs.length) (hly : ys.length = vs.length) (hm : vs.length ≤ 900)
    (hs : ∀ (i : Nat) (x y v : V) (H' : Hp), xs[i]? = some x → ys[i]? = some y → vs[i]? = some v → Same H1 H' → te (σ ++ [some x, some y]) H' fun u H3 => u = v ∧ Same H' H3)
    (hd : ∀ D H', Same H1 H' → H' D = some (.lst vs) → Q (.ref D) H')
    (mono : ∀ σ H Q Q', (∀ v H1, Q v H1 → Q' v H1) → te σ H Q → te σ H Q') : LcW 2 (Itz K a b) (g2 K n) tYes te σ H1 Q := by
  subst hn
  intro D hD
  refine ⟨fun i m zs H' => m = vs.length - i ∧ i ≤ vs.length ∧ zs = vs.take i ∧ Same H1 H' ∧ H' D = some (.lst zs), ⟨vs.length, by simp, Nat.zero_le _, by rw [List.take_zero], Same.upd hD, upd_same⟩, ?_⟩
  rintro i m zs H2 ⟨rfl, hi, rfl, s2, eD⟩
  refine ⟨eD, ?_⟩
  by_cases hlt : i < vs.length
  · have ex : xs[i]? = some xs[i] := List.getElem?_eq_getElem (by omega)
    have ey : ys[i]? = some ys[i] := List.getElem?_eq_getElem (by omega)
    have ev : vs[i]? = some vs[i] := List.getElem?_eq_getElem hlt
    refine .inr ⟨⟨xs, ys, _, _, Same.sq s2 hx, Same.sq s2 hy, ex, ey⟩, ?_⟩
    rintro z H3 ⟨t, x, y, rfl, ht, rfl, hx', hy'⟩ os los
    have hx1 := hx' xs (Same.sq s2 hx)
    have hy1 := hy' ys (Same.sq s2 hy)
    match os, los with
    | [o1, o2], _ =>
      have s3 : Same H2 (L2.upd H2 t (.tup [x, y])) := Same.upd ht
      refine ⟨t, [x, y], rfl, SqT.of upd_same, rfl, x, [y], rfl, y, [], rfl, rfl, ⟨[some x, some y], set2 σ o1 o2 x y, rfl⟩, ?_⟩
      dsimp only [tYes]
      rw [if_pos rfl, set2 σ o1 o2 x y]
      refine mono _ _ _ _ ?_ (hs i x y vs[i] _ hx1 hy1 ev (s2.trans s3))
      rintro u H5 ⟨rfl, s5⟩
      refine ⟨s5 _ _ (s3 _ _ eD), small1000 (by rw [List.length_take]; omega), vs.length - (i + 1), by omega, rfl, hlt, by rw [take_snoc ev], fun c o e => ?_, upd_same⟩
      rw [upd_ne (ne_of_none e hD)]
      exact s5 _ _ (s3 _ _ (s2 _ _ e))
  · have : i = vs.length := by omega
    subst this
    rw [List.take_length] at eD ⊢
    exact .inl ⟨⟨xs, ys, Same.sq s2 hx, Same.sq s2 hy, .inl (by omega)⟩, hd D H2 s2 eD⟩
/-- a row over one bottom -/
def RwAt (H : Hp) (v : V) (r : TM.Rw) : Prop := ∃ p l, v = .ref p ∧ H p = some (.tup [.ref l, .int r.2]) ∧ H l = some (.lst (r.1.map V.int))
theorem RwAt.mono {H H' : Hp} {v : V} {r : TM.Rw} (h : RwAt H v r) (s : Same H H') : RwAt H' v r := by
  obtain ⟨p, l, rfl, h1, h2⟩ := h
  exact ⟨p, l, rfl, s _ _ h1, s _ _ h2⟩
theorem foldG_app (b : Int) (a c : List Int) : M11.foldG b (a ++ c) = M11.foldG (M11.foldG b a) c := by
  unfold M11.foldG
  rw [List.foldl_append]
theorem foldG_le {b : Int} (h : 0 < b) (ts : List Int) : (M11.foldG b ts).natAbs ≤ b.natAbs := by
  obtain ⟨h1, h2, _⟩ := M11.foldG_spec ts b h
  have := Int.le_of_dvd h h2
  omega
/-! ### shared_by_all -/
def spAll : Sp := fun vs H Q _ => ∃ (l : Addr) (ts : List Int) (b : Int), vs = [.int b, .ref l] ∧ H l = some (.lst (ts.map V.int)) ∧ Q (.int (M11.foldG b ts)) H
theorem scAll : FnScope ["divisor", "tops", "top"] ["divisor", "tops"] (defScope sAll) := ⟨rfl, rfl, rfl, by decide +kernel, rfl, by decide +kernel, by decide +kernel⟩
theorem ok_all {f fG : Addr} {fd fdG : FuncData} (F : Fun K "shared_by_all" "shared_by_all" sAll f fd) (DG : Dn K mg "greatest_divisor" sGd ["number", "other"] fG fdG) (GG : FnOk P w K mg base CX0 1 fG fdG ["number", "other"] spG) : FnOk P w K mg base CX0 2 f fd ["divisor", "tops"] spAll := by
  refine F.ok scAll (fun vs H Q E h => ?_) (fun cdv A outer s H vs Q E hr h => ?_)
  · obtain ⟨l, ts, b, rfl, _⟩ := h
    rfl
  · obtain ⟨l, ts, b, rfl, hl, q⟩ := h
    refine ⟨_, pss_cons (ps_for PassesOwn.never rfl (pi_list (pv 1)) (pg_name (i := 2) scAll.nd rfl (Or.inl rfl))
        (pss_cons (ps_if (pt_cmpR op_eq (pv 0) pe_int (nomark _)) (pss_one (ps_ret pe_int)) pss_nil)
        (pss_one (ps_set (i := 0) scAll.nd rfl (Or.inl rfl) (pe_fn DG GG hr rfl (pa_cons (pv 0) (pa_cons (pv 2) pa_nil)))))))
      (pss_one (ps_ret (pv 0))), ?_⟩
    refine ⟨_, rfl, l, rfl, ⟨_, SqL.of hl⟩, for_list (xs := ts.map V.int) (fun i σ H' => ∃ (ot : Option V), σ = [some (.int (M11.foldG b (ts.take i))), some (.ref l), ot] ∧ H' = H) ⟨none, rfl, rfl⟩ (fun i σ H' _ ⟨_, _, e⟩ => by subst e; exact SqL.of hl) ?_ ?_⟩
    · rintro i x σ H1 hx ⟨ot, rfl, rfl⟩
      obtain ⟨t, ht, rfl⟩ := map_get hx
      refine ⟨_, rfl, rfl, _, rfl, ?_⟩
      by_cases h1 : M11.foldG b (ts.take i) = 1
      · refine itDP (by rw [h1]) ?_
        have e : M11.foldG b ts = 1 := by
          rw [← List.take_append_drop i ts, foldG_app, h1, M11.foldG_one]
        rw [e] at q
        exact q
      · refine itDN (fun z => h1 (V.int.inj z)) ?_
        refine ⟨_, rfl, _, rfl, _, t, rfl, ⟨some (.int t), ?_, rfl⟩⟩
        rw [take_snoc ht, foldG_app]
        rfl
    · rintro σ H1 ⟨ot, rfl, rfl⟩
      have et : ts.take (ts.map V.int).length = ts := by rw [List.length_map, List.take_length]
      rw [et]
      exact ⟨_, rfl, q⟩
/-! ### lowered -/
def spLowered : Sp := fun vs H Q _ => ∃ (l : Addr) (ts : List Int) (b : Int), vs = [.ref l, .int b] ∧ H l = some (.lst (ts.map V.int)) ∧ 0 < b ∧ b.natAbs < 2 ^ 1000 ∧ ts.length ≤ 900 ∧ ∀ v H', Same H H' → RwAt H' v (M11.lowerR ts b) → Q v H'
abbrev nLowered : List Str := ["tops", "bottom", "divisor"]
theorem scLowered : FnScope nLowered ["tops", "bottom"] (defScope sLowered) := ⟨rfl, rfl, rfl, by decide +kernel, rfl, by decide +kernel, by decide +kernel⟩
theorem lcLowered : LcScopes (defScope sLowered) nLowered (lcScope (tupAt (asgVal (bodyAt sLowered 2)) 0)) ["top"] := ⟨by decide +kernel, rfl, by decide +kernel, by decide +kernel, by decide +kernel, by decide +kernel, by decide +kernel, by decide +kernel, by decide +kernel, by decide +kernel⟩
theorem ok_lowered {f fA : Addr} {fd fdA : FuncData} (F : Fun K "lowered" "lowered" sLowered f fd) (DA' : Dn K mg "shared_by_all" sAll ["divisor", "tops"] fA fdA) (GA : FnOk P w K mg base CX0 2 fA fdA ["divisor", "tops"] spAll) : FnOk P w K mg base CX0 3 f fd ["tops", "bottom"] spLowered := by
  refine F.ok scLowered (fun vs H Q E h => ?_) (fun cdv A outer s H vs Q E hr h => ?_)
  · obtain ⟨l, ts, b, rfl, _⟩ := h
    rfl
  · obtain ⟨l, ts, b, rfl, hl, hb, hz, hm, q⟩ := h
    refine ⟨_, pss_cons (ps_set (i := 2) scLowered.nd rfl (Or.inr rfl) (pe_fn DA' GA hr rfl (pa_cons (pv 1) (pa_cons (pv 0) pa_nil))))
      (pss_cons (ps_if (pt_cmpR op_eq (pv 2) pe_int (nomark _)) (pss_one (ps_ret (pe_tup (pa_cons (pv 0) (pa_cons (pv 1) pa_nil))))) pss_nil)
      (pss_one (ps_ret (pe_tup (pa_cons (pe_lc1 rfl lcLowered rfl (pi_list (pv 0)) (fun _ _ _ => pe_op op_fdivB (pv 3) (pv 2))) (pa_cons (pe_op op_fdivB (pv 1) (pv 2)) pa_nil)))))), ?_⟩
    refine ⟨_, rfl, _, rfl, l, ts, b, rfl, hl, ?_⟩
    refine ⟨_, rfl, rfl, _, rfl, ?_⟩
    by_cases h1 : M11.foldG b ts = 1
    · refine itDP (by rw [h1]) ?_
      exact ⟨_, rfl, _, rfl, (by show 2 ≤ sizeLine; decide), fun p hp => q _ _ (Same.upd hp) (by rw [M11.lowerR_one h1]; exact ⟨p, l, rfl, upd_same, by rw [upd_ne (ne_of_none hl hp)]; exact hl⟩)⟩
    · refine itDN (fun z => h1 (V.int.inj z)) ?_
      obtain ⟨g1, g2, g3⟩ := M11.foldG_spec ts b hb
      have g4 := foldG_le hb ts
      have cd : ∀ u, CDivB u (M11.foldG b ts) := fun u => ⟨by omega, Nat.lt_of_le_of_lt g4 hz⟩
      refine ⟨_, rfl, l, rfl, ⟨_, SqL.of hl⟩, fun D hD => ?_⟩
      refine lc_vals (ts.map fun t => V.int (t.fdiv (M11.foldG b ts))) (by rw [List.length_map, List.length_map]) (by rw [List.length_map]; exact hm) hD (SqL.of hl) ?_ ?_ ?_
      · intro i x v H' hx hv s'
        obtain ⟨t, ht, rfl⟩ := map_get hx
        obtain ⟨t', ht', rfl⟩ := map_get hv
        rw [ht] at ht'
        cases ht'
        exact ⟨_, rfl, _, rfl, _, _, rfl, rfl, cd _, rfl, Same.refl _⟩
      · intro H' s' eD
        refine ⟨_, rfl, _, rfl, _, _, rfl, rfl, cd _, (by show 2 ≤ sizeLine; decide), fun p hp => ?_⟩
        refine q _ _ (s'.trans (Same.upd hp)) ⟨p, D, rfl, upd_same, ?_⟩
        rw [upd_ne (ne_of_none eD hp), eD]
        unfold M11.lowerR
        rw [List.map_map]
        rfl
      · rintro σ H' Q1 Q2 hq ⟨v, e, v', e', i, j, a1, a2, a3, g⟩
        exact ⟨v, e, v', e', i, j, a1, a2, a3, hq _ _ g⟩
end

/-! the rows of each kind of term -/
section
variable {P : Program} {w : World} {K : PySem.W.Frag} {mg : Str → Option Value} {base : Heap}
/-! ### sum_of_products -/
open TM in
def spDot : Sp := fun vs H Q _ => ∃ (a b : Addr) (ws rs : List Int) (n : Nat), vs = [.ref a, .ref b] ∧ H a = some (.lst (ws.map V.int)) ∧ H b = some (.lst (rs.map V.int)) ∧ ws.length = rs.length ∧ ws.length ≤ 900 ∧ n ≤ 1000000 ∧ (∀ x ∈ ws, M11.Bn n x) ∧ (∀ x ∈ rs, M11.Bn n x) ∧ ∀ H', Same H H' → Q (.int (dot ws rs)) H'
theorem scDot : FnScope ["numbers", "others"] ["numbers", "others"] (defScope sDot) := ⟨rfl, rfl, rfl, by decide +kernel, rfl, by decide +kernel, by decide +kernel⟩
def argAt (e : Expr) (i : Nat) : Expr := match e with
  | .Call _ es _ _ => es.getD i (.Constant .none 0 ⟨0, 0, 0, 0⟩)
  | .BinOp _ _ b _ => b
  | _ => .Constant .none 0 ⟨0, 0, 0, 0⟩
theorem lcDot : LcScopes (defScope sDot) ["numbers", "others"] (lcScope (argAt (asgVal (bodyAt sDot 0)) 0)) ["number", "other"] := ⟨by decide +kernel, rfl, by decide +kernel, by decide +kernel, by decide +kernel, by decide +kernel, by decide +kernel, by decide +kernel, by decide +kernel, by decide +kernel⟩
theorem boot_sum : bootBuiltins "sum" = some (.builtin "sum") := by decide +kernel
theorem zip_get {f : Int → Int → Int} {a b : List Int} {i : Nat} {x y : Int} (hx : a[i]? = some x) (hy : b[i]? = some y) : (List.zipWith f a b)[i]? = some (f x y) := by
  rw [List.getElem?_zipWith, hx, hy]
theorem ok_dot {f : Addr} {fd : FuncData} (B : BltR mg) (F : Fun K "sum_of_products" "sum_of_products" sDot f fd) : FnOk P w K mg base CX0 1 f fd ["numbers", "others"] spDot := by
  refine F.ok scDot (fun vs H Q E h => ?_) (fun cdv A outer s H vs Q E hr h => ?_)
  · obtain ⟨a, b, ws, rs, n, rfl, _⟩ := h
    rfl
  · obtain ⟨a, b, ws, rs, n, rfl, ha, hb, hl, hm, hn, hw, hr', q⟩ := h
    refine ⟨_, pss_one (ps_ret (pe_callB (call_sum rfl) (by rfl) B.sum boot_sum (pa_cons (pe_lcs rfl lcDot rfl (pi_zip rfl B.zip (pa_cons (pv 0) (pa_cons (pv 1) pa_nil))) (pg_two rfl lcDot) (fun _ _ _ => pts_nil) (fun _ _ _ => pe_op op_mulN (pv 2) (pv 3))) pa_nil))), ?_⟩
    refine ⟨_, rfl, _, rfl, a, b, rfl, ⟨_, SqL.of ha⟩, ⟨_, SqL.of hb⟩, ?_⟩
    refine lc_zip ((List.zipWith (fun x y => x * y) ws rs).map V.int) rfl (SqL.of ha) (SqL.of hb) (by rw [List.length_map, List.length_map, List.length_zipWith]; omega) (by rw [List.length_map, List.length_map, List.length_zipWith]; omega) (by rw [List.length_map, List.length_zipWith]; omega) ?_ ?_ ?_
    · intro i x y v H' hx hy hv s'
      obtain ⟨x, ex, rfl⟩ := map_get hx
      obtain ⟨y, ey, rfl⟩ := map_get hy
      obtain ⟨z, ez, rfl⟩ := map_get hv
      rw [zip_get ex ey] at ez
      cases ez
      exact ⟨_, rfl, _, rfl, _, _, rfl, rfl, ⟨n, hn, hw x (List.mem_of_getElem? ex), hr' y (List.mem_of_getElem? ey)⟩, rfl, Same.refl _⟩
    · intro D H' s' eD
      exact ⟨D, _, rfl, SqL.of eD, q H' s'⟩
    · rintro σ H' Q1 Q2 hq ⟨v, e, v', e', i, j, a1, a2, a3, g⟩
      exact ⟨v, e, v', e', i, j, a1, a2, a3, hq _ _ g⟩
/-! ### sums_with_each -/
theorem dot_comm : ∀ a b : List Int, TM.dot a b = TM.dot b a := by
  intro a b
  unfold TM.dot
  rw [List.zipWith_comm]
  congr 1
  funext
  simp only [Int.mul_comm]
open TM in
def spSums : Sp := fun vs H Q _ => ∃ (a l : Addr) (M : List (List Int)) (r : List Int) (n : Nat), vs = [.ref l, .ref a] ∧ (∃ rs, H a = some (.lst (rs.map V.ref)) ∧ RowsAt H rs M) ∧ H l = some (.lst (r.map V.int)) ∧ M.length ≤ 900 ∧ r.length ≤ 900 ∧ n ≤ 1000000 ∧ (∀ x ∈ M, x.length = r.length ∧ ∀ z ∈ x, M11.Bn n z) ∧ (∀ x ∈ r, M11.Bn n x) ∧
  ∀ D H', Same H H' → H' D = some (.lst ((M.map fun w => dot w r).map V.int)) → Q (.ref D) H'
theorem scSums : FnScope ["numbers", "rows"] ["numbers", "rows"] (defScope sSums) := ⟨rfl, rfl, rfl, by decide +kernel, rfl, by decide +kernel, by decide +kernel⟩
theorem lcSums : LcScopes (defScope sSums) ["numbers", "rows"] (lcScope (asgVal (bodyAt sSums 0))) ["row"] := ⟨by decide +kernel, rfl, by decide +kernel, by decide +kernel, by decide +kernel, by decide +kernel, by decide +kernel, by decide +kernel, by decide +kernel, by decide +kernel⟩
theorem ok_sumsEach {f fD : Addr} {fd fdD : FuncData} (F : Fun K "sums_with_each" "sums_with_each" sSums f fd) (DD : Dn K mg "sum_of_products" sDot ["numbers", "others"] fD fdD) (GD : FnOk P w K mg base CX0 1 fD fdD ["numbers", "others"] spDot) : FnOk P w K mg base CX0 2 f fd ["numbers", "rows"] spSums := by
  refine F.ok scSums (fun vs H Q E h => ?_) (fun cdv A outer s H vs Q E hr h => ?_)
  · obtain ⟨a, l, M, r, n, rfl, _⟩ := h
    rfl
  · obtain ⟨a, l, M, r, n, rfl, ⟨rs, ha, R⟩, hl, hM, hrl, hn, hw, hr', q⟩ := h
    refine ⟨_, pss_one (ps_ret (pe_lc1 rfl lcSums rfl (pi_list (pv 1)) (fun _ _ _ => pe_fn DD GD hr rfl (pa_cons (pv 0) (pa_cons (pv 2) pa_nil))))), ?_⟩
    refine ⟨_, rfl, a, rfl, ⟨_, SqL.of ha⟩, fun D hD => ?_⟩
    refine lc_vals ((M.map fun w => TM.dot w r).map V.int) (by rw [List.length_map, List.length_map, List.length_map, R.len]) (by rw [List.length_map, R.len]; omega) hD (SqL.of ha) ?_ ?_ ?_
    · intro i x v H' hx hv s'
      obtain ⟨ra, hra, rfl⟩ := map_get hx
      obtain ⟨z, hz, rfl⟩ := map_get hv
      obtain ⟨row, hrow, rfl⟩ := map_get hz
      have er := R.row i ra row hra hrow
      obtain ⟨w1, w2⟩ := hw row (List.mem_of_getElem? hrow)
      rw [dot_comm row r]
      exact ⟨_, rfl, _, rfl, l, ra, r, row, n, rfl, s' _ _ hl, s' _ _ er, w1.symm, hrl, hn, hr', w2, fun H3 s3 => ⟨rfl, s3⟩⟩
    · intro H' s' eD
      exact q D H' s' eD
    · rintro σ H' Q1 Q2 hq ⟨v, e, v', e', a1, a2, a3, a4, a5, a6, a7, a8, a9, a10, a11, a12, a13, g⟩
      exact ⟨v, e, v', e', a1, a2, a3, a4, a5, a6, a7, a8, a9, a10, a11, a12, a13, fun H3 s3 => hq _ _ (g H3 s3)⟩
/-! ### both_row, plus_row -/
open TM in
def sp2R (g : Rw → Rw → Rw) : Sp := fun vs H Q _ => ∃ (v u : V) (r1 r2 : Rw) (k n : Nat), vs = [v, u] ∧ RwAt H v r1 ∧ RwAt H u r2 ∧ r1.1.length = n ∧ r2.1.length = n ∧ n ≤ 900 ∧ k ≤ 1000000 ∧ (∀ x ∈ r1.1, M11.Bn k x) ∧ (∀ x ∈ r2.1, M11.Bn k x) ∧
  (0 < r1.2 ∧ 0 < r2.2 ∧ M11.Bn 499 r1.2 ∧ M11.Bn 499 r2.2 ∧ 499 ≤ k) ∧ ∀ z H', Same H H' → RwAt H' z (g r1 r2) → Q z H'
open TM in
def gBoth (r1 r2 : Rw) : Rw := M11.lowerR (List.zipWith (fun a b => a * b) r1.1 r2.1) (r1.2 * r2.2)
open TM in
def gPlus (r1 r2 : Rw) : Rw := M11.lowerR (List.zipWith (fun a b => a * r2.2 + b * r1.2) r1.1 r2.1) (r1.2 * r2.2)
theorem bot1000 {x y : Int} (hx : M11.Bn 499 x) (hy : M11.Bn 499 y) : (x * y).natAbs < 2 ^ 1000 := (hx.mul hy).mono (m := 1000) (by decide)
abbrev n2R : List Str := ["value", "other", "tops"]
theorem scBoth : FnScope n2R ["value", "other"] (defScope sBothRow) := ⟨rfl, rfl, rfl, by decide +kernel, rfl, by decide +kernel, by decide +kernel⟩
theorem lcBoth : LcScopes (defScope sBothRow) n2R (lcScope (asgVal (bodyAt sBothRow 0))) ["top", "other_top"] := ⟨by decide +kernel, rfl, by decide +kernel, by decide +kernel, by decide +kernel, by decide +kernel, by decide +kernel, by decide +kernel, by decide +kernel, by decide +kernel⟩
theorem ok_both {f fL : Addr} {fd fdL : FuncData} (B : BltR mg) (F : Fun K "one_by_one_product" "one_by_one_product" sBothRow f fd) (DL : Dn K mg "lowered" sLowered ["tops", "bottom"] fL fdL) (GL : FnOk P w K mg base CX0 3 fL fdL ["tops", "bottom"] spLowered) : FnOk P w K mg base CX0 4 f fd ["value", "other"] (sp2R gBoth) := by
  refine F.ok scBoth (fun vs H Q E h => ?_) (fun cdv A outer s H vs Q E hr h => ?_)
  · obtain ⟨v, u, r1, r2, k, n, rfl, _⟩ := h
    rfl
  · obtain ⟨v, u, r1, r2, k, n, rfl, ⟨p, l, rfl, hp, hl⟩, ⟨p', l', rfl, hp', hl'⟩, n1, n2, hn, hk, k1, k2, ⟨b1, b2, b3, b4, b5⟩, q⟩ := h
    refine ⟨_, pss_cons (ps_setLcs (i := 2) scBoth.nd rfl (Or.inl rfl) rfl lcBoth rfl (pi_zip rfl B.zip (pa_cons (pe_ix ix_tup (pv 0) pe_int (fun _ _ => rfl)) (pa_cons (pe_ix ix_tup (pv 1) pe_int (fun _ _ => rfl)) pa_nil))) (pg_two rfl lcBoth) (fun _ _ _ => pts_nil) (fun _ _ _ => pe_op op_mulN (pv 3) (pv 4)))
      (pss_one (ps_ret (pe_fn DL GL hr rfl (pa_cons (pv 2) (pa_cons (pe_op op_mulN (pe_ix ix_tup (pv 0) pe_int (fun _ _ => rfl)) (pe_ix ix_tup (pv 1) pe_int (fun _ _ => rfl))) pa_nil))))), ?_⟩
    refine ⟨_, rfl, p, _, _, _, rfl, rfl, SqT.of hp, rfl, _, rfl, p', _, _, _, rfl, rfl, SqT.of hp', rfl, l, l', rfl, ⟨_, SqL.of hl⟩, ⟨_, SqL.of hl'⟩, ?_⟩
    refine lc_zip ((List.zipWith (fun x y => x * y) r1.1 r2.1).map V.int) rfl (SqL.of hl) (SqL.of hl') (by rw [List.length_map, List.length_map, List.length_zipWith]; omega) (by rw [List.length_map, List.length_map, List.length_zipWith]; omega) (by rw [List.length_map, List.length_zipWith]; omega) ?_ ?_ ?_
    · intro i x y v H' hx hy hv s'
      obtain ⟨x, ex, rfl⟩ := map_get hx
      obtain ⟨y, ey, rfl⟩ := map_get hy
      obtain ⟨z, ez, rfl⟩ := map_get hv
      rw [zip_get ex ey] at ez
      cases ez
      exact ⟨_, rfl, _, rfl, _, _, rfl, rfl, ⟨k, hk, k1 x (List.mem_of_getElem? ex), k2 y (List.mem_of_getElem? ey)⟩, rfl, Same.refl _⟩
    · intro D H' s' eD
      refine ⟨_, rfl, _, rfl, p, _, _, _, rfl, rfl, SqT.of (s' _ _ hp), rfl, _, rfl, p', _, _, _, rfl, rfl, SqT.of (s' _ _ hp'), rfl, _, _, rfl, rfl, ⟨499, by decide, b3, b4⟩, D, _, _, rfl, eD, Int.mul_pos b1 b2, bot1000 b3 b4, by rw [List.length_zipWith]; omega, fun z H'' s'' rz => q z H'' (s'.trans s'') rz⟩
    · rintro σ H' Q1 Q2 hq ⟨v, e, v', e', i, j, a1, a2, a3, g⟩
      exact ⟨v, e, v', e', i, j, a1, a2, a3, hq _ _ g⟩
theorem scPlusR : FnScope n2R ["value", "other"] (defScope sPlusRow) := ⟨rfl, rfl, rfl, by decide +kernel, rfl, by decide +kernel, by decide +kernel⟩
theorem lcPlusR : LcScopes (defScope sPlusRow) n2R (lcScope (asgVal (bodyAt sPlusRow 0))) ["top", "other_top"] := ⟨by decide +kernel, rfl, by decide +kernel, by decide +kernel, by decide +kernel, by decide +kernel, by decide +kernel, by decide +kernel, by decide +kernel, by decide +kernel⟩
theorem ok_plusR {f fL : Addr} {fd fdL : FuncData} (B : BltR mg) (F : Fun K "one_by_one_sum" "one_by_one_sum" sPlusRow f fd) (DL : Dn K mg "lowered" sLowered ["tops", "bottom"] fL fdL) (GL : FnOk P w K mg base CX0 3 fL fdL ["tops", "bottom"] spLowered) : FnOk P w K mg base CX0 4 f fd ["value", "other"] (sp2R gPlus) := by
  refine F.ok scPlusR (fun vs H Q E h => ?_) (fun cdv A outer s H vs Q E hr h => ?_)
  · obtain ⟨v, u, r1, r2, k, n, rfl, _⟩ := h
    rfl
  · obtain ⟨v, u, r1, r2, k, n, rfl, ⟨p, l, rfl, hp, hl⟩, ⟨p', l', rfl, hp', hl'⟩, n1, n2, hn, hk, k1, k2, ⟨b1, b2, b3, b4, b5⟩, q⟩ := h
    refine ⟨_, pss_cons (ps_setLcs (i := 2) scPlusR.nd rfl (Or.inl rfl) rfl lcPlusR rfl (pi_zip rfl B.zip (pa_cons (pe_ix ix_tup (pv 0) pe_int (fun _ _ => rfl)) (pa_cons (pe_ix ix_tup (pv 1) pe_int (fun _ _ => rfl)) pa_nil))) (pg_two rfl lcPlusR) (fun _ _ _ => pts_nil)
        (fun _ _ _ => pe_op op_add (pe_op op_mulN (pv 3) (pe_ix (ix_tupK (K := K)) (pv 1) pe_int (fun _ _ => rfl))) (pe_op op_mulN (pv 4) (pe_ix (ix_tupK (K := K)) (pv 0) pe_int (fun _ _ => rfl)))))
      (pss_one (ps_ret (pe_fn DL GL hr rfl (pa_cons (pv 2) (pa_cons (pe_op op_mulN (pe_ix ix_tup (pv 0) pe_int (fun _ _ => rfl)) (pe_ix ix_tup (pv 1) pe_int (fun _ _ => rfl))) pa_nil))))), ?_⟩
    refine ⟨_, rfl, p, _, _, _, rfl, rfl, SqT.of hp, rfl, _, rfl, p', _, _, _, rfl, rfl, SqT.of hp', rfl, l, l', rfl, ⟨_, SqL.of hl⟩, ⟨_, SqL.of hl'⟩, ?_⟩
    refine lc_zip ((List.zipWith (fun x y => x * r2.2 + y * r1.2) r1.1 r2.1).map V.int) rfl (SqL.of hl) (SqL.of hl') (by rw [List.length_map, List.length_map, List.length_zipWith]; omega) (by rw [List.length_map, List.length_map, List.length_zipWith]; omega) (by rw [List.length_map, List.length_zipWith]; omega) ?_ ?_ ?_
    · intro i x y v H' hx hy hv s'
      obtain ⟨x, ex, rfl⟩ := map_get hx
      obtain ⟨y, ey, rfl⟩ := map_get hy
      obtain ⟨z, ez, rfl⟩ := map_get hv
      rw [zip_get ex ey] at ez
      cases ez
      refine ⟨_, rfl, _, rfl, p', _, _, _, rfl, rfl, SqT.of (s' _ _ hp'), rfl, _, _, rfl, rfl, ⟨k, hk, k1 x (List.mem_of_getElem? ex), b4.mono b5⟩, ?_⟩
      exact ⟨_, rfl, _, rfl, p, _, _, _, rfl, rfl, SqT.of (s' _ _ hp), rfl, _, _, rfl, rfl, ⟨k, hk, k2 y (List.mem_of_getElem? ey), b3.mono b5⟩, _, _, rfl, rfl, rfl, Same.refl _⟩
    · intro D H' s' eD
      refine ⟨_, rfl, _, rfl, p, _, _, _, rfl, rfl, SqT.of (s' _ _ hp), rfl, _, rfl, p', _, _, _, rfl, rfl, SqT.of (s' _ _ hp'), rfl, _, _, rfl, rfl, ⟨499, by decide, b3, b4⟩, D, _, _, rfl, eD, Int.mul_pos b1 b2, bot1000 b3 b4, by rw [List.length_zipWith]; omega, fun z H'' s'' rz => q z H'' (s'.trans s'') rz⟩
    · rintro σ H' Q1 Q2 hq ⟨v, e, v1, e1, a1, a2, a3, a4, a5, a6, a7, a8, i, j, a9, a10, a11, v2, e2, v3, e3, c1, c2, c3, c4, c5, c6, c7, c8, i', j', c9, c10, c11, i2, j2, d1, d2, g⟩
      exact ⟨v, e, v1, e1, a1, a2, a3, a4, a5, a6, a7, a8, i, j, a9, a10, a11, v2, e2, v3, e3, c1, c2, c3, c4, c5, c6, c7, c8, i', j', c9, c10, c11, i2, j2, d1, d2, hq _ _ g⟩
/-! ### many_times -/
open TM in
def spMany (K : PySem.W.Frag) : Sp := fun vs H Q _ => ∃ (fa : Addr) (v : V) (a b : Int) (r : Rw) (k : Nat), vs = [.ref fa, v] ∧ SqT K H fa [.int a, .int b] ∧ RwAt H v r ∧ r.1.length ≤ 900 ∧ k ≤ 1000000 ∧ M11.Bn k a ∧ (∀ x ∈ r.1, M11.Bn k x) ∧ 0 < b ∧ 0 < r.2 ∧ M11.Bn 499 b ∧ M11.Bn 499 r.2 ∧
  ∀ z H', Same H H' → RwAt H' z (M11.manyR a b r.1 r.2) → Q z H'
abbrev nMany : List Str := ["f", "value", "from_top", "from_bottom", "top", "bottom"]
theorem scMany : FnScope nMany ["f", "value"] (defScope sManyRow) := ⟨rfl, rfl, rfl, by decide +kernel, rfl, by decide +kernel, by decide +kernel⟩
theorem lcMany : LcScopes (defScope sManyRow) nMany (lcScope (tupAt (asgVal (bodyAt sManyRow 4)) 0)) ["number"] := ⟨by decide +kernel, rfl, by decide +kernel, by decide +kernel, by decide +kernel, by decide +kernel, by decide +kernel, by decide +kernel, by decide +kernel, by decide +kernel⟩
theorem fdiv_le {g t : Int} (hg : 0 < g) (h : g ∣ t) : (t.fdiv g).natAbs ≤ t.natAbs := by
  obtain ⟨q, e1, e2⟩ := M11.fdiv_of_dvd hg h
  rw [e2, e1]
  exact M11.natAbs_le_of_mul (by omega)
theorem ok_many {f fG fA : Addr} {fd fdG fdA : FuncData} (F : Fun K "many_times" "many_times" sManyRow f fd) (DG : Dn K mg "greatest_divisor" sGd ["number", "other"] fG fdG) (GG : FnOk P w K mg base CX0 1 fG fdG ["number", "other"] spG)
    (DA' : Dn K mg "shared_by_all" sAll ["divisor", "tops"] fA fdA) (GA : FnOk P w K mg base CX0 2 fA fdA ["divisor", "tops"] spAll) : FnOk P w K mg base CX0 3 f fd ["f", "value"] (spMany K) := by
  refine F.ok scMany (fun vs H Q E h => ?_) (fun cdv A outer s H vs Q E hr h => ?_)
  · obtain ⟨fa, v, a, b, r, k, rfl, _⟩ := h
    rfl
  · obtain ⟨fa, v, a, c, r, k, rfl, hf, ⟨p, l, rfl, hp, hl⟩, hn, hk, ka, kr, b1, b2, b3, b4, q⟩ := h
    have r1 := hr.mono (j := 1) (by decide)
    refine ⟨_, pss_cons (ps_set (i := 2) scMany.nd rfl (Or.inl rfl) (pe_fn DG GG r1 rfl (pa_cons (pe_ix ix_tup (pv 0) pe_int (fun _ _ => rfl)) (pa_cons (pe_ix ix_tup (pv 1) pe_int (fun _ _ => rfl)) pa_nil))))
      (pss_cons (ps_set (i := 3) scMany.nd rfl (Or.inr rfl) (pe_fn DA' GA hr rfl (pa_cons (pe_ix ix_tup (pv 0) pe_int (fun _ _ => rfl)) (pa_cons (pe_ix ix_tup (pv 1) pe_int (fun _ _ => rfl)) pa_nil))))
      (pss_cons (ps_set (i := 4) scMany.nd rfl (Or.inr rfl) (pe_op op_fdivB (pe_ix ix_tup (pv 0) pe_int (fun _ _ => rfl)) (pv 2)))
      (pss_cons (ps_set (i := 5) scMany.nd rfl (Or.inl rfl) (pe_op op_mulN (pe_op op_fdivB (pe_ix ix_tup (pv 0) pe_int (fun _ _ => rfl)) (pv 3)) (pe_op op_fdivB (pe_ix ix_tup (pv 1) pe_int (fun _ _ => rfl)) (pv 2))))
      (pss_one (ps_ret (pe_tup (pa_cons (pe_lc1 rfl lcMany rfl (pi_list (pe_ix ix_tup (pv 1) pe_int (fun _ _ => rfl))) (fun _ _ _ => pe_op op_mulN (pv 4) (pe_op op_fdivB (pv 6) (pv 3)))) (pa_cons (pv 5) pa_nil)))))))), ?_⟩
    obtain ⟨g1, g2, g3⟩ := M11.foldG_spec r.1 c b1
    have g4 := foldG_le b1 r.1
    have p1 : 0 < M11.G a r.2 := Int.ofNat_lt.mpr (Int.gcd_pos_of_ne_zero_right a (by omega))
    have p2 : M11.G a r.2 ≤ r.2 := Int.le_of_dvd b2 (Int.gcd_dvd_right a r.2)
    have z3 : c.natAbs < 2 ^ 1000 := b3.mono (m := 1000) (by decide)
    have z4 : r.2.natAbs < 2 ^ 1000 := b4.mono (m := 1000) (by decide)
    have d1 : ∀ u, CDivB u (M11.G a r.2) := fun u => ⟨by omega, Nat.lt_of_le_of_lt (show (M11.G a r.2).natAbs ≤ r.2.natAbs by omega) z4⟩
    have d2 : ∀ u, CDivB u (M11.foldG c r.1) := fun u => ⟨by omega, Nat.lt_of_le_of_lt g4 z3⟩
    clear z3 z4
    refine ⟨_, rfl, fa, _, _, _, rfl, rfl, hf, rfl, _, rfl, p, _, _, _, rfl, rfl, SqT.of hp, rfl, a, r.2, rfl, ?_⟩
    refine ⟨_, rfl, fa, _, _, _, rfl, rfl, hf, rfl, _, rfl, p, _, _, _, rfl, rfl, SqT.of hp, rfl, l, r.1, c, rfl, hl, ?_⟩
    refine ⟨_, rfl, fa, _, _, _, rfl, rfl, hf, rfl, _, rfl, _, _, rfl, rfl, d1 _, ?_⟩
    refine ⟨_, rfl, fa, _, _, _, rfl, rfl, hf, rfl, _, rfl, _, _, rfl, rfl, d2 _, _, rfl, p, _, _, _, rfl, rfl, SqT.of hp, rfl, _, rfl, _, _, rfl, rfl, d1 _, _, _, rfl, rfl, ⟨499, by decide, b3.le (fdiv_le g1 g2), b4.le (fdiv_le p1 (Int.gcd_dvd_right a r.2))⟩, ?_⟩
    refine ⟨_, rfl, p, _, _, _, rfl, rfl, SqT.of hp, rfl, l, rfl, ⟨_, SqL.of hl⟩, fun D hD => ?_⟩
    refine lc_vals (r.1.map fun t => V.int (a.fdiv (M11.G a r.2) * t.fdiv (M11.foldG c r.1))) (by rw [List.length_map, List.length_map]) (by rw [List.length_map]; exact hn) hD (SqL.of hl) ?_ ?_ ?_
    · intro i x v H' hx hv s'
      obtain ⟨t, ht, rfl⟩ := map_get hx
      obtain ⟨t', ht', rfl⟩ := map_get hv
      rw [ht] at ht'
      cases ht'
      exact ⟨_, rfl, _, rfl, _, rfl, _, _, rfl, rfl, d2 _, _, _, rfl, rfl, ⟨k, hk, ka.le (fdiv_le p1 (Int.gcd_dvd_left a r.2)), (kr t (List.mem_of_getElem? ht)).le (fdiv_le g1 (g3 t (List.mem_of_getElem? ht)))⟩, rfl, Same.refl _⟩
    · intro H' s' eD
      refine ⟨_, rfl, (by show 2 ≤ sizeLine; decide), fun p' hp' => ?_⟩
      refine q _ _ (s'.trans (Same.upd hp')) ⟨p', D, rfl, upd_same, ?_⟩
      rw [upd_ne (ne_of_none eD hp'), eD]
      unfold M11.manyR
      rw [List.map_map]
      rfl
    · rintro σ H' Q1 Q2 hq ⟨v, e, v', e', v2, e2, i, j, a1, a2, a3, i', j', c1, c2, c3, g⟩
      exact ⟨v, e, v', e', v2, e2, i, j, a1, a2, a3, i', j', c1, c2, c3, hq _ _ g⟩
end

/-! row_by_kind, row_over_one_bottom, row_of, total_of -/
section
variable {P : Program} {w : World} {K : PySem.W.Frag} {mg : Str → Option Value} {base : Heap}
theorem sne {a b : Str} (h : a ≠ b) : ¬ V.str a = V.str b := fun z => h (V.str.inj z)
theorem ones_map (k : Nat) : (List.replicate k [V.int 1]).flatten = (List.replicate k (1 : Int)).map V.int := by
  induction k with
  | zero => rfl
  | succ k ih => rw [List.replicate_succ, List.flatten_cons, ih, List.replicate_succ, List.map_cons]; rfl
open TM in
/-- rows of terms, one behind the other -/
def RwsAt (H : Hp) (ps : List V) (hs : List Int) (M : List (List Int)) (ks : List Tm) : Prop := ps.length = ks.length ∧ ∀ (i : Nat) (p : V) (k : Tm), ps[i]? = some p → ks[i]? = some k → RwAt H p (rowR hs M k)
open TM in
theorem RwsAt.mono {H H' : Hp} {ps : List V} {hs : List Int} {M : List (List Int)} {ks : List Tm} (h : RwsAt H ps hs M ks) (s : Same H H') : RwsAt H' ps hs M ks := ⟨h.1, fun i p k h1 h2 => (h.2 i p k h1 h2).mono s⟩
open TM in
theorem RwsAt.split {H : Hp} {ps : List V} {hs : List Int} {M : List (List Int)} {a b : List Tm} (h : RwsAt H ps hs M (a ++ b)) : ∃ x y, ps = x ++ y ∧ RwsAt H x hs M a ∧ RwsAt H y hs M b := by
  have hl := h.1
  rw [List.length_append] at hl
  have l1 : (ps.take a.length).length = a.length := by rw [List.length_take]; omega
  have l2 : (ps.drop a.length).length = b.length := by rw [List.length_drop]; omega
  refine ⟨ps.take a.length, ps.drop a.length, (List.take_append_drop _ _).symm, ⟨l1, fun i p k h1 h2 => ?_⟩, ⟨l2, fun i p k h1 h2 => ?_⟩⟩
  · have hi : i < a.length := (List.getElem?_eq_some_iff.mp h2).1
    rw [List.getElem?_take_of_lt hi] at h1
    exact h.2 i p k h1 (by rw [List.getElem?_append_left hi]; exact h2)
  · rw [List.getElem?_drop] at h1
    exact h.2 (a.length + i) p k h1 (by rw [List.getElem?_append_right (by omega), Nat.add_sub_cancel_left]; exact h2)
open TM in
theorem RwsAt.snoc {H : Hp} {ps : List V} {hs : List Int} {M : List (List Int)} {a : List Tm} {p : V} {t : Tm} (h : RwsAt H ps hs M a) (hp : RwAt H p (rowR hs M t)) : RwsAt H (ps ++ [p]) hs M (a ++ [t]) := by
  refine ⟨by rw [List.length_append, List.length_append, h.1]; rfl, fun i p' k h1 h2 => ?_⟩
  by_cases hi : i < ps.length
  · rw [List.getElem?_append_left hi] at h1
    rw [List.getElem?_append_left (by rw [← h.1]; exact hi)] at h2
    exact h.2 i p' k h1 h2
  · rw [List.getElem?_append_right (by omega)] at h1
    rw [List.getElem?_append_right (by rw [← h.1]; omega), ← h.1] at h2
    cases e : i - ps.length with
    | zero => rw [e] at h1 h2; cases h1; cases h2; exact hp
    | succ j => rw [e] at h1; cases h1
open TM in
def spByKind (K : PySem.W.Frag) : Sp := fun vs H Q _ => ∃ (wA q : Addr) (v : V) (t : Tm) (hs : List Int) (M : List (List Int)) (n : Nat) (ps : List V), vs = [.ref wA, v, .ref q] ∧ WR H wA hs M ∧ MOk n hs M ∧ t.good ∧ t.size ≤ 1000 ∧ t.mans ≤ 12 ∧ DA K any H v t.dat ∧ H q = some (.lst ps) ∧ RwsAt H ps hs M t.kids ∧
  ∀ z H', Same H H' → RwAt H' z (rowR hs M t) → Q z H'
open TM in
theorem bot499 {n s m : Nat} {r : Rw} (h : RwOk n s m r) (hm : m ≤ 12) : M11.Bn 499 r.2 := (pos_pow h.pos h.bot).mono (by omega)
open TM in
theorem tops3 {n s m : Nat} {r : Rw} (h : RwOk n s m r) (hs : s ≤ 1000) : ∀ x ∈ r.1, M11.Bn 300000 x := fun x hx => (h.tops x hx).mono (by omega)
/-! ### tops_of_leaf -/
open TM in
def spLeaf (K : PySem.W.Frag) : Sp := fun vs H Q _ => ∃ (wA : Addr) (v : V) (t : Tm) (hs : List Int) (M : List (List Int)) (n : Nat), vs = [.ref wA, v] ∧ WR H wA hs M ∧ MOk n hs M ∧ DA K any H v t.dat ∧ t.kids = [] ∧ ∀ D H', Same H H' → H' D = some (.lst ((rowR hs M t).1.map V.int)) → Q (.ref D) H'
abbrev nLeaf : List Str := ["web", "term", "size", "kind"]
theorem scLeaf : FnScope nLeaf ["web", "term"] (defScope sLeaf) := ⟨rfl, rfl, rfl, by decide +kernel, rfl, by decide +kernel, by decide +kernel⟩
def ifIn (st : Stmt) : Expr := match st with
  | .If _ (b :: _) _ _ => asgVal b
  | _ => .Constant .none 0 ⟨0, 0, 0, 0⟩
theorem lcLeaf : LcScopes (defScope sLeaf) nLeaf (lcScope (ifIn (bodyAt sLeaf 3))) ["hue"] := ⟨by decide +kernel, rfl, by decide +kernel, by decide +kernel, by decide +kernel, by decide +kernel, by decide +kernel, by decide +kernel, by decide +kernel, by decide +kernel⟩
open TM in
theorem ok_leaf {f : Addr} {fd : FuncData} (B : BltR mg) (F : Fun K "tops_of_leaf" "tops_of_leaf" sLeaf f fd) : FnOk P w K mg base CX0 1 f fd ["web", "term"] (spLeaf K) := by
  refine F.ok scLeaf (fun vs H Q E h => ?_) (fun cdv A outer s H vs Q E hr h => ?_)
  · obtain ⟨wA, v, t, hs, M, n, rfl, _⟩ := h
    rfl
  · obtain ⟨wA, v, t, hs, M, n, rfl, hW, hM, hT, hk0, k⟩ := h
    obtain ⟨p, pre, ks, rfl, hp, hk, dk, hhue, hmany⟩ := tm_at t hT
    obtain ⟨hA, rA, rs, w1, w2, w3, R⟩ := hW.ex
    have hn : hs.length ≤ 900 := by have := hM.hl; have := hM.few; omega
    refine ⟨_, pss_cons (ps_set (i := 2) scLeaf.nd rfl (Or.inl rfl) (pe_callB call_len_seq (by rfl) B.len PySem.boot_len (pa_cons (pe_ix ix_tup (pv 0) pe_int (fun _ _ => rfl)) pa_nil)))
      (pss_cons (ps_set (i := 3) scLeaf.nd rfl (Or.inl rfl) (pe_ix ix_tup (pv 1) pe_int (fun _ _ => rfl)))
      (pss_cons (ps_if (pt_cmpR op_eq (pv 3) pe_str (nomark _)) (pss_one (ps_ret (pe_op op_rep (pe_lst (pa_cons pe_int pa_nil)) (pv 2)))) pss_nil)
      (pss_cons (ps_if (pt_cmpR op_eq (pv 3) pe_str (nomark _)) (pss_one (ps_ret (pe_lc1 rfl lcLeaf rfl (pi_list (pe_ix ix_tup (pv 0) pe_int (fun _ _ => rfl))) (fun _ _ _ => pe_ifExp (pt_cmpR op_eq (pv 4) (pe_ix (ix_tupK (K := K)) (pv 1) pe_int (fun _ _ => rfl)) (nomark _)) pe_int pe_int)))) pss_nil)
      pss_never))), ?_⟩
    refine ⟨_, rfl, wA, _, _, _, rfl, rfl, SqT.of w1, rfl, hA, _, rfl, .inl (SqL.of w2), ?_⟩
    refine ⟨_, rfl, p, _, _, _, rfl, rfl, hp, at_hd _ _, ?_⟩
    refine ⟨_, rfl, rfl, _, rfl, ?_⟩
    cases t with
    | one =>
      refine itDP rfl ?_
      refine ⟨(by show 1 ≤ sizeLine; decide), fun l1 hl1 => ?_⟩
      refine ⟨_, rfl, l1, _, _, rfl, rfl, upd_same, by omega, by rw [List.length_map]; omega, Nat.le_of_lt (small1000 (by show 1 * ((((hs.map V.int).length : Nat) : Int)).toNat ≤ 1000; rw [List.length_map]; omega)), fun l2 hl2 => ?_⟩
      refine k _ _ ((Same.upd hl1).trans (Same.upd hl2)) ?_
      rw [upd_same, Int.toNat_natCast, List.length_map, ones_map]
      rfl
    | hue c =>
      refine itDN (sne (show ("hue" : Str) ≠ "one" by decide +kernel)) ?_
      refine ⟨_, rfl, rfl, _, rfl, itDP rfl ?_⟩
      have hp2 := hp
      rw [hhue c rfl] at hp2
      refine ⟨_, rfl, wA, _, _, _, rfl, rfl, SqT.of w1, rfl, hA, rfl, ⟨_, SqL.of w2⟩, fun D hD => ?_⟩
      refine lc_vals (hs.map fun h => V.int (if h = c then 1 else 0)) (by rw [List.length_map, List.length_map]) (by rw [List.length_map]; omega) hD (SqL.of w2) ?_ ?_ ?_
      · intro i x v H' hx hv s'
        obtain ⟨t, ht, rfl⟩ := map_get hx
        obtain ⟨t', ht', rfl⟩ := map_get hv
        rw [ht] at ht'
        cases ht'
        refine ⟨_, rfl, _, rfl, p, _, _, _, rfl, rfl, s'.seqT hp2, at_snd _ _ _, rfl, _, rfl, ?_⟩
        by_cases e : t = c
        · subst e
          refine itDP rfl ⟨?_, Same.refl _⟩
          rw [if_pos rfl]
        · refine itDN (fun z => e (V.int.inj z)) ⟨?_, Same.refl _⟩
          rw [if_neg e]
      · intro H' s' eD
        refine k D H' s' ?_
        rw [eD]
        show _ = some (HO.lst ((hs.map fun h => if h = c then (1 : Int) else 0).map V.int))
        rw [List.map_map]
        rfl
      · rintro σ H' Q1 Q2 hq ⟨v, e, v', e', a1, a2, a3, a4, a5, a6, a7, a8, e2, c', e3, g⟩
        refine ⟨v, e, v', e', a1, a2, a3, a4, a5, a6, a7, a8, e2, c', e3, ?_⟩
        cases c' with
        | true => exact iteT (hq _ _ (by rw [if_pos rfl] at g; exact g))
        | false => exact iteF (hq _ _ (by rw [if_neg Bool.false_ne_true] at g; exact g))
    | near t => cases hk0
    | both t u => cases hk0
    | plus t u => cases hk0
    | many a b t => cases hk0
/-! ### tops_from_one -/
open TM in
def spFromOne : Sp := fun vs H Q _ => ∃ (wA l : Addr) (hs : List Int) (M : List (List Int)) (r : List Int) (n : Nat), vs = [.ref wA, .str "near", .ref l] ∧ WR H wA hs M ∧ H l = some (.lst (r.map V.int)) ∧ M.length ≤ 900 ∧ r.length ≤ 900 ∧ n ≤ 1000000 ∧ (∀ x ∈ M, x.length = r.length ∧ ∀ z ∈ x, M11.Bn n z) ∧ (∀ x ∈ r, M11.Bn n x) ∧
  ∀ D H', Same H H' → H' D = some (.lst ((M.map fun w => dot w r).map V.int)) → Q (.ref D) H'
abbrev nFromOne : List Str := ["web", "kind", "tops", "rows"]
theorem scFromOne : FnScope nFromOne ["web", "kind", "tops"] (defScope sFromOne) := ⟨rfl, rfl, rfl, by decide +kernel, rfl, by decide +kernel, by decide +kernel⟩
theorem ok_fromOne {f fS : Addr} {fd fdS : FuncData} (F : Fun K "tops_from_one" "tops_from_one" sFromOne f fd) (DS : Dn K mg "sums_with_each" sSums ["numbers", "rows"] fS fdS) (GS : FnOk P w K mg base CX0 2 fS fdS ["numbers", "rows"] spSums) : FnOk P w K mg base CX0 3 f fd ["web", "kind", "tops"] spFromOne := by
  refine F.ok scFromOne (fun vs H Q E h => ?_) (fun cdv A outer s H vs Q E hr h => ?_)
  · obtain ⟨wA, l, hs, M, r, n, rfl, _⟩ := h
    rfl
  · obtain ⟨wA, l, hs, M, r, n, rfl, hW, hl, h1, h2, h3, h4, h5, k⟩ := h
    obtain ⟨hA, rA, rs, w1, w2, w3, R⟩ := hW.ex
    refine ⟨_, pss_cons (ps_if (pt_cmpR op_eq (pv 1) pe_str (nomark _)) (pss_one (ps_ret (pe_fn DS GS hr rfl (pa_cons (pv 2) (pa_cons (pe_ix ix_tup (pv 0) pe_int (fun _ _ => rfl)) pa_nil))))) pss_nil) pss_never, ?_⟩
    refine ⟨_, rfl, rfl, _, rfl, itDP rfl ?_⟩
    exact ⟨_, rfl, _, rfl, wA, _, _, _, rfl, rfl, SqT.of w1, rfl, rA, l, M, r, n, rfl, ⟨rs, w3, R⟩, hl, h1, h2, h3, h4, h5, k⟩
/-! ### value_from_two -/
open TM in
def spTwo : Sp := fun vs H Q _ => ∃ (wv : V) (b : Bool) (v u : V) (r1 r2 : Rw) (k n : Nat), vs = [wv, .str (if b = true then "plus" else "both"), v, u] ∧ RwAt H v r1 ∧ RwAt H u r2 ∧ r1.1.length = n ∧ r2.1.length = n ∧ n ≤ 900 ∧ k ≤ 1000000 ∧ (∀ x ∈ r1.1, M11.Bn k x) ∧ (∀ x ∈ r2.1, M11.Bn k x) ∧
  (0 < r1.2 ∧ 0 < r2.2 ∧ M11.Bn 499 r1.2 ∧ M11.Bn 499 r2.2 ∧ 499 ≤ k) ∧ ∀ z H', Same H H' → RwAt H' z (if b = true then gPlus r1 r2 else gBoth r1 r2) → Q z H'
abbrev nTwo : List Str := ["web", "kind", "value", "other"]
theorem scTwo : FnScope nTwo nTwo (defScope sTwo) := ⟨rfl, rfl, rfl, by decide +kernel, rfl, by decide +kernel, by decide +kernel⟩
theorem ok_two {f fB fP : Addr} {fd fdB fdP : FuncData} (F : Fun K "value_from_two" "value_from_two" sTwo f fd)
    (DB : Dn K mg "one_by_one_product" sBothRow ["value", "other"] fB fdB) (GB : FnOk P w K mg base CX0 4 fB fdB ["value", "other"] (sp2R gBoth))
    (DP : Dn K mg "one_by_one_sum" sPlusRow ["value", "other"] fP fdP) (GP : FnOk P w K mg base CX0 4 fP fdP ["value", "other"] (sp2R gPlus)) : FnOk P w K mg base CX0 5 f fd nTwo spTwo := by
  refine F.ok scTwo (fun vs H Q E h => ?_) (fun cdv A outer s H vs Q E hr h => ?_)
  · obtain ⟨wv, b, v, u, r1, r2, k, n, rfl, _⟩ := h
    rfl
  · obtain ⟨wv, b, v, u, r1, r2, k, n, rfl, h1, h2, h3, h4, h5, h6, h7, h8, h9, q⟩ := h
    refine ⟨_, pss_cons (ps_if (pt_cmpR op_eq (pv 1) pe_str (nomark _)) (pss_one (ps_ret (pe_fn DP GP hr rfl (pa_cons (pv 2) (pa_cons (pv 3) pa_nil))))) pss_nil)
      (pss_cons (ps_if (pt_cmpR op_eq (pv 1) pe_str (nomark _)) pss_never pss_nil)
      (pss_one (ps_ret (pe_fn DB GB hr rfl (pa_cons (pv 2) (pa_cons (pv 3) pa_nil)))))), ?_⟩
    refine ⟨_, rfl, rfl, _, rfl, ?_⟩
    cases b with
    | true =>
      refine itDP rfl ?_
      exact ⟨_, rfl, _, rfl, v, u, r1, r2, k, n, rfl, h1, h2, h3, h4, h5, h6, h7, h8, h9, q⟩
    | false =>
      refine itDN (sne (show ("both" : Str) ≠ "plus" by decide +kernel)) ?_
      refine ⟨_, rfl, rfl, _, rfl, itDN (sne (show ("both" : Str) ≠ "then" by decide +kernel)) ?_⟩
      exact ⟨_, rfl, _, rfl, v, u, r1, r2, k, n, rfl, h1, h2, h3, h4, h5, h6, h7, h8, h9, q⟩
/-! ### value_by_kind -/
abbrev nByKind : List Str := ["web", "term", "inner_values", "kind", "value"]
theorem scByKind : FnScope nByKind ["web", "term", "inner_values"] (defScope sByKind) := ⟨rfl, rfl, rfl, by decide +kernel, rfl, by decide +kernel, by decide +kernel⟩
open TM in
theorem ok_byKind {f fE fO fT fM : Addr} {fd fdE fdO fdT fdM : FuncData} (B : BltR mg) (F : Fun K "value_by_kind" "value_by_kind" sByKind f fd)
    (DE : Dn K mg "tops_of_leaf" sLeaf ["web", "term"] fE fdE) (GE : FnOk P w K mg base CX0 1 fE fdE ["web", "term"] (spLeaf K))
    (DO : Dn K mg "tops_from_one" sFromOne ["web", "kind", "tops"] fO fdO) (GO : FnOk P w K mg base CX0 3 fO fdO ["web", "kind", "tops"] spFromOne)
    (DT : Dn K mg "value_from_two" sTwo nTwo fT fdT) (GT : FnOk P w K mg base CX0 5 fT fdT nTwo spTwo)
    (DM : Dn K mg "many_times" sManyRow ["f", "value"] fM fdM) (GM : FnOk P w K mg base CX0 3 fM fdM ["f", "value"] (spMany K)) : FnOk P w K mg base CX0 6 f fd ["web", "term", "inner_values"] (spByKind K) := by
  refine F.ok scByKind (fun vs H Q E h => ?_) (fun cdv A outer s H vs Q E hr h => ?_)
  · obtain ⟨wA, q, v, t, hs, M, n, ps, rfl, _⟩ := h
    rfl
  · obtain ⟨wA, q, v, t, hs, M, n, ps, rfl, hW, hM, hg, hz, hm, hT, hq, hps, k⟩ := h
    have r1 := hr.mono (j := 1) (by decide)
    have r3 := hr.mono (j := 3) (by decide)
    obtain ⟨p, pre, ks, rfl, hp, hk, dk, hhue, hmany⟩ := tm_at t hT
    have hn : hs.length ≤ 900 := by have := hM.hl; have := hM.few; omega
    refine ⟨_, pss_cons (ps_set (i := 3) scByKind.nd rfl (Or.inl rfl) (pe_ix ix_tup (pv 1) pe_int (fun _ _ => rfl)))
      (pss_cons (ps_if (pt_cmpR op_eq (pe_callB call_len_seq (by rfl) B.len PySem.boot_len (pa_cons (pv 2) pa_nil)) pe_int (nomark _)) (pss_one (ps_ret (pe_fn DT GT hr rfl (pa_cons (pv 0) (pa_cons (pv 3) (pa_cons (pe_ix ix_list (pv 2) pe_int (fun _ _ => rfl)) (pa_cons (pe_ix ix_list (pv 2) pe_int (fun _ _ => rfl)) pa_nil))))))) pss_nil)
      (pss_cons (ps_if (pt_cmpR op_eq (pe_callB call_len_seq (by rfl) B.len PySem.boot_len (pa_cons (pv 2) pa_nil)) pe_int (nomark _)) (pss_one (ps_ret (pe_tup (pa_cons (pe_fn DE GE r1 rfl (pa_cons (pv 0) (pa_cons (pv 1) pa_nil))) (pa_cons pe_int pa_nil))))) pss_nil)
      (pss_cons (ps_set (i := 4) scByKind.nd rfl (Or.inl rfl) (pe_ix ix_list (pv 2) pe_int (fun _ _ => rfl)))
      (pss_cons (ps_if (pt_cmpR op_eq (pv 3) pe_str (nomark _)) (pss_one (ps_ret (pe_fn DM GM r3 rfl (pa_cons (pe_ix ix_tup (pv 1) pe_int (fun _ _ => rfl)) (pa_cons (pv 4) pa_nil))))) pss_nil)
      (pss_one (ps_ret (pe_tup (pa_cons (pe_fn DO GO r3 rfl (pa_cons (pv 0) (pa_cons (pv 3) (pa_cons (pe_ix ix_tup (pv 4) pe_int (fun _ _ => rfl)) pa_nil)))) (pa_cons (pe_ix ix_tup (pv 4) pe_int (fun _ _ => rfl)) pa_nil))))))))), ?_⟩
    refine ⟨_, rfl, p, _, _, _, rfl, rfl, hp, at_hd _ _, ?_⟩
    refine ⟨_, rfl, q, _, rfl, .inl (SqL.of hq), rfl, _, rfl, ?_⟩
    have i02 : ¬ V.int 0 = V.int 2 := fun z => absurd (V.int.inj z) (by decide)
    have i12 : ¬ V.int 1 = V.int 2 := fun z => absurd (V.int.inj z) (by decide)
    have i10 : ¬ V.int 1 = V.int 0 := fun z => absurd (V.int.inj z) (by decide)
    have leaf : ∀ tt : Tm, tt = t → tt.kids = [] → (rowR hs M tt).2 = 1 → ps = [] → ∀ (Dn : Addr) H', Same H H' → H' Dn = some (.lst ((rowR hs M tt).1.map V.int)) → ∀ p', H' p' = none → Q (.ref p') (L2.upd H' p' (.tup [.ref Dn, .int 1])) := by
      rintro tt rfl _ e2 _ D' H' s' eD p' hp'
      refine k _ _ (s'.trans (Same.upd hp')) ⟨p', D', rfl, by rw [upd_same, e2], ?_⟩
      rw [upd_ne (ne_of_none eD hp')]
      exact eD
    obtain ⟨l1, l2⟩ := hps
    cases t with
    | one =>
      match ps, l1 with
      | [], _ =>
        refine itDN i02 ?_
        refine ⟨_, rfl, q, _, rfl, .inl (SqL.of hq), rfl, _, rfl, itDP rfl ?_⟩
        refine ⟨_, rfl, _, rfl, wA, _, .one, hs, M, n, rfl, hW, hM, hT, rfl, fun D' H' s' eD => ⟨(by show 2 ≤ sizeLine; decide), fun p' hp' => leaf .one rfl rfl rfl rfl D' H' s' eD p' hp'⟩⟩
    | hue c =>
      match ps, l1 with
      | [], _ =>
        refine itDN i02 ?_
        refine ⟨_, rfl, q, _, rfl, .inl (SqL.of hq), rfl, _, rfl, itDP rfl ?_⟩
        refine ⟨_, rfl, _, rfl, wA, _, .hue c, hs, M, n, rfl, hW, hM, hT, rfl, fun D' H' s' eD => ⟨(by show 2 ≤ sizeLine; decide), fun p' hp' => leaf (.hue c) rfl rfl rfl rfl D' H' s' eD p' hp'⟩⟩
    | near t =>
      match ps, l1 with
      | [x], _ =>
        have hx := l2 0 x t rfl rfl
        have ok := rowR_ok hM t hg
        simp only [Tm.size] at hz
        refine itDN i12 ?_
        refine ⟨_, rfl, q, _, rfl, .inl (SqL.of hq), rfl, _, rfl, itDN i10 ?_⟩
        refine ⟨_, rfl, q, _, _, _, rfl, rfl, SqL.of hq, at_hd _ _, ?_⟩
        refine ⟨_, rfl, rfl, _, rfl, itDN (sne (show ("near" : Str) ≠ "many" by decide +kernel)) ?_⟩
        obtain ⟨px, lx, rfl, hpx, hlx⟩ := hx
        refine ⟨_, rfl, _, rfl, _, rfl, px, _, _, _, rfl, rfl, SqT.of hpx, rfl, wA, lx, hs, M, (rowR hs M t).1, 300000, rfl, hW, hlx, by have := hM.ml; have := hM.few; omega, by rw [ok.len]; have := hM.few; omega, by decide, fun y hy => ?_, tops3 ok (by omega), fun D' H' s' eD => ?_⟩
        · obtain ⟨y1, y2⟩ := hM.row y hy
          exact ⟨by rw [ok.len]; exact y1, fun z hz' => (bn200 (y2 z hz')).mono (by decide)⟩
        · refine ⟨_, rfl, px, _, _, _, rfl, rfl, SqT.of (s' _ _ hpx), rfl, (by show 2 ≤ sizeLine; decide), fun p' hp' => ?_⟩
          refine k _ _ (s'.trans (Same.upd hp')) ⟨p', D', rfl, upd_same, ?_⟩
          rw [upd_ne (ne_of_none eD hp')]
          exact eD
    | both t u =>
      match ps, l1 with
      | [x, y], _ =>
        have hx := l2 0 x t rfl rfl
        have hy := l2 1 y u rfl rfl
        have ok1 := rowR_ok hM t hg.1
        have ok2 := rowR_ok hM u hg.2
        simp only [Tm.size] at hz
        simp only [Tm.mans] at hm
        refine itDP rfl ?_
        exact ⟨_, rfl, _, rfl, _, rfl, q, _, _, _, rfl, rfl, SqL.of hq, at_hd _ _, _, rfl, q, _, _, _, rfl, rfl, SqL.of hq, at_snd _ _ _, _, false, x, y, rowR hs M t, rowR hs M u, 300000, n, rfl, hx, hy, ok1.len, ok2.len, by have := hM.few; omega, by decide, tops3 ok1 (by omega), tops3 ok2 (by omega), ⟨ok1.pos, ok2.pos, bot499 ok1 (by omega), bot499 ok2 (by omega), by decide⟩, fun z H' s' rz => k z H' s' rz⟩
    | plus t u =>
      match ps, l1 with
      | [x, y], _ =>
        have hx := l2 0 x t rfl rfl
        have hy := l2 1 y u rfl rfl
        have ok1 := rowR_ok hM t hg.1
        have ok2 := rowR_ok hM u hg.2
        simp only [Tm.size] at hz
        simp only [Tm.mans] at hm
        refine itDP rfl ?_
        exact ⟨_, rfl, _, rfl, _, rfl, q, _, _, _, rfl, rfl, SqL.of hq, at_hd _ _, _, rfl, q, _, _, _, rfl, rfl, SqL.of hq, at_snd _ _ _, _, true, x, y, rowR hs M t, rowR hs M u, 300000, n, rfl, hx, hy, ok1.len, ok2.len, by have := hM.few; omega, by decide, tops3 ok1 (by omega), tops3 ok2 (by omega), ⟨ok1.pos, ok2.pos, bot499 ok1 (by omega), bot499 ok2 (by omega), by decide⟩, fun z H' s' rz => k z H' s' rz⟩
    | many a b t =>
      obtain ⟨fa, ef, hf⟩ := hmany a b t rfl
      have hp2 := hp
      rw [ef] at hp2
      match ps, l1 with
      | [x], _ =>
        have hx := l2 0 x t rfl rfl
        have ok := rowR_ok hM t hg.2
        simp only [Tm.size] at hz
        simp only [Tm.mans] at hm
        obtain ⟨g1, g2, g3, g4⟩ := hg.1
        refine itDN i12 ?_
        refine ⟨_, rfl, q, _, rfl, .inl (SqL.of hq), rfl, _, rfl, itDN i10 ?_⟩
        refine ⟨_, rfl, q, _, _, _, rfl, rfl, SqL.of hq, at_hd _ _, ?_⟩
        refine ⟨_, rfl, rfl, _, rfl, itDP rfl ?_⟩
        exact ⟨_, rfl, p, _, _, _, rfl, rfl, hp2, at_snd _ _ _, _, rfl, fa, x, a, b, rowR hs M t, 300000, rfl, hf, hx, by rw [ok.len]; have := hM.few; omega, by decide, (bn200 g1).mono (by decide), tops3 ok (by omega), g2, ok.pos, (pos_pow g2 g3).mono (by decide), bot499 ok (by omega), fun z H' s' rz => k z H' s' rz⟩
end

/-! row_over_one_bottom, row_of, total_of -/
section
variable {P : Program} {w : World} {K : PySem.W.Frag} {mg : Str → Option Value} {base : Heap}
/-- a statement whose end is told by a word of one's own -/
def tMid (t u : TS) : TS := fun D σ H => ∃ J : L2.St → Hp → Prop, t { D with nx := J } σ H ∧ ∀ σ' H', J σ' H' → u D σ' H'
theorem pss_mid {X : Cx} {st : Stmt} {rest : List Stmt} {t u : TS} (h1 : PS X st t) (h2 : PSs X rest u) : PSs X (st :: rest) (tMid t u) := by
  intro pins s σ H D I h
  obtain ⟨J, h, k⟩ := h
  refine wpAny_execs_cons (thn (h1 pins s σ H { D with nx := J } I h) fun f s1 q => ?_)
  cases f with
  | next =>
    obtain ⟨σ', H', I', q⟩ := q
    exact h2 pins s1 σ' H' D I' (k σ' H' q)
  | ret v => exact q
  | brk => exact q
  | cont => exact q
open TM in
structure TmW (K : PySem.W.Frag) (H : Hp) (wA : Addr) (v : V) (t : Tm) (hs : List Int) (M : List (List Int)) (n : Nat) : Prop where
  wr : WR H wA hs M
  mo : MOk n hs M
  good : t.good
  size : t.size ≤ 900
  mans : t.mans ≤ 12
  da : DA K any H v t.dat
open TM in
def spOver (K : PySem.W.Frag) : Sp := fun vs H Q _ => ∃ (wA : Addr) (v : V) (t : Tm) (hs : List Int) (M : List (List Int)) (n : Nat), vs = [.ref wA, v] ∧ TmW K H wA v t hs M n ∧ ∀ z H', Same H H' → RwAt H' z (rowR hs M t) → Q z H'
abbrev nOver : List Str := ["web", "term", "values", "part", "first"]
theorem scOver : FnScope nOver ["web", "term"] (defScope sOver) := ⟨rfl, rfl, rfl, by decide +kernel, rfl, by decide +kernel, by decide +kernel⟩
theorem das_at {ok : Addr → Prop} {H : Hp} : ∀ {ys : List V} {ds : List PyData}, DAs K ok H ys ds → ∀ (i : Nat) (x : V), ys[i]? = some x → ∃ d, ds[i]? = some d ∧ DA K ok H x d
  | _, _, .nil, i, x, h => by cases h
  | _, _, .cons a r, 0, x, h => by cases h; exact ⟨_, rfl, a⟩
  | _, _, .cons a r, i + 1, x, h => das_at r i x (by simpa using h)
open TM in
theorem ok_over {f fF fI fK : Addr} {fd fdF fdI fdK : FuncData} (B : BltR mg) (F : Fun K "value_of" "value_of" sOver f fd)
    (DF : Dn K mg "terms_innermost_first" sFirst ["term"] fF fdF) (GF : FnOk P w K mg base CX0 2 fF fdF ["term"] (spFirst K))
    (DI : Dn K mg "inner_terms" sInner ["term"] fI fdI) (GI : FnOk P w K mg base CX0 1 fI fdI ["term"] (spInner K))
    (DK : Dn K mg "value_by_kind" sByKind ["web", "term", "inner_values"] fK fdK) (GK : FnOk P w K mg base CX0 6 fK fdK ["web", "term", "inner_values"] (spByKind K)) : FnOk P w K mg base CX0 7 f fd ["web", "term"] (spOver K) := by
  refine F.ok scOver (fun vs H Q E h => ?_) (fun cdv A outer s H vs Q E hr h => ?_)
  · obtain ⟨wA, v, t, hs, M, n, rfl, _⟩ := h
    rfl
  · obtain ⟨wA, v, t, hs, M, n, rfl, hT, k⟩ := h
    have r1 := hr.mono (j := 1) (by decide)
    have r2 := hr.mono (j := 2) (by decide)
    refine ⟨_, pss_cons (ps_set (i := 2) scOver.nd rfl (Or.inl rfl) (pe_lst pa_nil))
      (pss_cons (ps_for PassesOwn.never rfl (pi_list (pe_fn DF GF r2 rfl (pa_cons (pv 1) pa_nil))) (pg_name (i := 3) scOver.nd rfl (Or.inl rfl))
        (pss_mid (ps_set (i := 4) scOver.nd rfl (Or.inl rfl) (pe_op op_sub (pe_callB call_len_seq (by rfl) B.len PySem.boot_len (pa_cons (pv 2) pa_nil)) (pe_callB call_len_seq (by rfl) B.len PySem.boot_len (pa_cons (pe_fn DI GI r1 rfl (pa_cons (pv 3) pa_nil)) pa_nil))))
        (pss_one (ps_set (i := 2) scOver.nd rfl (Or.inl rfl) (pe_op op_cat (pe_slice sl_list (pv 2) po_none (po_some (pv 4))) (pe_lst (pa_cons (pe_fn DK GK hr rfl (pa_cons (pv 0) (pa_cons (pv 3) (pa_cons (pe_slice sl_list (pv 2) (po_some (pv 4)) po_none) pa_nil)))) pa_nil)))))))
      (pss_one (ps_ret (pe_ix ix_list (pv 2) pe_int (fun _ _ => rfl))))), ?_⟩
    refine ⟨Nat.zero_le _, fun R0 hR0 => ?_⟩
    have s0 : Same H (L2.upd H R0 (.lst [])) := Same.upd hR0
    have e0 : L2.upd H R0 (.lst []) R0 = some (.lst []) := upd_same
    generalize L2.upd H R0 (.lst []) = Ha at s0 e0 ⊢
    refine ⟨_, rfl, v, t, H, rfl, s0, hT.da, hT.size, fun L fs H1 s1 eL dF => ?_⟩
    have lf := das_len dF
    rw [List.length_map] at lf
    have lp : t.pre.reverse.length = t.size := by rw [List.length_reverse, Tm.pre_len]
    have s01 := s0.trans s1
    refine ⟨L, rfl, ⟨_, SqL.of eL⟩, for_list (xs := fs) (fun i σ H' => ∃ (o3 o4 : Option V) (R : Addr) (ps : List V) (ss : List Tm), σ = [some (.ref wA), some v, some (.ref R), o3, o4] ∧ Same H1 H' ∧ H' R = some (.lst ps) ∧ RwsAt H' ps hs M ss ∧ Ch ss (t.pre.reverse.drop i) [t] ∧ ss.length ≤ i)
      ⟨none, none, R0, [], [], rfl, Same.refl _, s1 _ _ e0, ⟨rfl, fun i p k h _ => by cases h⟩, by simpa using t.chain [], Nat.le_refl _⟩ (fun i σ H' _ ⟨_, _, _, _, _, _, s', _⟩ => SqL.of (s' _ _ eL)) ?_ ?_⟩
    · rintro i x σ H2 hx ⟨o3, o4, R, ps, ss, rfl, s2, eR, hps, hch, hsl⟩
      obtain ⟨d, hd, dx⟩ := das_at dF i x hx
      obtain ⟨tm, htm, rfl⟩ := map_get hd
      have hi : i < t.pre.reverse.length := (List.getElem?_eq_some_iff.mp htm).1
      have edrop : t.pre.reverse.drop i = tm :: t.pre.reverse.drop (i + 1) := by
        rw [List.drop_eq_getElem_cons hi]
        congr 1
        rw [List.getElem?_eq_getElem hi] at htm
        exact Option.some.inj htm
      rw [edrop] at hch
      obtain ⟨Bs, rfl, hch'⟩ := hch.pop
      obtain ⟨xa, ya, rfl, hxa, hya⟩ := hps.split
      have hmem : tm ∈ t.pre := List.mem_reverse.mp (List.mem_of_getElem? htm)
      have tg : tm.good := Tm.pre_prop (p := fun z => z.good) (fun a b g h => Tm.kid_good g h) t hT.good tm hmem
      have ts : tm.size ≤ 900 := Tm.pre_prop (p := fun z => z.size ≤ 900) (fun a b g h => by have := Tm.kid_size h; omega) t hT.size tm hmem
      have tms : tm.mans ≤ 12 := Tm.pre_prop (p := fun z => z.mans ≤ 12) (fun a b g h => by have := Tm.kid_mans h; omega) t hT.mans tm hmem
      have s02 := s01.trans s2
      refine ⟨fun σ H3 => σ = [some (.ref wA), some v, some (.ref R), some x, some (.int ((xa.length : Nat) : Int))] ∧ Same H2 H3, ?_, ?_⟩
      · refine ⟨_, rfl, R, _, rfl, .inl (SqL.of eR), _, rfl, x, tm, H, rfl, s02, dx, fun q ks H3 s3 eq lk dk => ?_⟩
        refine ⟨q, _, rfl, .inr (SqT.of eq), _, _, rfl, rfl, ?_, s3⟩
        have ef : (((xa ++ ya).length : Nat) : Int) - ((ks.length : Nat) : Int) = ((xa.length : Nat) : Int) := by
          rw [List.length_append, hya.1, lk]; omega
        rw [← ef]
        rfl
      rintro σ3 H3 ⟨rfl, s3⟩
      refine ⟨_, rfl, _, rfl, _, rfl, R, _, rfl, SqL.of (s3 _ _ eR), fun p0 hp0 => ?_⟩
      rw [cut_ahead]
      have s4 : Same H3 (L2.upd H3 p0 (.lst xa)) := Same.upd hp0
      have e4 : L2.upd H3 p0 (.lst xa) p0 = some (.lst xa) := upd_same
      generalize L2.upd H3 p0 (.lst xa) = H4 at s4 e4 ⊢
      refine ⟨_, rfl, _, rfl, _, rfl, _, rfl, _, rfl, R, _, rfl, SqL.of (s4 _ _ (s3 _ _ eR)), fun p1 hp1 => ?_⟩
      rw [cut_behind]
      have s5 : Same H4 (L2.upd H4 p1 (.lst ya)) := Same.upd hp1
      have e5 : L2.upd H4 p1 (.lst ya) p1 = some (.lst ya) := upd_same
      generalize L2.upd H4 p1 (.lst ya) = H5 at s5 e5 ⊢
      have s35 := (s3.trans s4).trans s5
      have s05 := s02.trans s35
      refine ⟨wA, p1, x, tm, hs, M, n, ya, rfl, hT.wr.mono s05, hT.mo, tg, by omega, tms, dx.mono s05.keep (fun _ _ => trivial), e5, hya.mono s35, fun z H6 s6 rz => ?_⟩
      refine ⟨(by show 1 ≤ sizeLine; decide), fun p2 hp2 => ?_⟩
      have s7 : Same H6 (L2.upd H6 p2 (.lst [z])) := Same.upd hp2
      have e7 : L2.upd H6 p2 (.lst [z]) p2 = some (.lst [z]) := upd_same
      generalize L2.upd H6 p2 (.lst [z]) = H7 at s7 e7 ⊢
      have s57 := s6.trans s7
      refine ⟨p0, p2, xa, [z], rfl, rfl, s57 _ _ (s5 _ _ e4), e7, Nat.le_of_lt (small1000 (by
        have := hxa.1
        have h9 := hT.size
        have h8 : i < t.size := by rw [← lp]; exact hi
        rw [List.length_append] at hsl
        show xa.length + 1 ≤ 1000
        omega)), fun p3 hp3 => ?_⟩
      have s8 : Same H7 (L2.upd H7 p3 (.lst (xa ++ [z]))) := Same.upd hp3
      refine ⟨_, _, p3, xa ++ [z], Bs ++ [tm], rfl, ((s2.trans s35).trans s57).trans s8, upd_same, (hxa.mono ((s35.trans s57).trans s8)).snoc (rz.mono (s7.trans s8)), hch', ?_⟩
      rw [List.length_append] at hsl ⊢
      show _ + 1 ≤ _
      omega
    · rintro σ H2 ⟨o3, o4, R, ps, ss, rfl, s2, eR, hps, hch, hsl⟩
      have ed : t.pre.reverse.drop fs.length = [] := by rw [lf]; exact List.drop_length
      rw [ed] at hch
      have := hch.done
      subst this
      obtain ⟨l1, l2⟩ := hps
      match ps, l1 with
      | [z], _ =>
        exact ⟨_, rfl, R, _, _, _, rfl, rfl, SqL.of eR, at_hd _ _, k z H2 (s01.trans s2) (l2 0 z t rfl rfl)⟩
/-! ### row_of -/
def frV (H : Hp) (v : V) (l : Int × Int) : Prop := ∃ p, v = .ref p ∧ H p = some (tupF l)
open TM in
theorem low1000 {n s m : Nat} {r : Rw} (h : RwOk n s m r) (hm : m ≤ 12) : r.2 ≠ 0 ∧ r.2.natAbs < 2 ^ 1000 := ⟨Int.ne_of_gt h.pos, (bot499 h hm).mono (m := 1000) (by decide)⟩
/-! ### total_of -/
open TM in
def spTotalOf (K : PySem.W.Frag) : Sp := fun vs H Q _ => ∃ (wA : Addr) (v : V) (t : Tm) (hs : List Int) (M : List (List Int)) (n : Nat), vs = [.ref wA, v] ∧ TmW K H wA v t hs M n ∧ ∀ u H', Same H H' → frV H' u (M11.low (rowR hs M t).1.sum (rowR hs M t).2) → Q u H'
/-! ### total_of_value -/
open TM in
def spTov : Sp := fun vs H Q _ => ∃ (v : V) (r : Rw), vs = [v] ∧ RwAt H v r ∧ r.2 ≠ 0 ∧ r.2.natAbs < 2 ^ 1000 ∧ ∀ u H', Same H H' → frV H' u (M11.low r.1.sum r.2) → Q u H'
theorem scTov : FnScope ["value"] ["value"] (defScope sTov) := ⟨rfl, rfl, rfl, by decide +kernel, rfl, by decide +kernel, by decide +kernel⟩
theorem ok_tov {f fF : Addr} {fd fdF : FuncData} (B : BltR mg) (F : Fun K "total_of_value" "total_of_value" sTov f fd) (DF : Dn K mg "fraction_of" sFr ["top", "bottom"] fF fdF) (GF : FnOk P w K mg base CX0 2 fF fdF ["top", "bottom"] spF) : FnOk P w K mg base CX0 3 f fd ["value"] spTov := by
  refine F.ok scTov (fun vs H Q E h => ?_) (fun cdv A outer s H vs Q E hr h => ?_)
  · obtain ⟨v, r, rfl, _⟩ := h
    rfl
  · obtain ⟨v, r, rfl, ⟨p, l, rfl, hp, hl⟩, lz, l1000, q⟩ := h
    refine ⟨_, pss_one (ps_ret (pe_fn DF GF hr rfl (pa_cons (pe_callB (call_sum rfl) (by rfl) B.sum boot_sum (pa_cons (pe_ix ix_tup (pv 0) pe_int (fun _ _ => rfl)) pa_nil)) (pa_cons (pe_ix ix_tup (pv 0) pe_int (fun _ _ => rfl)) pa_nil)))), ?_⟩
    exact ⟨_, rfl, p, _, _, _, rfl, rfl, SqT.of hp, rfl, l, _, rfl, SqL.of hl, _, rfl, p, _, _, _, rfl, rfl, SqT.of hp, rfl, _, _, rfl, lz, l1000, fun p' hp' => q _ _ (Same.upd hp') ⟨p', rfl, upd_same⟩⟩
theorem scTot : FnScope ["web", "term"] ["web", "term"] (defScope sTot) := ⟨rfl, rfl, rfl, by decide +kernel, rfl, by decide +kernel, by decide +kernel⟩
open TM in
theorem ok_tot {f fO fF : Addr} {fd fdO fdF : FuncData} (F : Fun K "total_of_term" "total_of_term" sTot f fd) (DO : Dn K mg "value_of" sOver ["web", "term"] fO fdO) (GO : FnOk P w K mg base CX0 7 fO fdO ["web", "term"] (spOver K))
    (DF : Dn K mg "total_of_value" sTov ["value"] fF fdF) (GF : FnOk P w K mg base CX0 3 fF fdF ["value"] spTov) : FnOk P w K mg base CX0 8 f fd ["web", "term"] (spTotalOf K) := by
  refine F.ok scTot (fun vs H Q E h => ?_) (fun cdv A outer s H vs Q E hr h => ?_)
  · obtain ⟨wA, v, t, hs, M, n, rfl, _⟩ := h
    rfl
  · obtain ⟨wA, v, t, hs, M, n, rfl, hT, k⟩ := h
    have r3 := hr.mono (j := 3) (by decide)
    refine ⟨_, pss_one (ps_ret (pe_fn DF GF r3 rfl (pa_cons (pe_fn DO GO hr rfl (pa_cons (pv 0) (pa_cons (pv 1) pa_nil))) pa_nil))), ?_⟩
    refine ⟨_, rfl, _, rfl, wA, v, t, hs, M, n, rfl, hT, fun z H1 s1 hz => ?_⟩
    have ok := rowR_ok hT.mo t hT.good
    obtain ⟨lz, l1000⟩ := low1000 ok hT.mans
    exact ⟨z, _, rfl, hz, lz, l1000, fun u H' s' fu => k u H' (s1.trans s') fu⟩
theorem scTotalOf : FnScope ["web", "term"] ["web", "term"] (defScope sTotalOf) := ⟨rfl, rfl, rfl, by decide +kernel, rfl, by decide +kernel, by decide +kernel⟩
theorem ok_totalOf {f fO : Addr} {fd fdO : FuncData} (F : Fun K "total_of" "total_of" sTotalOf f fd) (DO : Dn K mg "total_of_term" sTot ["web", "term"] fO fdO) (GO : FnOk P w K mg base CX0 8 fO fdO ["web", "term"] (spTotalOf K)) : FnOk P w K mg base CX0 9 f fd ["web", "term"] (spTotalOf K) := by
  refine F.ok scTotalOf (fun vs H Q E h => ?_) (fun cdv A outer s H vs Q E hr h => ?_)
  · obtain ⟨wA, v, t, hs, M, n, rfl, _⟩ := h
    rfl
  · obtain ⟨wA, v, t, hs, M, n, rfl, hT, k⟩ := h
    exact ⟨_, pss_one (ps_ret (pe_fn DO GO hr rfl (pa_cons (pv 0) (pa_cons (pv 1) pa_nil)))), _, rfl, _, rfl, wA, v, t, hs, M, n, rfl, hT, k⟩
end

/-! TREES: what they are worth, their terms, their knots; how a knot is hung onto one -/
inductive Tr where
  | nd (i : Nat) (w : Option Int) (bs : List Tr)
def Tr.root : Tr → Nat
  | .nd i _ _ => i
def dWish : Option Int → PyData
  | none => .none
  | some c => .int c
def vWish : Option Int → V
  | none => .non
  | some c => .int c
def tmBase : Option Int → PyData
  | none => .tuple [.str "one"]
  | some c => .tuple [.str "hue", .int c]
mutual
def Tr.dat : Tr → PyData
  | .nd _ w bs => .tuple [dWish w, .list (Tr.dats bs)]
def Tr.dats : List Tr → List PyData
  | [] => []
  | t :: ts => t.dat :: Tr.dats ts
end
mutual
def Tr.term : Tr → PyData
  | .nd _ w bs => Tr.fold (tmBase w) bs
def Tr.fold (a : PyData) : List Tr → PyData
  | [] => a
  | t :: ts => Tr.fold (.tuple [.str "both", a, .tuple [.str "near", t.term]]) ts
end
mutual
def Tr.knots : Tr → Nat
  | .nd _ _ bs => 1 + Tr.knotss bs
def Tr.knotss : List Tr → Nat
  | [] => 0
  | t :: ts => t.knots + Tr.knotss ts
end
mutual
def Tr.deep : Tr → Nat
  | .nd _ _ bs => 1 + Tr.deeps bs
def Tr.deeps : List Tr → Nat
  | [] => 0
  | t :: ts => max t.deep (Tr.deeps ts)
end
mutual
def Tr.labs : Tr → List Nat
  | .nd i _ bs => i :: Tr.labss bs
def Tr.labss : List Tr → List Nat
  | [] => []
  | t :: ts => t.labs ++ Tr.labss ts
end
mutual
def Tr.add (j k : Nat) (wk : Option Int) : Tr → Tr
  | .nd i w bs => .nd i w (Tr.adds j k wk bs ++ if i = j then [.nd k wk []] else [])
def Tr.adds (j k : Nat) (wk : Option Int) : List Tr → List Tr
  | [] => []
  | t :: ts => t.add j k wk :: Tr.adds j k wk ts
end
mutual
def Tr.ok (ws : Nat → Option Int) (ch : Nat → List Nat) : Tr → Prop
  | .nd i w bs => w = ws i ∧ ch i = bs.map Tr.root ∧ Tr.oks ws ch bs
def Tr.oks (ws : Nat → Option Int) (ch : Nat → List Nat) : List Tr → Prop
  | [] => True
  | t :: ts => t.ok ws ch ∧ Tr.oks ws ch ts
end
theorem Tr.root_add (j k : Nat) (wk : Option Int) : ∀ t : Tr, (t.add j k wk).root = t.root
  | .nd i w bs => by rw [Tr.add]; rfl
theorem Tr.roots_adds (j k : Nat) (wk : Option Int) : ∀ ts : List Tr, (Tr.adds j k wk ts).map Tr.root = ts.map Tr.root
  | [] => by rw [Tr.adds]
  | t :: ts => by rw [Tr.adds, List.map_cons, List.map_cons, Tr.root_add, Tr.roots_adds j k wk ts]
theorem Tr.oks_app {ws : Nat → Option Int} {ch : Nat → List Nat} : ∀ {a b : List Tr}, Tr.oks ws ch a → Tr.oks ws ch b → Tr.oks ws ch (a ++ b)
  | [], b, _, h => h
  | t :: a, b, h, h2 => by
    rw [Tr.oks] at h
    rw [List.cons_append, Tr.oks]
    exact ⟨h.1, Tr.oks_app h.2 h2⟩
def hung (ch : Nat → List Nat) (j k : Nat) : Nat → List Nat := fun i => if i = j then ch j ++ [k] else ch i
mutual
theorem Tr.ok_add {ws : Nat → Option Int} {ch : Nat → List Nat} {j k : Nat} (hj : k ≠ j) (hk : ch k = []) : ∀ t : Tr, t.ok ws ch → (t.add j k (ws k)).ok ws (hung ch j k)
  | .nd i w bs, h => by
    rw [Tr.ok] at h
    rw [Tr.add, Tr.ok]
    refine ⟨h.1, ?_, Tr.oks_app (Tr.oks_adds hj hk bs h.2.2) ?_⟩
    · rw [List.map_append, Tr.roots_adds, ← h.2.1]
      unfold hung
      by_cases e : i = j
      · subst e
        rw [if_pos rfl, if_pos rfl]
        rfl
      · rw [if_neg e, if_neg e]
        simp
    · by_cases e : i = j
      · rw [if_pos e, Tr.oks, Tr.oks, Tr.ok, Tr.oks]
        refine ⟨⟨rfl, ?_, trivial⟩, trivial⟩
        unfold hung
        rw [if_neg hj, hk]
        rfl
      · rw [if_neg e, Tr.oks]
        trivial
theorem Tr.oks_adds {ws : Nat → Option Int} {ch : Nat → List Nat} {j k : Nat} (hj : k ≠ j) (hk : ch k = []) : ∀ ts : List Tr, Tr.oks ws ch ts → Tr.oks ws (hung ch j k) (Tr.adds j k (ws k) ts)
  | [], _ => by rw [Tr.adds, Tr.oks]; trivial
  | t :: ts, h => by
    rw [Tr.oks] at h
    rw [Tr.adds, Tr.oks]
    exact ⟨Tr.ok_add hj hk t h.1, Tr.oks_adds hj hk ts h.2⟩
end
theorem Tr.labss_app : ∀ a b : List Tr, Tr.labss (a ++ b) = Tr.labss a ++ Tr.labss b
  | [], b => by rw [Tr.labss]; rfl
  | t :: a, b => by rw [List.cons_append, Tr.labss, Tr.labss, Tr.labss_app a b, List.append_assoc]
theorem Tr.knotss_app : ∀ a b : List Tr, Tr.knotss (a ++ b) = Tr.knotss a + Tr.knotss b
  | [], b => by rw [Tr.knotss, List.nil_append, Nat.zero_add]
  | t :: a, b => by rw [List.cons_append, Tr.knotss, Tr.knotss, Tr.knotss_app a b, Nat.add_assoc]
mutual
theorem Tr.count_add (j k : Nat) (wk : Option Int) (x : Nat) : ∀ t : Tr, (t.add j k wk).labs.count x = t.labs.count x + if x = k then t.labs.count j else 0
  | .nd i w bs => by
    rw [Tr.add, Tr.labs, Tr.labs, Tr.labss_app, List.count_cons, List.count_cons, List.count_cons, List.count_append, Tr.counts_adds j k wk x bs]
    by_cases e : i = j
    · subst e
      rw [if_pos rfl, Tr.labss, Tr.labss, Tr.labs, Tr.labss, List.append_nil, List.count_cons, List.count_nil]
      by_cases e2 : x = k
      · subst e2; simp; omega
      · simp [e2, Ne.symm e2]
    · rw [if_neg e, Tr.labss, List.count_nil]
      by_cases e2 : x = k
      · subst e2; simp [e]; omega
      · simp [e2]
theorem Tr.counts_adds (j k : Nat) (wk : Option Int) (x : Nat) : ∀ ts : List Tr, (Tr.labss (Tr.adds j k wk ts)).count x = (Tr.labss ts).count x + if x = k then (Tr.labss ts).count j else 0
  | [] => by rw [Tr.adds, Tr.labss]; simp
  | t :: ts => by
    rw [Tr.adds, Tr.labss, Tr.labss, List.count_append, List.count_append, List.count_append, Tr.count_add j k wk x t, Tr.counts_adds j k wk x ts]
    split <;> omega
end
mutual
theorem Tr.knots_add (j k : Nat) (wk : Option Int) : ∀ t : Tr, (t.add j k wk).knots = t.knots + t.labs.count j
  | .nd i w bs => by
    rw [Tr.add, Tr.knots, Tr.knots, Tr.labs, Tr.knotss_app, List.count_cons, Tr.knotss_adds j k wk bs]
    by_cases e : i = j
    · subst e
      rw [if_pos rfl, Tr.knotss, Tr.knotss, Tr.knots, Tr.knotss]
      simp; omega
    · rw [if_neg e, Tr.knotss]
      simp [e]; omega
theorem Tr.knotss_adds (j k : Nat) (wk : Option Int) : ∀ ts : List Tr, Tr.knotss (Tr.adds j k wk ts) = Tr.knotss ts + (Tr.labss ts).count j
  | [] => by rw [Tr.adds, Tr.labss]; simp
  | t :: ts => by
    rw [Tr.adds, Tr.knotss, Tr.knotss, Tr.labss, List.count_append, Tr.knots_add j k wk t, Tr.knotss_adds j k wk ts]
    omega
end
mutual
theorem Tr.deep_le : ∀ t : Tr, t.deep ≤ t.knots
  | .nd _ _ bs => by
    rw [Tr.deep, Tr.knots]
    have := Tr.deeps_le bs
    omega
theorem Tr.deeps_le : ∀ ts : List Tr, Tr.deeps ts ≤ Tr.knotss ts
  | [] => by rw [Tr.deeps]; exact Nat.zero_le _
  | t :: ts => by
    rw [Tr.deeps, Tr.knotss]
    have := Tr.deep_le t
    have := Tr.deeps_le ts
    omega
end
theorem Tr.knots_pos : ∀ t : Tr, 1 ≤ t.knots
  | .nd _ _ bs => by rw [Tr.knots]; omega
theorem Tr.deep_pos : ∀ t : Tr, 1 ≤ t.deep
  | .nd _ _ bs => by rw [Tr.deep]; omega
theorem Tr.deeps_get {d : Nat} : ∀ {ts : List Tr} {i : Nat} {t : Tr}, Tr.deeps ts ≤ d → ts[i]? = some t → t.deep ≤ d
  | t' :: ts, 0, t, h, e => by
    rw [Tr.deeps] at h
    cases e
    omega
  | t' :: ts, i + 1, t, h, e => by
    rw [Tr.deeps] at h
    exact Tr.deeps_get (ts := ts) (i := i) (by omega) (by simpa using e)
theorem Tr.knotss_len : ∀ ts : List Tr, ts.length ≤ Tr.knotss ts
  | [] => Nat.zero_le _
  | t :: ts => by
    rw [Tr.knotss, List.length_cons]
    have := Tr.knots_pos t
    have := Tr.knotss_len ts
    omega
theorem Tr.dats_len : ∀ ts : List Tr, (Tr.dats ts).length = ts.length
  | [] => by rw [Tr.dats]; rfl
  | t :: ts => by rw [Tr.dats, List.length_cons, List.length_cons, Tr.dats_len ts]
theorem Tr.dats_get : ∀ (ts : List Tr) (i : Nat), (Tr.dats ts)[i]? = (ts[i]?).map Tr.dat
  | [], i => by rw [Tr.dats]; simp
  | t :: ts, 0 => by rw [Tr.dats]; rfl
  | t :: ts, i + 1 => by rw [Tr.dats]; simpa using Tr.dats_get ts i
theorem Tr.fold_snoc (t : Tr) : ∀ (ts : List Tr) (a : PyData), Tr.fold a (ts ++ [t]) = .tuple [.str "both", Tr.fold a ts, .tuple [.str "near", t.term]]
  | [], a => by rw [List.nil_append, Tr.fold, Tr.fold, Tr.fold]
  | t' :: ts, a => by rw [List.cons_append, Tr.fold, Tr.fold, Tr.fold_snoc t ts]
theorem strOk_one : PyData.strOk "one" = true := by decide +kernel
theorem strOk_hue : PyData.strOk "hue" = true := by decide +kernel
theorem strOk_both : PyData.strOk "both" = true := by decide +kernel
theorem strOk_near : PyData.strOk "near" = true := by decide +kernel
theorem lay_base (w : Option Int) : (tmBase w).canLay0 = true ∧ (tmBase w).depth = 1 := by
  cases w with
  | none => simp [tmBase, PyData.canLay0, PyData.canLayAll0, PyData.depth, PyData.depthAll, strOk_one]
  | some c => simp [tmBase, PyData.canLay0, PyData.canLayAll0, PyData.depth, PyData.depthAll, strOk_hue]
mutual
theorem Tr.lay_term : ∀ t : Tr, t.term.canLay0 = true ∧ 1 ≤ t.term.depth ∧ t.term.depth + 1 ≤ 2 * t.knots
  | .nd _ w bs => by
    rw [Tr.term, Tr.knots]
    obtain ⟨h1, h2⟩ := lay_base w
    obtain ⟨a, b, c⟩ := Tr.lay_fold bs (tmBase w) h1 (by omega)
    exact ⟨a, b, by omega⟩
theorem Tr.lay_fold : ∀ (ts : List Tr) (a : PyData), a.canLay0 = true → 1 ≤ a.depth → (Tr.fold a ts).canLay0 = true ∧ 1 ≤ (Tr.fold a ts).depth ∧ (Tr.fold a ts).depth ≤ a.depth + 2 * Tr.knotss ts
  | [], a, h1, h2 => by rw [Tr.fold, Tr.knotss]; exact ⟨h1, h2, by omega⟩
  | t :: ts, a, h1, h2 => by
    rw [Tr.fold, Tr.knotss]
    obtain ⟨x, y, z⟩ := Tr.lay_term t
    have e1 : (PyData.tuple [.str "both", a, .tuple [.str "near", t.term]]).canLay0 = true := by
      simp [PyData.canLay0, PyData.canLayAll0, strOk_both, strOk_near, h1, x]
    have e2 : (PyData.tuple [.str "both", a, .tuple [.str "near", t.term]]).depth ≤ a.depth + 1 + t.term.depth ∧ 1 ≤ (PyData.tuple [.str "both", a, .tuple [.str "near", t.term]]).depth := by
      simp only [PyData.depth, PyData.depthAll]
      omega
    obtain ⟨p, q, r⟩ := Tr.lay_fold ts _ e1 e2.2
    exact ⟨p, q, by omega⟩
end
theorem lay_wish (w : Option Int) : (dWish w).canLay0 = true ∧ (dWish w).depth = 0 := by
  cases w <;> simp [dWish, PyData.canLay0, PyData.depth]
mutual
theorem Tr.lay_dat : ∀ t : Tr, t.dat.canLay0 = true ∧ t.dat.depth ≤ 2 * t.knots
  | .nd _ w bs => by
    rw [Tr.dat, Tr.knots]
    obtain ⟨h1, h2⟩ := lay_wish w
    obtain ⟨a, b⟩ := Tr.lay_dats bs
    simp only [PyData.canLay0, PyData.canLayAll0, PyData.depth, PyData.depthAll, h1, h2, a, Bool.and_self, true_and]
    omega
theorem Tr.lay_dats : ∀ ts : List Tr, PyData.canLayAll0 (Tr.dats ts) = true ∧ PyData.depthAll (Tr.dats ts) ≤ 2 * Tr.knotss ts
  | [] => by rw [Tr.dats]; exact ⟨rfl, Nat.zero_le _⟩
  | t :: ts => by
    rw [Tr.dats, Tr.knotss]
    obtain ⟨h1, h2⟩ := Tr.lay_dat t
    obtain ⟨a, b⟩ := Tr.lay_dats ts
    simp only [PyData.canLayAll0, PyData.depthAll, h1, a, Bool.and_self, true_and]
    omega
end

/-! term_of, knots_of, and the law's own _law_term, _law_copied, _law_whole -/
section
variable {P : Program} {w : World} {K : PySem.W.Frag} {mg : Str → Option Value} {base : Heap}
structure BltT (mg : Str → Option Value) : Prop where
  range : mg "range" = none
  sum : mg "sum" = none
  isi : mg "isinstance" = none
  int : mg "int" = none
  bool : mg "bool" = none
/-- the addresses that H does not have -/
abbrev Nw (H : Hp) (a : Addr) : Prop := H a = none
theorem DA.any {ok : Addr → Prop} {H : Hp} {v : V} {d : PyData} (h : DA K ok H v d) : DA K L2.any H v d := h.mono (Keep.refl _ _) fun _ _ => trivial
theorem DA.same {ok : Addr → Prop} {H H' : Hp} {v : V} {d : PyData} (h : DA K ok H v d) (s : Same H H') : DA K ok H' v d := h.mono s.keep fun _ x => x
theorem DAs.get {ok : Addr → Prop} {H : Hp} : ∀ {ys : List V} {ds : List PyData}, DAs K ok H ys ds → ys.length = ds.length ∧ ∀ (i : Nat) (x : V), ys[i]? = some x → ∃ d, ds[i]? = some d ∧ DA K ok H x d
  | _, _, .nil => ⟨rfl, fun i x h => by cases h⟩
  | _, _, .cons a r => by
    obtain ⟨h1, h2⟩ := DAs.get r
    refine ⟨by rw [List.length_cons, List.length_cons, h1], fun i x h => ?_⟩
    cases i with
    | zero => cases h; exact ⟨_, rfl, a⟩
    | succ i => exact h2 i x (by simpa using h)
/-- a tree that stands at p -/
theorem tree_at {ok : Addr → Prop} {H : Hp} {i : Nat} {p : Addr} {w : Option Int} {bs : List Tr} (h : DA K ok H (.ref p) (Tr.nd i w bs).dat) : ∃ l ys, SqT K H p [vWish w, .ref l] ∧ SqL K H l ys ∧ ys.length = bs.length ∧ ∀ (i : Nat) (x : V), ys[i]? = some x → ∃ t, bs[i]? = some t ∧ DA K ok H x t.dat := by
  rw [Tr.dat] at h
  cases h with
  | tup _ hs r =>
    cases r with
    | cons r1 r =>
      cases r with
      | cons r2 r =>
        cases r
        cases r2 with
        | lst _ hl q =>
          obtain ⟨q1, q2⟩ := DAs.get q
          rw [Tr.dats_len] at q1
          refine ⟨_, _, ?_, hl, q1, fun i x hx => ?_⟩
          · cases w with
            | none => cases r1; exact hs
            | some c => cases r1; exact hs
          · obtain ⟨d, e, z⟩ := q2 i x hx
            rw [Tr.dats_get] at e
            obtain ⟨t, e1, rfl⟩ := Option.map_eq_some_iff.mp e
            exact ⟨t, e1, z⟩
theorem tree_ref {ok : Addr → Prop} {H : Hp} {v : V} : ∀ {t : Tr}, DA K ok H v t.dat → ∃ p, v = .ref p
  | .nd i w bs, h => by
    rw [Tr.dat] at h
    cases h
    exact ⟨_, rfl⟩
def spTermOf (K : PySem.W.Frag) (d : Nat) : Sp := fun vs H Q _ => ∃ (v : V) (t : Tr), vs = [v] ∧ DA K any H v t.dat ∧ t.deep ≤ d ∧ ∀ u H', Same H H' → DA K (Nw H) H' u t.term → Q u H'
abbrev nTermOf : List Str := ["tree", "wish", "term", "bough"]
theorem scTermOf : FnScope nTermOf ["tree"] (defScope sTermOf) := ⟨rfl, rfl, rfl, by decide +kernel, rfl, by decide +kernel, by decide +kernel⟩
theorem ok_termOf {f : Addr} {fd : FuncData} (D : Dn K mg "term_of" sTermOf ["tree"] f fd) : ∀ d : Nat, FnOk P w K mg base CX0 (d + 1) f fd ["tree"] (spTermOf K d) := by
  intro d
  induction d with
  | zero =>
    refine D.fn.ok scTermOf (fun vs H Q E h => ?_) (fun cdv A outer s H vs Q E hr h => ?_)
    · obtain ⟨v, t, rfl, _⟩ := h
      rfl
    · obtain ⟨v, t, rfl, _, h, _⟩ := h
      have := t.deep_pos
      omega
  | succ d G =>
    refine D.fn.ok scTermOf (fun vs H Q E h => ?_) (fun cdv A outer s H vs Q E hr h => ?_)
    · obtain ⟨v, t, rfl, _⟩ := h
      rfl
    · obtain ⟨v, t, rfl, hT, hd, q⟩ := h
      obtain ⟨p, rfl⟩ := tree_ref hT
      cases t with
      | nd i0 wi bs =>
        rw [Tr.deep] at hd
        have hd' : Tr.deeps bs ≤ d := by omega
        obtain ⟨l, ys, hp, hl, hlen, hys⟩ := tree_at hT
        refine ⟨_, pss_cons (ps_set (i := 1) scTermOf.nd rfl (Or.inl rfl) (pe_ix ix_tup (pv 0) pe_int (fun _ _ => rfl)))
          (pss_mid (ps_set (i := 2) scTermOf.nd rfl (Or.inl rfl) (pe_ifExp (pt_cmpR op_isN (pv 1) pe_non (nomark _)) (pe_tup (pa_cons pe_str pa_nil)) (pe_tup (pa_cons pe_str (pa_cons (pv 1) pa_nil)))))
          (pss_cons (ps_for PassesOwn.never rfl (pi_list (pe_ix ix_tup (pv 0) pe_int (fun _ _ => rfl))) (pg_name (i := 3) scTermOf.nd rfl (Or.inl rfl))
            (pss_one (ps_set (i := 2) scTermOf.nd rfl (Or.inl rfl) (pe_tup (pa_cons pe_str (pa_cons (pv 2) (pa_cons (pe_tup (pa_cons pe_str (pa_cons (pe_fn D G hr rfl (pa_cons (pv 3) pa_nil)) pa_nil))) pa_nil)))))))
          (pss_one (ps_ret (pv 2))))), ?_⟩
        refine ⟨_, rfl, p, _, _, _, rfl, rfl, hp, rfl, ?_⟩
        refine ⟨fun σ H1 => ∃ tv, σ = [some (.ref p), some (vWish wi), some tv, none] ∧ Same H H1 ∧ DA K (Nw H) H1 tv (tmBase wi), ?_, ?_⟩
        · refine ⟨_, rfl, rfl, _, rfl, ?_⟩
          cases wi with
          | none =>
            refine iteT ?_
            refine ⟨(by show 1 ≤ sizeLine; decide), fun t ht => ?_⟩
            exact ⟨_, rfl, Same.upd ht, .tup ht (SqT.of upd_same) (.cons (.str _) .nil)⟩
          | some c =>
            refine iteF ?_
            refine ⟨_, rfl, (by show 2 ≤ sizeLine; decide), fun t ht => ?_⟩
            exact ⟨_, rfl, Same.upd ht, .tup ht (SqT.of upd_same) (.cons (.str _) (.cons (.int _) .nil))⟩
        · rintro σ1 H1 ⟨tv0, rfl, s1, d1⟩
          refine ⟨_, rfl, p, _, _, _, rfl, rfl, s1.seqT hp, rfl, l, rfl, ⟨_, Same.sq s1 hl⟩, for_list (xs := ys) (fun i σ H' => ∃ (ob : Option V) (tv : V), σ = [some (.ref p), some (vWish wi), some tv, ob] ∧ Same H H' ∧ DA K (Nw H) H' tv (Tr.fold (tmBase wi) (bs.take i))) ⟨none, tv0, rfl, s1, by rw [List.take_zero, Tr.fold]; exact d1⟩ (fun i σ H' _ ⟨_, _, _, s, _⟩ => Same.sq s hl) ?_ ?_⟩
          · rintro i x σ H2 hx ⟨ob, tv, rfl, s2, d2⟩
            obtain ⟨t, ht, hxt⟩ := hys i x hx
            refine ⟨_, rfl, _, rfl, x, t, rfl, DA.same hxt s2, Tr.deeps_get hd' ht, fun u H3 s3 d3 => ?_⟩
            refine ⟨(by show 2 ≤ sizeLine; decide), fun t1 ht1 => ?_⟩
            refine ⟨(by show 3 ≤ sizeLine; decide), fun t2 ht2 => ?_⟩
            have s4 : Same H3 (L2.upd H3 t1 (.tup [.str "near", u])) := Same.upd ht1
            have e4 : L2.upd H3 t1 (.tup [.str "near", u]) t1 = some (.tup [.str "near", u]) := upd_same
            generalize L2.upd H3 t1 (.tup [.str "near", u]) = H4 at s4 e4 ht2 ⊢
            have s5 : Same H4 (L2.upd H4 t2 (.tup [.str "both", tv, .ref t1])) := Same.upd ht2
            have s35 := s4.trans s5
            have s05 := (s2.trans s3).trans s35
            refine ⟨_, _, rfl, s05, ?_⟩
            rw [take_snoc ht, Tr.fold_snoc]
            refine .tup ((s2.trans s3).free (s4.free ht2)) (SqT.of upd_same) (.cons (.str _) (.cons (DA.same d2 (s3.trans s35)) (.cons (.tup ((s2.trans s3).free ht1) (SqT.of (s5 _ _ e4)) (.cons (.str _) (.cons ?_ .nil))) .nil)))
            exact d3.mono s35.keep fun a h => s2.free h
          · rintro σ H2 ⟨ob, tv, rfl, s2, d2⟩
            rw [hlen, List.take_length] at d2
            exact ⟨_, rfl, q tv H2 s2 (by rw [Tr.term]; exact d2)⟩
/-! ### _law_whole -/
def spWhole : Sp := fun vs H Q _ => ∃ i : Int, vs = [.int i] ∧ Q (.bl true) H
theorem kitII : PySem.W.kitOne K (.type "int") (.type "int") = some true := rfl
theorem kitIB : PySem.W.kitOne K (.type "int") (.type "bool") = some false := by
  with_unfolding_all rfl
theorem scWhole : FnScope ["_law_found"] ["_law_found"] (defScope sWhole) := ⟨rfl, rfl, rfl, by decide +kernel, rfl, by decide +kernel, by decide +kernel⟩
theorem ok_whole {f : Addr} {fd : FuncData} (B : BltT mg) (F : Fun K "_law_whole" "_law_whole" sWhole f fd) : FnOk P w K mg base CX0 1 f fd ["_law_found"] spWhole := by
  refine F.ok scWhole (fun vs H Q E h => ?_) (fun cdv A outer s H vs Q E hr h => ?_)
  · obtain ⟨i, rfl, _⟩ := h
    rfl
  · obtain ⟨i, rfl, k⟩ := h
    refine ⟨_, pss_one (ps_ret (pe_and (pe_callB call_isinst (by rfl) B.isi boot_isinstance (pa_cons (pv 0) (pa_cons (pe_bltn (v := .ty "int") rfl B.int boot_int rfl) pa_nil)))
      (pe_one (pe_not (pe_callB call_isinst (by rfl) B.isi boot_isinstance (pa_cons (pv 0) (pa_cons (pe_bltn (v := .ty "bool") rfl B.bool boot_bool rfl) pa_nil))))))), ?_⟩
    refine ⟨_, rfl, _, _, _, true, rfl, .int i, kitII, _, rfl, iteT ?_⟩
    exact ⟨_, rfl, _, _, _, false, rfl, .int i, kitIB, _, rfl, k⟩
end

/-! the tree that is drawn: _law_tree -/
section
variable {P : Program} {w : World} {K : PySem.W.Frag} {mg : Str → Option Value} {base : Heap}
abbrev Kn := Addr × Addr × Option Int
def kA (ks : List Kn) (c : Nat) : Addr := ((ks[c]?).map (·.1)).getD 0
def kW (ks : List Kn) (c : Nat) : Option Int := ((ks[c]?).map (·.2.2)).getD none
structure Knots (H : Hp) (ks : List Kn) (ch : Nat → List Nat) : Prop where
  tp : ∀ (i : Nat) (a l : Addr) (w : Option Int), ks[i]? = some (a, l, w) → H a = some (.tup [vWish w, .ref l])
  ls : ∀ (i : Nat) (a l : Addr) (w : Option Int), ks[i]? = some (a, l, w) → H l = some (.lst ((ch i).map fun c => V.ref (kA ks c)))
  nd : ∀ (i j : Nat) (a l : Addr) (w : Option Int) (a' : Addr) (w' : Option Int), ks[i]? = some (a, l, w) → ks[j]? = some (a', l, w') → i = j
theorem Knots.keep {H H' : Hp} {ks : List Kn} {ch : Nat → List Nat} (k : Knots H ks ch) (h : ∀ (i : Nat) (a l : Addr) (w : Option Int), ks[i]? = some (a, l, w) → (∀ o, H a = some o → H' a = some o) ∧ ∀ o, H l = some o → H' l = some o) : Knots H' ks ch :=
  ⟨fun i a l w e => (h i a l w e).1 _ (k.tp i a l w e), fun i a l w e => (h i a l w e).2 _ (k.ls i a l w e), k.nd⟩
theorem snoc_get {α : Type} {xs : List α} {x y : α} {i : Nat} (h : (xs ++ [x])[i]? = some y) : xs[i]? = some y ∨ (i = xs.length ∧ y = x) := by
  by_cases hi : i < xs.length
  · rw [List.getElem?_append_left hi] at h
    exact .inl h
  · rw [List.getElem?_append_right (by omega)] at h
    cases e : i - xs.length with
    | zero => rw [e] at h; cases h; exact .inr ⟨by omega, rfl⟩
    | succ j => rw [e] at h; cases h
theorem Knots.snoc {H H' : Hp} {ks : List Kn} {a l : Addr} {w : Option Int} (k : Knots H ks fun _ => []) (h : ∀ (i : Nat) (a l : Addr) (w : Option Int), ks[i]? = some (a, l, w) → (∀ o, H a = some o → H' a = some o) ∧ ∀ o, H l = some o → H' l = some o)
    (ha : H' a = some (.tup [vWish w, .ref l])) (hl : H' l = some (.lst [])) (hn : H l = none) : Knots H' (ks ++ [(a, l, w)]) fun _ => [] := by
  have k' := k.keep h
  refine ⟨fun i a' l' w' e => ?_, fun i a' l' w' e => ?_, fun i j a1 l1 w1 a2 w2 e1 e2 => ?_⟩
  · rcases snoc_get e with e | ⟨_, e⟩
    · exact k'.tp i a' l' w' e
    · cases e; exact ha
  · rcases snoc_get e with e | ⟨_, e⟩
    · exact k'.ls i a' l' w' e
    · cases e; exact hl
  · rcases snoc_get e1 with e1 | ⟨e1, z1⟩
    · rcases snoc_get e2 with e2 | ⟨e2, z2⟩
      · exact k.nd i j _ _ _ _ _ e1 e2
      · cases z2
        have := k.ls i _ _ _ e1
        rw [hn] at this
        cases this
    · cases z1
      rcases snoc_get e2 with e2 | ⟨e2, z2⟩
      · have := k.ls j _ _ _ e2
        rw [hn] at this
        cases this
      · omega
theorem Knots.hang {H : Hp} {ks : List Kn} {ch : Nat → List Nat} (k : Knots H ks ch) {j m : Nat} {a l : Addr} {w : Option Int} (hj : ks[j]? = some (a, l, w)) :
    Knots (L2.upd H l (.lst (((ch j).map fun c => V.ref (kA ks c)) ++ [V.ref (kA ks m)]))) ks (hung ch j m) := by
  refine ⟨fun i a' l' w' e => ?_, fun i a' l' w' e => ?_, k.nd⟩
  · have := k.tp i a' l' w' e
    rw [upd_ne (fun z => by rw [z, k.ls j a l w hj] at this; cases this)]
    exact this
  · unfold hung
    by_cases hi : i = j
    · subst hi
      rw [hj] at e
      cases e
      rw [upd_same, if_pos rfl, List.map_append]
      rfl
    · rw [if_neg hi, upd_ne (fun z => hi (by subst z; exact k.nd i j _ _ _ _ _ e hj))]
      exact k.ls i a' l' w' e
mutual
theorem Tr.da {ok : Addr → Prop} {H : Hp} {ks : List Kn} {ch : Nat → List Nat} (k : Knots H ks ch) (ho : ∀ (i : Nat) (a l : Addr) (w : Option Int), ks[i]? = some (a, l, w) → ok a ∧ ok l) : ∀ t : Tr, t.ok (kW ks) ch → (∀ x ∈ t.labs, x < ks.length) → DA K ok H (.ref (kA ks t.root)) t.dat
  | .nd i w bs, h, hl => by
    rw [Tr.ok] at h
    rw [Tr.labs] at hl
    have hi := hl i List.mem_cons_self
    have e : ks[i]? = some ks[i] := List.getElem?_eq_getElem hi
    rcases hk : ks[i] with ⟨a, l, w'⟩
    rw [hk] at e
    have ea : kA ks (Tr.nd i w bs).root = a := by
      show kA ks i = a
      unfold kA
      rw [e]
      rfl
    have ew : w = w' := by
      rw [h.1]
      unfold kW
      rw [e]
      rfl
    subst ew
    rw [ea, Tr.dat]
    refine .tup (ho i _ _ _ e).1 (SqT.of (k.tp i a l w e)) (.cons ?_ (.cons (.lst (ho i _ _ _ e).2 (SqL.of (k.ls i a l w e)) ?_) .nil))
    · cases w with
      | none => exact .non
      | some c => exact .int c
    · rw [h.2.1]
      exact Tr.das k ho bs h.2.2 fun x hx => hl x (List.mem_cons_of_mem _ hx)
theorem Tr.das {ok : Addr → Prop} {H : Hp} {ks : List Kn} {ch : Nat → List Nat} (k : Knots H ks ch) (ho : ∀ (i : Nat) (a l : Addr) (w : Option Int), ks[i]? = some (a, l, w) → ok a ∧ ok l) : ∀ ts : List Tr, Tr.oks (kW ks) ch ts → (∀ x ∈ Tr.labss ts, x < ks.length) → DAs K ok H ((ts.map Tr.root).map fun c => V.ref (kA ks c)) (Tr.dats ts)
  | [], _, _ => by rw [Tr.dats]; exact .nil
  | t :: ts, h, hl => by
    rw [Tr.oks] at h
    rw [Tr.labss] at hl
    rw [Tr.dats]
    exact .cons (Tr.da k ho t h.1 fun x hx => hl x (List.mem_append_left _ hx)) (Tr.das k ho ts h.2 fun x hx => hl x (List.mem_append_right _ hx))
end
theorem wishes (r : Nat) (h : r < 6) : ∃ wi : Option Int, [V.non, .int 0, .int 1, .non, .int 7, .non][r]? = some (vWish wi) := by
  match r, h with
  | 0, _ => exact ⟨none, rfl⟩
  | 1, _ => exact ⟨some 0, rfl⟩
  | 2, _ => exact ⟨some 1, rfl⟩
  | 3, _ => exact ⟨none, rfl⟩
  | 4, _ => exact ⟨some 7, rfl⟩
  | 5, _ => exact ⟨none, rfl⟩
def spTree (K : PySem.W.Frag) : Sp := fun vs H Q _ => ∃ (d : Addr) (m n : Nat), vs = [.ref d, .int m] ∧ 1 ≤ m ∧ m ≤ 12 ∧ Drw H d n ∧ n ≤ 800000 ∧
  ∀ (H' : Hp) (v : V) (t : Tr), But d H H' → Drw H' d (n + 60) → t.knots = m → DA K (fun a => H a = none ∧ a ≠ d) H' v t.dat → Q v H'
abbrev nTree : List Str := ["_law_draw", "_law_many", "_law_rows", "_law_k", "_law_wish"]
theorem scTree : FnScope nTree ["_law_draw", "_law_many"] (defScope sTree) := ⟨rfl, rfl, rfl, by decide +kernel, rfl, by decide +kernel, by decide +kernel⟩
theorem at_kn {ks : List Kn} {j : Nat} {a l : Addr} {w : Option Int} (h : ks[j]? = some (a, l, w)) : atI (ks.map fun k => V.ref k.1) (j : Int) = some (.ref a) := atI_nat (by rw [List.getElem?_map, h]; rfl)
theorem kn_ex {ks : List Kn} {j : Nat} (h : j < ks.length) : ∃ a l w, ks[j]? = some (a, l, w) ∧ kA ks j = a := by
  have e : ks[j]? = some ks[j] := List.getElem?_eq_getElem h
  rcases hk : ks[j] with ⟨a, l, w⟩
  rw [hk] at e
  refine ⟨a, l, w, e, ?_⟩
  unfold kA
  rw [e]
  rfl
theorem ok_tree {f fT : Addr} {fd fdT : FuncData} (B : BltT mg) (F : Fun K "_law_tree" "_law_tree" sTree f fd) (DT : Dn K mg "_law_take" sTake ["_law_draw", "_law_most"] fT fdT) (GT : FnOk P w K mg base CX0 2 fT fdT ["_law_draw", "_law_most"] spTake) :
    FnOk P w K mg base CX0 3 f fd ["_law_draw", "_law_many"] (spTree K) := by
  refine F.ok scTree (fun vs H Q E h => ?_) (fun cdv A outer s H vs Q E hr h => ?_)
  · obtain ⟨d, m, n, rfl, _⟩ := h
    rfl
  · obtain ⟨d, m, n, rfl, hm0, hm1, hd, hn, q⟩ := h
    refine ⟨_, pss_cons (ps_set (i := 2) scTree.nd rfl (Or.inl rfl) (pe_lst pa_nil))
      (pss_cons (ps_for PassesOwn.never rfl (pi_range1 rfl B.range (pa_cons (pv 1) pa_nil)) (pg_name (i := 3) scTree.nd rfl (Or.inl rfl))
        (pss_cons (ps_set (i := 4) scTree.nd rfl (Or.inl rfl) (pe_ix ix_list (pe_lst (pa_cons pe_non (pa_cons pe_int (pa_cons pe_int (pa_cons pe_non (pa_cons pe_int (pa_cons pe_non pa_nil))))))) (pe_fn DT GT hr rfl (pa_cons (pv 0) (pa_cons pe_int pa_nil))) (fun _ _ => rfl)))
        (pss_one (ps_expr (pe_bm PySem.F.plainAttrs_list PySem.F.slot_list_append PySem.F.type_list_append mt_append (pv 2) (pa_cons (pe_tup (pa_cons (pv 4) (pa_cons (pe_lst pa_nil) pa_nil))) pa_nil))))))
      (pss_cons (ps_for PassesOwn.never rfl (pi_range2 rfl B.range (pa_cons pe_int (pa_cons (pv 1) pa_nil))) (pg_name (i := 3) scTree.nd rfl (Or.inl rfl))
        (pss_one (ps_expr (pe_bm PySem.F.plainAttrs_list PySem.F.slot_list_append PySem.F.type_list_append mt_append (pe_ix ix_tup (pe_ix ix_list (pv 2) (pe_fn DT GT hr rfl (pa_cons (pv 0) (pa_cons (pv 3) pa_nil))) (fun _ _ => rfl)) pe_int (fun _ _ => rfl)) (pa_cons (pe_ix ix_list (pv 2) (pv 3) (fun _ _ => rfl)) pa_nil)))))
      (pss_one (ps_ret (pe_ix ix_list (pv 2) pe_int (fun _ _ => rfl)))))), ?_⟩
    have nd1 : ∀ {a : Addr} {Hx : Hp} {j : Nat}, Drw Hx d j → Hx a = none → a ≠ d := fun {a Hx j} D h e => by
      obtain ⟨_, _, _, e', _⟩ := D
      rw [e, e'] at h
      cases h
    have old : ∀ {a : Addr} {Hx : Hp}, But d H Hx → a ≠ d → Hx a = none → H a = none := fun {a Hx} hB hne h => by
      cases e : H a with
      | none => rfl
      | some o => rw [hB a o hne e] at h; cases h
    refine ⟨Nat.zero_le _, fun R hR => ?_⟩
    have hRd := nd1 hd hR
    refine ⟨_, rfl, (m : Int), rfl, by omega, by omega, for_range (n := m) (fun i σ H' => ∃ (o3 o4 : Option V) (ks : List Kn), σ = [some (.ref d), some (.int (m : Int)), some (.ref R), o3, o4] ∧ ks.length = i ∧ But d H H' ∧ Drw H' d (n + 2 * i) ∧ H' R = some (.lst (ks.map fun k => V.ref k.1)) ∧
      Knots H' ks (fun _ => []) ∧ ∀ (i : Nat) (a l : Addr) (w : Option Int), ks[i]? = some (a, l, w) → H a = none ∧ a ≠ d ∧ a ≠ R ∧ H l = none ∧ l ≠ d ∧ l ≠ R)
      ⟨none, none, [], rfl, rfl, (But.refl _ _).updN hR, hd.updN hRd, upd_same, ⟨(fun i a l w h => by cases h), (fun i a l w h => by cases h), (fun i j a l w a' w' h _ => by cases h)⟩, (fun i a l w h => by cases h)⟩ ?_ ?_⟩
    · rintro i σ H1 hi ⟨o3, o4, ks, rfl, lk, c1, D1, e1, k1, f1⟩
      refine ⟨(by show 6 ≤ sizeLine; decide), fun l0 hl0 => ?_⟩
      have nl0 := nd1 D1 hl0
      refine ⟨_, rfl, d, 6, n + 2 * i, rfl, by decide, by decide, D1.new hl0, by omega, fun r H2 r0 r1 hB2 D2 => ?_⟩
      obtain ⟨r, rfl⟩ := Int.eq_ofNat_of_zero_le r0
      obtain ⟨wi, hw⟩ := wishes r (by omega)
      have el : H2 l0 = some (.lst [V.non, .int 0, .int 1, .non, .int 7, .non]) := hB2 l0 _ nl0 upd_same
      refine ⟨l0, _, _, vWish wi, rfl, rfl, SqL.of el, atI_nat hw, ?_⟩
      have b12 : But d H1 H2 := (But.new hl0).trans hB2
      have c2 := c1.trans b12
      have e2 : H2 R = _ := b12 R _ hRd e1
      refine ⟨_, rfl, .inl ⟨rfl, _, SqL.of e2⟩, _, rfl, Nat.zero_le _, fun l hl => ?_⟩
      have nld := nd1 D2 hl
      refine ⟨(by show 2 ≤ sizeLine; decide), fun a ha => ?_⟩
      have nlR : l ≠ R := (ne_of_none e2 hl).symm
      have naR : a ≠ R := (ne_of_none (by rw [upd_ne nlR.symm]; exact e2) ha).symm
      have nal : a ≠ l := (ne_of_none upd_same ha).symm
      have ha2 : H2 a = none := by rw [upd_ne nal] at ha; exact ha
      have nad := nd1 D2 ha2
      refine ⟨R, _, _, rfl, rfl, by rw [upd_ne naR.symm, upd_ne nlR.symm]; exact e2, small1000 (by rw [List.length_map]; omega), ?_⟩
      have kp : ∀ b o, b ≠ d → b ≠ R → H1 b = some o → L2.upd (L2.upd (L2.upd H2 l (.lst [])) a (.tup [vWish wi, .ref l])) R (.lst ((ks.map fun k => V.ref k.1) ++ [.ref a])) b = some o := fun b o n1 n2 e => by
        have e' := b12 b o n1 e
        rw [upd_ne n2, upd_ne (ne_of_none e' ha2), upd_ne (ne_of_none e' hl)]
        exact e'
      refine ⟨_, _, ks ++ [(a, l, wi)], rfl, by rw [List.length_append, lk]; rfl, ?_, ?_, by rw [upd_same, List.map_append]; rfl, ?_, ?_⟩
      · exact ((c2.updN (old c2 nld hl)).updN (old c2 nad ha2)).updN hR
      · exact (((D2.updN nld).updN nad).updN hRd).mono (by omega)
      · refine k1.snoc (fun i a' l' w' e => ?_) (by rw [upd_ne naR, upd_same]) (by rw [upd_ne nlR, upd_ne nal.symm, upd_same]) ?_
        · obtain ⟨_, g1, g2, _, g3, g4⟩ := f1 i a' l' w' e
          exact ⟨fun o z => kp a' o g1 g2 z, fun o z => kp l' o g3 g4 z⟩
        · cases z : H1 l with
          | none => rfl
          | some o => rw [b12 l o nld z] at hl; cases hl
      · intro i' a' l' w' e
        rcases snoc_get e with e | ⟨_, e⟩
        · exact f1 i' a' l' w' e
        · cases e
          exact ⟨old c2 nad ha2, nad, naR, old c2 nld hl, nld, nlR⟩
    · rintro σ H1 ⟨o3, o4, ks, rfl, lk, c1, D1, e1, k1, f1⟩
      have em : ((m : Int) - 1).toNat = m - 1 := by omega
      refine ⟨_, rfl, 1, (m : Int), rfl, ⟨by decide, by decide, by omega, by omega⟩, ?_⟩
      rw [em]
      refine for_range (n := m - 1) (fun i σ H' => ∃ (o3 o4 : Option V) (ch : Nat → List Nat) (t : Tr), σ = [some (.ref d), some (.int (m : Int)), some (.ref R), o3, o4] ∧ But d H H' ∧ Drw H' d (n + 2 * m + 2 * i) ∧ H' R = some (.lst (ks.map fun k => V.ref k.1)) ∧
        Knots H' ks ch ∧ t.ok (kW ks) ch ∧ t.root = 0 ∧ t.knots = i + 1 ∧ (∀ x, t.labs.count x = if x < i + 1 then 1 else 0) ∧ (∀ x, i + 1 ≤ x → ch x = []) ∧ ∀ x, (ch x).length ≤ i)
        ⟨_, _, fun _ => [], .nd 0 (kW ks 0) [], rfl, c1, D1, e1, k1, by rw [Tr.ok, Tr.oks]; exact ⟨rfl, rfl, trivial⟩, rfl, by rw [Tr.knots, Tr.knotss], fun x => ?_, fun _ _ => rfl, fun _ => Nat.le_refl _⟩ ?_ ?_
      · rw [Tr.labs, Tr.labss, List.count_cons, List.count_nil]
        by_cases hx : x = 0
        · subst hx; rfl
        · have h1 : (0 == x) = false := by simpa using fun z : 0 = x => hx z.symm
          have h2 : ¬ x < 0 + 1 := by omega
          rw [if_neg h2, h1]
          rfl
      · rintro i σ H2 hi ⟨o3, o4, ch, t, rfl, c2, D2, e2, k2, t1, t2, t3, t4, t5, t6⟩
        have e1i : (1 + (i : Nat) : Int) = ((i + 1 : Nat) : Int) := by omega
        rw [e1i]
        refine ⟨_, rfl, _, rfl, _, rfl, d, ((i + 1 : Nat) : Int), n + 2 * m + 2 * i, rfl, by omega, by omega, D2, by omega, fun r H3 r0 r1 hB3 D3 => ?_⟩
        obtain ⟨r, rfl⟩ := Int.eq_ofNat_of_zero_le r0
        have hr1 : r < i + 1 := by omega
        have e3 : H3 R = _ := hB3 R _ hRd e2
        have k3 : Knots H3 ks ch := k2.keep fun i a' l' w' e => by
          obtain ⟨_, g1, g2, _, g3, g4⟩ := f1 i a' l' w' e
          exact ⟨fun o z => hB3 a' o g1 z, fun o z => hB3 l' o g3 z⟩
        obtain ⟨a, l, wi, hk, _⟩ := kn_ex (ks := ks) (j := r) (by omega)
        obtain ⟨a', l', wi', hk', ea'⟩ := kn_ex (ks := ks) (j := i + 1) (by omega)
        have el := k3.ls r a l wi hk
        refine ⟨R, _, _, _, rfl, rfl, SqL.of e3, at_kn hk, a, _, _, _, rfl, rfl, SqT.of (k3.tp r a l wi hk), rfl, .inl ⟨rfl, _, SqL.of el⟩, _, rfl, _, rfl, R, _, _, _, rfl, rfl, SqL.of e3, at_kn hk', ?_⟩
        obtain ⟨_, g1, g2, g0, g3, g4⟩ := f1 r a l wi hk
        refine ⟨l, _, _, rfl, rfl, el, ?_, ?_⟩
        · have := t6 r
          exact small1000 (by rw [List.length_map]; omega)
        · have k4 := k3.hang (m := i + 1) hk
          rw [ea'] at k4
          refine ⟨_, _, hung ch r (i + 1), t.add r (i + 1) (kW ks (i + 1)), rfl, (c2.trans hB3).updN g0, (D3.updN g3).mono (by omega), by rw [upd_ne g4.symm]; exact e3, k4, Tr.ok_add (by omega) (t5 _ (Nat.le_refl _)) t t1, by rw [Tr.root_add, t2], ?_, fun x => ?_, fun x hx => ?_, fun x => ?_⟩
          · rw [Tr.knots_add, t3, t4, if_pos hr1]
          · rw [Tr.count_add, t4, t4, if_pos hr1]
            by_cases z1 : x < i + 1
            · rw [if_pos z1, if_neg (by omega), if_pos (by omega)]
            · by_cases z2 : x = i + 1
              · rw [if_neg z1, if_pos z2, if_pos (by omega)]
              · rw [if_neg z1, if_neg z2, if_neg (by omega)]
          · unfold hung
            rw [if_neg (by omega)]
            exact t5 x (by omega)
          · unfold hung
            have := t6 x
            have := t6 r
            split
            · rw [List.length_append]; show _ + 1 ≤ _; omega
            · omega
      · rintro σ H2 ⟨o3, o4, ch, t, rfl, c2, D2, e2, k2, t1, t2, t3, t4, t5, t6⟩
        obtain ⟨a, l, wi, hk, ea⟩ := kn_ex (ks := ks) (j := 0) (by omega)
        refine ⟨_, rfl, R, _, _, _, rfl, rfl, SqL.of e2, at_kn hk, ?_⟩
        have da : DA K (fun a => H a = none ∧ a ≠ d) H2 (.ref (kA ks t.root)) t.dat := Tr.da k2 (fun i a l w e => by
          obtain ⟨g1, g2, _, g3, g4, _⟩ := f1 i a l w e
          exact ⟨⟨g1, g2⟩, g3, g4⟩) t t1 fun x hx => by
            have := List.count_pos_iff.mpr hx
            rw [t4] at this
            by_cases z : x < m - 1 + 1
            · omega
            · rw [if_neg z] at this; omega
        rw [t2, ea] at da
        exact q H2 _ t c2 (D2.mono (by omega)) (by omega) da
end

/-! MAPS OF A TREE INTO A WEB, counted one by one and bough by bough -/
section
open TM
/-! ### sums -/
def sm : Nat → (Nat → Int) → Int
  | 0, _ => 0
  | n + 1, f => sm n f + f n
theorem sm_congr {f g : Nat → Int} : ∀ {n : Nat}, (∀ i, i < n → f i = g i) → sm n f = sm n g
  | 0, _ => rfl
  | n + 1, h => by rw [sm, sm, sm_congr fun i hi => h i (by omega), h n (by omega)]
theorem sm_add (f g : Nat → Int) : ∀ n : Nat, sm n (fun i => f i + g i) = sm n f + sm n g
  | 0 => rfl
  | n + 1 => by rw [sm, sm, sm, sm_add f g n]; omega
theorem sm_mul (c : Int) (f : Nat → Int) : ∀ n : Nat, sm n (fun i => c * f i) = c * sm n f
  | 0 => by rw [sm, sm, Int.mul_zero]
  | n + 1 => by rw [sm, sm, sm_mul c f n, Int.mul_add]
theorem sm_zero : ∀ n : Nat, sm n (fun _ => 0) = 0
  | 0 => rfl
  | n + 1 => by rw [sm, sm_zero n]; rfl
theorem sm_swap (f : Nat → Nat → Int) (m : Nat) : ∀ n : Nat, sm n (fun i => sm m fun j => f i j) = sm m fun j => sm n fun i => f i j
  | 0 => (sm_zero m).symm
  | n + 1 => by
    rw [sm, sm_swap f m n, ← sm_add]
    rfl
theorem sm_app (f : Nat → Int) (a : Nat) : ∀ b : Nat, sm (a + b) f = sm a f + sm b fun i => f (a + i)
  | 0 => by rw [Nat.add_zero, sm, Int.add_zero]
  | b + 1 => by rw [← Nat.add_assoc, sm, sm_app f a b, sm]; omega
theorem sm_split (f : Nat → Int) (a : Nat) : ∀ b : Nat, sm (a * b) f = sm b fun y => sm a fun r => f (a * y + r)
  | 0 => rfl
  | b + 1 => by rw [Nat.mul_succ, sm_app, sm_split f a b, sm]
theorem sm_list (f : Nat → Int) : ∀ n : Nat, ((List.range n).map f).sum = sm n f
  | 0 => rfl
  | n + 1 => by rw [List.range_succ, List.map_append, List.sum_append, sm_list f n, sm]; simp
/-! ### what a tree has at a place -/
def ind (hs : List Int) (w : Option Int) (x : Nat) : Int := match w with
  | none => 1
  | some c => if hs[x]?.getD 0 = c then 1 else 0
def lprod : List Int → Int
  | [] => 1
  | x :: l => x * lprod l
mutual
def Tr.val (hs : List Int) (M : List (List Int)) (n : Nat) : Tr → Nat → Int
  | .nd _ w bs, x => ind hs w x * Tr.vals hs M n bs x
def Tr.vals (hs : List Int) (M : List (List Int)) (n : Nat) : List Tr → Nat → Int
  | [], _ => 1
  | t :: ts, x => (sm n fun y => ent M x y * t.val hs M n y) * Tr.vals hs M n ts x
end
def Mr (hs : List Int) (M : List (List Int)) (n : Nat) (t : Tr) (x : Nat) : Int := sm n fun y => ent M x y * t.val hs M n y
theorem vals_prod (hs : List Int) (M : List (List Int)) (n : Nat) (x : Nat) : ∀ bs : List Tr, Tr.vals hs M n bs x = lprod (bs.map fun t => Mr hs M n t x)
  | [] => by rw [Tr.vals]; rfl
  | t :: bs => by rw [Tr.vals, List.map_cons, lprod, vals_prod hs M n x bs]; rfl
/-! ### its term's row -/
def tmW : Option Int → Tm
  | none => .one
  | some c => .hue c
mutual
def Tr.tm : Tr → Tm
  | .nd _ w bs => Tr.tmf (tmW w) bs
def Tr.tmf (a : Tm) : List Tr → Tm
  | [] => a
  | t :: ts => Tr.tmf (.both a (.near t.tm)) ts
end
theorem tmW_dat (w : Option Int) : (tmW w).dat = tmBase w := by cases w <;> rfl
mutual
theorem Tr.tm_dat : ∀ t : Tr, t.tm.dat = t.term
  | .nd _ w bs => by rw [Tr.tm, Tr.term, Tr.tmf_dat bs, tmW_dat]
theorem Tr.tmf_dat : ∀ (ts : List Tr) (a : Tm), (Tr.tmf a ts).dat = Tr.fold a.dat ts
  | [], a => by rw [Tr.tmf, Tr.fold]
  | t :: ts, a => by rw [Tr.tmf, Tr.fold, Tr.tmf_dat ts, Tm.dat, Tm.dat, Tr.tm_dat t]
end
mutual
theorem Tr.tm_good : ∀ t : Tr, t.tm.good ∧ t.tm.mans = 0 ∧ t.tm.size ≤ 7 * t.knots - 6
  | .nd _ w bs => by
    rw [Tr.tm, Tr.knots]
    have h : (tmW w).good ∧ (tmW w).mans = 0 ∧ (tmW w).size = 1 := by cases w <;> simp [tmW, Tm.good, Tm.mans, Tm.size]
    obtain ⟨a, b, c⟩ := Tr.tmf_good bs (tmW w) h.1 h.2.1
    have := Tr.knotss_len bs
    exact ⟨a, b, by rw [h.2.2] at c; omega⟩
theorem Tr.tmf_good : ∀ (ts : List Tr) (a : Tm), a.good → a.mans = 0 → (Tr.tmf a ts).good ∧ (Tr.tmf a ts).mans = 0 ∧ (Tr.tmf a ts).size ≤ a.size + 7 * Tr.knotss ts
  | [], a, g, m => by rw [Tr.tmf]; exact ⟨g, m, by omega⟩
  | t :: ts, a, g, m => by
    rw [Tr.tmf, Tr.knotss]
    obtain ⟨h1, h2, h3⟩ := Tr.tm_good t
    obtain ⟨a1, a2, a3⟩ := Tr.tmf_good ts (.both a (.near t.tm)) ⟨g, h1⟩ (by simp only [Tm.mans]; omega)
    refine ⟨a1, a2, ?_⟩
    have := t.knots_pos
    simp only [Tm.size] at a3
    omega
end
/-! ### the row of a tree's term -/
theorem zip_range (f g h : Nat → Int) (op : Int → Int → Int) (e : ∀ i, op (f i) (g i) = h i) (n : Nat) : List.zipWith op ((List.range n).map f) ((List.range n).map g) = (List.range n).map h := by
  rw [List.zipWith_map]
  refine List.ext_getElem (by simp) fun i h1 h2 => ?_
  simp [e]
theorem dot_sm {n : Nat} {row : List Int} (hl : row.length = n) (f : Nat → Int) : dot row ((List.range n).map f) = sm n fun y => (row[y]?).getD 0 * f y := by
  unfold dot
  have e : row = (List.range n).map fun y => (row[y]?).getD 0 := by
    refine List.ext_getElem (by simp [hl]) fun i h1 h2 => ?_
    simp [h1]
  conv => lhs; rw [e]
  rw [zip_range _ _ (fun y => (row[y]?).getD 0 * f y) _ (fun _ => rfl), sm_list]
variable {hs : List Int} {M : List (List Int)} {n : Nat}
theorem near_range (W : MOk n hs M) {t : Tm} {f : Nat → Int} (h : rowR hs M t = ((List.range n).map f, 1)) : rowR hs M (.near t) = ((List.range n).map fun x => sm n fun y => ent M x y * f y, 1) := by
  rw [rowR, h]
  refine Prod.ext ?_ rfl
  show M.map (fun w => dot w ((List.range n).map f)) = _
  refine List.ext_getElem (by simp [W.ml]) fun i h1 h2 => ?_
  have hi : i < M.length := by simpa using h1
  have hl := (W.row M[i] (List.getElem_mem hi)).1
  rw [List.getElem_map, dot_sm hl, List.getElem_map, List.getElem_range]
  refine sm_congr fun y _ => ?_
  unfold ent
  rw [List.getElem?_eq_getElem hi]
  rfl
theorem both_range {t u : Tm} {f g : Nat → Int} (h1 : rowR hs M t = ((List.range n).map f, 1)) (h2 : rowR hs M u = ((List.range n).map g, 1)) : rowR hs M (.both t u) = ((List.range n).map fun x => f x * g x, 1) := by
  rw [rowR, h1, h2]
  show M11.lowerR (List.zipWith (fun a b => a * b) ((List.range n).map f) ((List.range n).map g)) (1 * 1) = _
  rw [zip_range _ _ (fun x => f x * g x) _ (fun _ => rfl), Int.mul_one, M11.lowerR_one (M11.foldG_one _)]
theorem base_range (W : MOk n hs M) (w : Option Int) : rowR hs M (tmW w) = ((List.range n).map (ind hs w), 1) := by
  cases w with
  | none =>
    show (List.replicate hs.length (1 : Int), (1 : Int)) = _
    refine Prod.ext ?_ rfl
    show List.replicate hs.length (1 : Int) = (List.range n).map fun _ => (1 : Int)
    rw [W.hl, List.map_const', List.length_range]
  | some c =>
    refine Prod.ext ?_ rfl
    show hs.map (fun h => if h = c then (1 : Int) else 0) = (List.range n).map fun x => if hs[x]?.getD 0 = c then (1 : Int) else 0
    refine List.ext_getElem (by simp [W.hl]) fun i h1 h2 => ?_
    have hi : i < hs.length := by simpa using h1
    rw [List.getElem_map, List.getElem_map, List.getElem_range, List.getElem?_eq_getElem hi]
    rfl
mutual
theorem Tr.tm_row (W : MOk n hs M) : ∀ t : Tr, rowR hs M t.tm = ((List.range n).map (t.val hs M n), 1)
  | .nd i w bs => by
    rw [Tr.tm, Tr.tmf_row W bs (tmW w) (ind hs w) (base_range W w)]
    refine Prod.ext (List.map_congr_left fun x _ => ?_) rfl
    rw [Tr.val]
theorem Tr.tmf_row (W : MOk n hs M) : ∀ (ts : List Tr) (a : Tm) (f : Nat → Int), rowR hs M a = ((List.range n).map f, 1) → rowR hs M (Tr.tmf a ts) = ((List.range n).map (fun x => f x * Tr.vals hs M n ts x), 1)
  | [], a, f, h => by
    rw [Tr.tmf, h]
    refine Prod.ext (List.map_congr_left fun x _ => ?_) rfl
    rw [Tr.vals, Int.mul_one]
  | t :: ts, a, f, h => by
    rw [Tr.tmf, Tr.tmf_row W ts _ (fun x => f x * sm n fun y => ent M x y * t.val hs M n y) (both_range h (near_range W (Tr.tm_row W t)))]
    refine Prod.ext (List.map_congr_left fun x _ => ?_) rfl
    rw [Tr.vals, Int.mul_assoc]
end
/-! ### all maps, one knot behind the other -/
/-- the place of knot i -/
def pl (n i num : Nat) : Nat := num / n ^ i % n
/-- what the maps of the first m knots count -/
def cnt (n : Nat) (g : Nat → Nat → Int) (wt : Nat → Nat → Int) (o : Nat → Nat) : Nat → Nat → Int
  | 0, _ => 1
  | m + 1, num => cnt n g wt o m num * (g m (pl n m num) * if m = 0 then 1 else wt (pl n (o m) num) (pl n m num))
theorem pl_low {n m i y r : Nat} (hi : i < m) : pl n i (n ^ m * y + r) = pl n i r := by
  unfold pl
  have e : n ^ m * y + r = r + n ^ i * (n * (n ^ (m - i - 1) * y)) := by
    have : n ^ m = n ^ i * (n * n ^ (m - i - 1)) := by
      rw [← Nat.pow_succ', ← Nat.pow_add]
      congr 1
      omega
    rw [this, Nat.mul_assoc, Nat.mul_assoc, Nat.add_comm]
  rw [e]
  by_cases hn : n = 0
  · subst hn
    cases i with
    | zero => simp
    | succ i => simp
  · rw [Nat.add_mul_div_left _ _ (Nat.pow_pos (by omega)), Nat.add_mul_mod_self_left]
theorem pl_top {n m y r : Nat} (hr : r < n ^ m) (hy : y < n) : pl n m (n ^ m * y + r) = y := by
  unfold pl
  rw [Nat.add_comm, Nat.add_mul_div_left _ _ (by omega), Nat.div_eq_of_lt hr, Nat.zero_add, Nat.mod_eq_of_lt hy]
theorem cnt_low {n m y r : Nat} {g : Nat → Nat → Int} {wt : Nat → Nat → Int} {o : Nat → Nat} (ho : ∀ c, 1 ≤ c → o c < c) : ∀ k, k ≤ m → cnt n g wt o k (n ^ m * y + r) = cnt n g wt o k r
  | 0, _ => rfl
  | k + 1, h => by
    rw [cnt, cnt, cnt_low ho k (by omega), pl_low (by omega)]
    by_cases hk : k = 0
    · rw [if_pos hk, if_pos hk]
    · rw [if_neg hk, if_neg hk, pl_low (by have := ho k (by omega); omega)]
theorem cnt_hang {n : Nat} {g : Nat → Nat → Int} {wt : Nat → Nat → Int} {o : Nat → Nat} {j : Nat} {h : Nat → Int} : ∀ m num, cnt n (fun i x => if i = j then g i x * h x else g i x) wt o m num = cnt n g wt o m num * if j < m then h (pl n j num) else 1
  | 0, num => by rw [cnt, cnt]; simp
  | m + 1, num => by
    rw [cnt, cnt, cnt_hang m num]
    generalize (if m = 0 then (1 : Int) else wt (pl n (o m) num) (pl n m num)) = z
    by_cases hm : m = j
    · subst hm
      have e1 : (if m < m then h (pl n m num) else (1 : Int)) = 1 := if_neg (Nat.lt_irrefl m)
      have e2 : (if m < m + 1 then h (pl n m num) else (1 : Int)) = h (pl n m num) := if_pos (Nat.lt_succ_self m)
      have e3 : (if m = m then g m (pl n m num) * h (pl n m num) else g m (pl n m num)) = g m (pl n m num) * h (pl n m num) := if_pos rfl
      rw [e1, e2]
      show _ * 1 * ((if m = m then g m (pl n m num) * h (pl n m num) else g m (pl n m num)) * z) = _
      rw [e3]
      grind
    · have e3 : (if m = j then g m (pl n m num) * h (pl n m num) else g m (pl n m num)) = g m (pl n m num) := if_neg hm
      show _ * ((if m = j then g m (pl n m num) * h (pl n m num) else g m (pl n m num)) * z) = _
      rw [e3]
      by_cases hj : j < m
      · have e1 : (if j < m then h (pl n j num) else (1 : Int)) = h (pl n j num) := if_pos hj
        have e2 : (if j < m + 1 then h (pl n j num) else (1 : Int)) = h (pl n j num) := if_pos (by omega)
        rw [e1, e2]
        grind
      · have e1 : (if j < m then h (pl n j num) else (1 : Int)) = 1 := if_neg hj
        have e2 : (if j < m + 1 then h (pl n j num) else (1 : Int)) = 1 := if_neg (by omega)
        rw [e1, e2]
        grind
theorem elim_last {n m : Nat} {g : Nat → Nat → Int} {wt : Nat → Nat → Int} {o : Nat → Nat} (ho : ∀ c, 1 ≤ c → o c < c) (hm : 1 ≤ m) :
    sm (n ^ (m + 1)) (cnt n g wt o (m + 1)) = sm (n ^ m) (cnt n (fun i x => if i = o m then g i x * (sm n fun y => wt x y * g m y) else g i x) wt o m) := by
  rw [Nat.pow_succ, sm_split, sm_swap]
  refine sm_congr fun r hr => ?_
  rw [cnt_hang, if_pos (ho m hm), ← sm_mul]
  refine sm_congr fun y hy => ?_
  rw [cnt, cnt_low ho m (Nat.le_refl _), pl_top hr hy, if_neg (by omega), pl_low (ho m hm)]
  grind
end

/-! the knots in their row, and what all maps count -/
section
open TM
abbrev KL := List (Tr × Int)
def Tr.wish : Tr → Option Int
  | .nd _ w _ => w
def Tr.boughs : Tr → List Tr
  | .nd _ _ bs => bs
def kid (i : Nat) (p : Tr × Int) : Bool := decide (p.2 = (i : Int))
structure Bfs (L : KL) (a : Nat) (tot : Nat) : Prop where
  pos : a ≤ L.length
  par : ∀ (c : Nat) (t : Tr) (o : Int), L[c]? = some (t, o) → (c = 0 ∧ o = -1) ∨ (1 ≤ c ∧ ∃ j : Nat, o = (j : Int) ∧ j < c ∧ j < a)
  bgh : ∀ (i : Nat) (t : Tr) (o : Int), i < a → L[i]? = some (t, o) → t.boughs = (L.filter (kid i)).map (·.1)
  cnt : a + ((L.drop a).map fun p => p.1.knots).sum = tot
theorem Bfs.start (t : Tr) : Bfs [(t, -1)] 0 t.knots := by
  refine ⟨Nat.zero_le _, fun c t' o h => ?_, fun i t' o h _ => by omega, by simp⟩
  cases c with
  | zero => cases h; exact .inl ⟨rfl, rfl⟩
  | succ c => simp at h
theorem knots_sum : ∀ bs : List Tr, (bs.map Tr.knots).sum = Tr.knotss bs
  | [] => by rw [Tr.knotss]; rfl
  | t :: bs => by rw [List.map_cons, List.sum_cons, knots_sum bs, Tr.knotss]
theorem filter_none {L : KL} {i : Nat} (h : ∀ p ∈ L, p.2 ≠ (i : Int)) : L.filter (kid i) = [] := by
  rw [List.filter_eq_nil_iff]
  intro p hp
  simpa [kid] using h p hp
theorem Bfs.step {L : KL} {a tot : Nat} (B : Bfs L a tot) {t : Tr} {o : Int} (h : L[a]? = some (t, o)) : Bfs (L ++ t.boughs.map fun b => (b, (a : Int))) (a + 1) tot := by
  have ha : a < L.length := (List.getElem?_eq_some_iff.mp h).1
  have hold : ∀ p ∈ L, p.2 ≠ (a : Int) := fun p hp => by
    obtain ⟨c, hc, e⟩ := List.getElem_of_mem hp
    rcases B.par c p.1 p.2 (by rw [List.getElem?_eq_getElem hc, e]) with ⟨_, z⟩ | ⟨_, j, z, _, z2⟩ <;> omega
  refine ⟨by rw [List.length_append]; omega, fun c t' o' hc => ?_, fun i t' o' hi hc => ?_, ?_⟩
  · by_cases hl : c < L.length
    · rw [List.getElem?_append_left hl] at hc
      rcases B.par c t' o' hc with z | ⟨z1, j, z2, z3, z4⟩
      · exact .inl z
      · exact .inr ⟨z1, j, z2, z3, by omega⟩
    · rw [List.getElem?_append_right (by omega), List.getElem?_map] at hc
      obtain ⟨b, _, e⟩ := Option.map_eq_some_iff.mp hc
      cases e
      exact .inr ⟨by omega, a, rfl, by omega, by omega⟩
  · rw [List.getElem?_append_left (by omega)] at hc
    rw [List.filter_append, List.map_append]
    by_cases hia : i = a
    · subst hia
      rw [h] at hc
      cases hc
      rw [filter_none hold, List.map_nil, List.nil_append]
      have : (t.boughs.map fun b => (b, (i : Int))).filter (kid i) = t.boughs.map fun b => (b, (i : Int)) := by
        rw [List.filter_eq_self]
        intro p hp
        obtain ⟨b, _, rfl⟩ := List.mem_map.mp hp
        simp [kid]
      rw [this, List.map_map]
      exact (List.map_id t.boughs).symm
    · have e2 : (t.boughs.map fun b => (b, (a : Int))).filter (kid i) = [] := filter_none fun p hp => by
        obtain ⟨b, _, rfl⟩ := List.mem_map.mp hp
        show (a : Int) ≠ (i : Int)
        omega
      rw [e2, List.map_nil, List.append_nil]
      exact B.bgh i t' o' (by omega) hc
  · rw [List.drop_append_of_le_length (by omega), List.map_append, List.sum_append, List.map_map]
    have e1 : ((t.boughs.map ((fun p : Tr × Int => p.1.knots) ∘ fun b => (b, (a : Int)))).sum) = Tr.knotss t.boughs := by
      rw [← knots_sum]
      rfl
    rw [e1]
    have e2 := B.cnt
    rw [List.drop_eq_getElem_cons ha, List.map_cons, List.sum_cons] at e2
    have e3 : L[a] = (t, o) := by
      rw [List.getElem?_eq_getElem ha] at h
      exact Option.some.inj h
    rw [e3] at e2
    have e4 : t.knots = 1 + Tr.knotss t.boughs := by
      cases t
      rw [Tr.knots]
      rfl
    have e2' : a + (t.knots + ((L.drop (a + 1)).map fun p => p.1.knots).sum) = tot := e2
    omega
def trL (L : KL) (i : Nat) : Tr := ((L[i]?).map fun p : Tr × Int => p.1).getD (.nd 0 none [])
def oL (L : KL) (i : Nat) : Nat := (((L[i]?).map fun p : Tr × Int => p.2).getD (0 : Int)).toNat
theorem trL_of {L : KL} {i : Nat} {t : Tr} {o : Int} (h : L[i]? = some (t, o)) : trL L i = t := by unfold trL; rw [h]; rfl
theorem oL_of {L : KL} {i : Nat} {t : Tr} {o : Int} (h : L[i]? = some (t, o)) : oL L i = o.toNat := by unfold oL; rw [h]; rfl
theorem oL_lt {L : KL} {a tot : Nat} (B : Bfs L a tot) : ∀ c, 1 ≤ c → oL L c < c := fun c hc => by
  cases e : L[c]? with
  | none =>
    unfold oL
    rw [e]
    show (0 : Int).toNat < c
    exact hc
  | some p =>
    obtain ⟨t, o⟩ := p
    rw [oL_of e]
    rcases B.par c t o e with ⟨z, _⟩ | ⟨_, j, z, z2, _⟩ <;> omega
theorem cnt_congr {n : Nat} {g g' : Nat → Nat → Int} {wt : Nat → Nat → Int} {o : Nat → Nat} : ∀ {m : Nat}, (∀ i x, i < m → g i x = g' i x) → ∀ num, cnt n g wt o m num = cnt n g' wt o m num
  | 0, _, _ => rfl
  | m + 1, h, num => by rw [cnt, cnt, cnt_congr (fun i x hi => h i x (by omega)) num, h m _ (by omega)]
variable {hs : List Int} {M : List (List Int)} {n : Nat}
def gm (hs : List Int) (M : List (List Int)) (n : Nat) (L : KL) (m i x : Nat) : Int := ind hs (trL L i).wish x * lprod (((L.drop m).filter (kid i)).map fun p => Mr hs M n p.1 x)
theorem gm_val {L : KL} {tot : Nat} (B : Bfs L L.length tot) {i : Nat} (hi : i < L.length) (x : Nat) : gm hs M n L (i + 1) i x = (trL L i).val hs M n x := by
  have e : L[i]? = some L[i] := List.getElem?_eq_getElem hi
  rcases hp : L[i] with ⟨t, o⟩
  rw [hp] at e
  unfold gm
  rw [trL_of e]
  have hb := B.bgh i t o hi e
  have hf : L.filter (kid i) = (L.drop (i + 1)).filter (kid i) := by
    conv => lhs; rw [← List.take_append_drop (i + 1) L]
    rw [List.filter_append, filter_none, List.nil_append]
    intro p hp'
    obtain ⟨c, hc, ec⟩ := List.getElem_of_mem hp'
    rw [List.length_take] at hc
    rw [List.getElem_take] at ec
    rcases B.par c p.1 p.2 (by rw [List.getElem?_eq_getElem (by omega), ec]) with ⟨_, z⟩ | ⟨_, j, z, z2, _⟩ <;> omega
  rw [← hf]
  cases t with
  | nd l w bs =>
    have hb' : bs = (L.filter (kid i)).map (·.1) := hb
    rw [Tr.val, vals_prod]
    conv => rhs; rw [hb', List.map_map]
    rfl
theorem maps_step {L : KL} {tot : Nat} (B : Bfs L L.length tot) : ∀ d m, m + d = L.length → 1 ≤ m →
    sm (n ^ L.length) (cnt n (fun i x => ind hs (trL L i).wish x) (ent M) (oL L) L.length) = sm (n ^ m) (cnt n (gm hs M n L m) (ent M) (oL L) m)
  | 0, m, h, _ => by
    have : m = L.length := by omega
    subst this
    refine sm_congr fun num _ => cnt_congr (fun i x _ => ?_) num
    unfold gm
    rw [List.drop_length]
    simp [lprod]
  | d + 1, m, h, hm => by
    have hml : m < L.length := by omega
    rw [maps_step B d (m + 1) (by omega) (by omega), elim_last (oL_lt B) hm]
    refine sm_congr fun num _ => cnt_congr (fun i x hi => ?_) num
    have e : L[m]? = some L[m] := List.getElem?_eq_getElem hml
    have ed := List.drop_eq_getElem_cons hml
    rcases hp : L[m] with ⟨t, o⟩
    rw [hp] at e ed
    have es : (sm n fun y => ent M x y * gm hs M n L (m + 1) m y) = Mr hs M n t x := by
      unfold Mr
      refine sm_congr fun y _ => ?_
      rw [gm_val B hml, trL_of e]
    have ho : (i = oL L m) = ((kid i (t, o)) = true) := by
      rw [oL_of e]
      rcases B.par m t o e with ⟨z, _⟩ | ⟨_, j, z, z2, _⟩
      · omega
      · subst z
        simp only [kid, decide_eq_true_eq, Int.toNat_natCast]
        exact propext ⟨fun z => by omega, fun z => by omega⟩
    show (if i = oL L m then gm hs M n L (m + 1) i x * (sm n fun y => ent M x y * gm hs M n L (m + 1) m y) else gm hs M n L (m + 1) i x) = gm hs M n L m i x
    rw [es]
    conv => rhs; unfold gm; rw [ed, List.filter_cons]
    by_cases hk : kid i (t, o) = true
    · rw [if_pos (ho ▸ hk), if_pos hk, List.map_cons, lprod]
      unfold gm
      grind
    · rw [if_neg (fun z => hk (ho ▸ z)), if_neg hk]
      rfl
theorem maps_sum {L : KL} {tot : Nat} {t0 : Tr} (B : Bfs L L.length tot) (h0 : L[0]? = some (t0, -1)) :
    sm (n ^ L.length) (cnt n (fun i x => ind hs (trL L i).wish x) (ent M) (oL L) L.length) = sm n (t0.val hs M n) := by
  have hl : 0 < L.length := (List.getElem?_eq_some_iff.mp h0).1
  rw [maps_step B (L.length - 1) 1 (by omega) (Nat.le_refl _), Nat.pow_one]
  refine sm_congr fun x hx => ?_
  rw [cnt, cnt]
  have e : pl n 0 x = x := by unfold pl; rw [Nat.pow_zero, Nat.div_one, Nat.mod_eq_of_lt hx]
  rw [e, gm_val B hl, trL_of h0]
  simp
theorem Bfs.len {L : KL} {tot : Nat} (B : Bfs L L.length tot) : L.length = tot := by
  have := B.cnt
  rw [List.drop_length] at this
  simpa using this
end

/-! law_k14: maps_total; _law_knots -/
section
variable {P : Program} {w : World} {K : PySem.W.Frag} {mg : Str → Option Value} {base : Heap}
open TM in
/-- a web and a tree -/
structure TrW (K : PySem.W.Frag) (H : Hp) (wA : Addr) (v : V) (t : Tr) (hs : List Int) (M : List (List Int)) (n : Nat) : Prop where
  wr : WR H wA hs M
  mo : MOk n hs M
  few : t.knots ≤ 5
  da : DA K any H v t.dat
open TM in
theorem TrW.mono {H H' : Hp} {wA : Addr} {v : V} {t : Tr} {hs : List Int} {M : List (List Int)} {n : Nat} (h : TrW K H wA v t hs M n) (s : Same H H') : TrW K H' wA v t hs M n := ⟨h.wr.mono s, h.mo, h.few, DA.same h.da s⟩
open TM in
theorem TrW.deep {H : Hp} {wA : Addr} {v : V} {t : Tr} {hs : List Int} {M : List (List Int)} {n : Nat} (h : TrW K H wA v t hs M n) : t.deep ≤ 5 := by
  have := t.deep_le
  have := h.few
  omega
open TM in
theorem TrW.tm {H H' : Hp} {wA : Addr} {v u : V} {t : Tr} {hs : List Int} {M : List (List Int)} {n : Nat} {ok : Addr → Prop} (h : TrW K H wA v t hs M n) (s : Same H H') (d : DA K ok H' u t.term) : TmW K H' wA u t.tm hs M n := by
  obtain ⟨g1, g2, g3⟩ := t.tm_good
  have := h.few
  exact ⟨h.wr.mono s, h.mo, g1, by omega, by omega, by rw [t.tm_dat]; exact DA.any d⟩
open TM in
theorem tot_val {t : Tr} {hs : List Int} {M : List (List Int)} {n : Nat} (W : MOk n hs M) : M11.low (rowR hs M t.tm).1.sum (rowR hs M t.tm).2 = (sm n (t.val hs M n), 1) := by
  rw [t.tm_row W]
  show M11.low ((List.range n).map (t.val hs M n)).sum 1 = _
  rw [sm_list, M11.low_one]
open TM in
def spMapsTotal (K : PySem.W.Frag) : Sp := fun vs H Q _ => ∃ (wA : Addr) (v : V) (t : Tr) (hs : List Int) (M : List (List Int)) (n : Nat), vs = [.ref wA, v] ∧ TrW K H wA v t hs M n ∧ ∀ H', Same H H' → Q (.int (sm n (t.val hs M n))) H'
theorem scMapsTotal : FnScope ["web", "tree"] ["web", "tree"] (defScope sMapsTotal) := ⟨rfl, rfl, rfl, by decide +kernel, rfl, by decide +kernel, by decide +kernel⟩
open TM in
theorem ok_mapsTotal {f fT fTo : Addr} {fd fdT fdTo : FuncData} (F : Fun K "maps_total" "maps_total" sMapsTotal f fd) (DT : Dn K mg "term_of" sTermOf ["tree"] fT fdT) (GT : FnOk P w K mg base CX0 6 fT fdT ["tree"] (spTermOf K 5))
    (DTo : Dn K mg "total_of" sTotalOf ["web", "term"] fTo fdTo) (GTo : FnOk P w K mg base CX0 9 fTo fdTo ["web", "term"] (spTotalOf K)) : FnOk P w K mg base CX0 10 f fd ["web", "tree"] (spMapsTotal K) := by
  refine F.ok scMapsTotal (fun vs H Q E h => ?_) (fun cdv A outer s H vs Q E hr h => ?_)
  · obtain ⟨wA, v, t, hs, M, n, rfl, _⟩ := h
    rfl
  · obtain ⟨wA, v, t, hs, M, n, rfl, hT, k⟩ := h
    refine ⟨_, pss_one (ps_ret (pe_ix ix_tup (pe_fn DTo GTo hr rfl (pa_cons (pv 0) (pa_cons (pe_fn DT GT (hr.mono (j := 6) (by decide)) rfl (pa_cons (pv 1) pa_nil)) pa_nil))) pe_int (fun _ _ => rfl))), ?_⟩
    refine ⟨_, rfl, _, rfl, v, t, rfl, hT.da, hT.deep, fun u H1 s1 d1 => ?_⟩
    refine ⟨wA, u, t.tm, hs, M, n, rfl, hT.tm s1 d1, ?_⟩
    rintro z H2 s2 ⟨p, rfl, hp⟩
    rw [tot_val hT.mo] at hp
    exact ⟨p, _, _, _, rfl, rfl, SqT.of hp, rfl, k H2 (s1.trans s2)⟩
/-! ### _law_knots -/
def KAt (K : PySem.W.Frag) (H0 H : Hp) (vs : List V) (L : KL) : Prop := vs.length = L.length ∧ ∀ (i : Nat) (v : V) (t : Tr) (o : Int), vs[i]? = some v → L[i]? = some (t, o) → ∃ p tv, v = .ref p ∧ H p = some (.tup [tv, .int o]) ∧ DA K any H0 tv t.dat
theorem KAt.mono {H0 H H' : Hp} {vs : List V} {L : KL} (h : KAt K H0 H vs L) (s : ∀ b o, H b = some (.tup o) → H' b = some (.tup o)) : KAt K H0 H' vs L :=
  ⟨h.1, fun i v t o h1 h2 => let ⟨p, tv, e, e2, d⟩ := h.2 i v t o h1 h2; ⟨p, tv, e, s _ _ e2, d⟩⟩
theorem KAt.snoc {H0 H : Hp} {vs : List V} {L : KL} {p : Addr} {tv : V} {t : Tr} {o : Int} (h : KAt K H0 H vs L) (hp : H p = some (.tup [tv, .int o])) (d : DA K any H0 tv t.dat) : KAt K H0 H (vs ++ [.ref p]) (L ++ [(t, o)]) := by
  refine ⟨by rw [List.length_append, List.length_append, h.1]; rfl, fun i v t' o' h1 h2 => ?_⟩
  rcases snoc_get h1 with h1 | ⟨h1, e1⟩
  · rcases snoc_get h2 with h2 | ⟨h2, e2⟩
    · exact h.2 i v t' o' h1 h2
    · have := (List.getElem?_eq_some_iff.mp h1).1
      have := h.1
      omega
  · rcases snoc_get h2 with h2 | ⟨h2, e2⟩
    · have := (List.getElem?_eq_some_iff.mp h2).1
      have := h.1
      omega
    · cases e2
      exact ⟨p, tv, e1, hp, d⟩
def spKnotsL (K : PySem.W.Frag) : Sp := fun vs H Q _ => ∃ (v : V) (t : Tr), vs = [v] ∧ DA K any H v t.dat ∧ t.knots ≤ 12 ∧ ∀ (a : Addr) (us : List V) (L : KL) H', Same H H' → H' a = some (.lst us) → KAt K H H' us L → Bfs L L.length t.knots → L[0]? = some (t, -1) → Q (.ref a) H'
abbrev nKnotsL : List Str := ["_law_tree_here", "_law_knots_here", "_law_at", "_law_bough"]
theorem scKnotsL : FnScope nKnotsL ["_law_tree_here"] (defScope sKnotsL) := ⟨rfl, rfl, rfl, by decide +kernel, rfl, by decide +kernel, by decide +kernel⟩
theorem ok_knotsL {f : Addr} {fd : FuncData} (hlen : mg "len" = none) (F : Fun K "_law_knots" "_law_knots" sKnotsL f fd) : FnOk P w K mg base CX0 1 f fd ["_law_tree_here"] (spKnotsL K) := by
  refine F.ok scKnotsL (fun vs H Q E h => ?_) (fun cdv A outer s H vs Q E hr h => ?_)
  · obtain ⟨v, t, rfl, _⟩ := h
    rfl
  · obtain ⟨v, t, rfl, hT, hk, k⟩ := h
    refine ⟨_, pss_cons (ps_set (i := 1) scKnotsL.nd rfl (Or.inl rfl) (pe_lst (pa_cons (pe_tup (pa_cons (pv 0) (pa_cons (pe_un un_neg pe_int) pa_nil))) pa_nil)))
      (pss_cons (ps_set (i := 2) scKnotsL.nd rfl (Or.inl rfl) pe_int)
      (pss_cons (ps_while PassesOwn.never (pt_cmpR op_lt (pv 2) (pe_callB call_len_seq (by rfl) hlen PySem.boot_len (pa_cons (pv 1) pa_nil)) (nomark _))
        (pss_cons (ps_for PassesOwn.never rfl (pi_list (pe_ix ix_tup (pe_ix ix_tup (pe_ix ix_list (pv 1) (pv 2) (fun _ _ => rfl)) pe_int (fun _ _ => rfl)) pe_int (fun _ _ => rfl))) (pg_name (i := 3) scKnotsL.nd rfl (Or.inl rfl))
          (pss_one (ps_expr (pe_bm PySem.F.plainAttrs_list PySem.F.slot_list_append PySem.F.type_list_append mt_append (pv 1) (pa_cons (pe_tup (pa_cons (pv 3) (pa_cons (pv 2) pa_nil))) pa_nil)))))
        (pss_one (ps_set (i := 2) scKnotsL.nd rfl (Or.inl rfl) (pe_op op_add (pv 2) pe_int)))))
      (pss_one (ps_ret (pv 1))))), ?_⟩
    refine ⟨_, rfl, 1, rfl, (by show 2 ≤ sizeLine; decide), fun p0 hp0 => ?_⟩
    refine ⟨(by show 1 ≤ sizeLine; decide), fun a ha => ?_⟩
    have nap : p0 ≠ a := ne_of_none upd_same ha
    have ha0 : H a = none := by rw [upd_ne nap.symm] at ha; exact ha
    dsimp only [gName]
    refine seq_while (while_by (fun σ H' => ∃ (o3 : Option V) (m : Nat) (us : List V) (L : KL), σ = [some v, some (.ref a), some (.int (m : Int)), o3] ∧ Same H H' ∧ H' a = some (.lst us) ∧ KAt K H H' us L ∧ Bfs L m t.knots ∧ L[0]? = some (t, -1))
      (fun σ _ => match σ with | [_, _, some (.int m), _] => t.knots - m.toNat | _ => 0) ?_ ?_ ?_)
    · refine ⟨none, 0, [.ref p0], [(t, -1)], rfl, (Same.upd hp0).trans (Same.upd ha), upd_same, ⟨rfl, fun i v' t' o h1 h2 => ?_⟩, Bfs.start t, rfl⟩
      cases i with
      | zero =>
        cases h1
        cases h2
        exact ⟨p0, v, rfl, by rw [upd_ne nap]; exact upd_same, hT⟩
      | succ i => simp at h1
    · rintro σ H1 ⟨o3, m, us, L, rfl, s1, ea, kt, B, h0⟩
      have llen : L.length ≤ t.knots := by
        have e := B.cnt
        have p1 := B.pos
        have : (L.drop m).length ≤ ((L.drop m).map fun p => p.1.knots).sum := by
          generalize L.drop m = l
          induction l with
          | nil => exact Nat.zero_le _
          | cons x l ih =>
            rw [List.map_cons, List.sum_cons, List.length_cons]
            have := x.1.knots_pos
            omega
        rw [List.length_drop] at this
        omega
      refine ⟨_, rfl, _, rfl, a, _, rfl, .inl (SqL.of ea), _, _, rfl, rfl, _, rfl, ?_⟩
      by_cases hm : (m : Int) < ((us.length : Nat) : Int)
      · refine itDP hm ?_
        have hml : m < L.length := by have := kt.1; omega
        have eL : L[m]? = some L[m] := List.getElem?_eq_getElem hml
        rcases hp : L[m] with ⟨tm, om⟩
        rw [hp] at eL
        have hum : us[m]? = some (us[m]'(by have := kt.1; omega)) := List.getElem?_eq_getElem _
        generalize us[m]'(by have := kt.1; omega) = um at hum
        obtain ⟨p, tv, rfl, ep, dt⟩ := kt.2 m um tm om hum eL
        obtain ⟨tp, rfl⟩ := tree_ref dt
        cases tm with
        | nd il wl bs =>
          obtain ⟨l, ys, hp', hl, hlen', hys⟩ := tree_at dt
          have hkt := llen
          refine ⟨_, rfl, _, rfl, a, _, _, _, rfl, rfl, SqL.of ea, atI_nat hum, p, _, _, _, rfl, rfl, SqT.of ep, rfl, tp, _, _, _, rfl, rfl, s1.seqT hp', rfl, l, rfl, ⟨_, Same.sq s1 hl⟩, ?_⟩
          refine for_list (xs := ys) (fun j σ H' => ∃ (o3 : Option V) (us' : List V), σ = [some v, some (.ref a), some (.int (m : Int)), o3] ∧ Same H H' ∧ H' a = some (.lst us') ∧ KAt K H H' us' (L ++ (bs.take j).map fun b => (b, (m : Int)))) ⟨o3, us, rfl, s1, ea, by simpa using kt⟩ (fun j σ H' _ ⟨_, _, _, s', _⟩ => Same.sq s' hl) ?_ ?_
          · rintro j x σ H2 hx ⟨o3', us', rfl, s2, ea2, kt2⟩
            obtain ⟨b, hb, db⟩ := hys j x hx
            refine ⟨_, rfl, .inl ⟨rfl, _, SqL.of ea2⟩, _, rfl, _, rfl, (by show 2 ≤ sizeLine; decide), fun q hq => ?_⟩
            have s3 : Same H2 (L2.upd H2 q (.tup [x, .int (m : Int)])) := Same.upd hq
            have e3 : L2.upd H2 q (.tup [x, .int (m : Int)]) q = some (.tup [x, .int (m : Int)]) := upd_same
            generalize L2.upd H2 q (.tup [x, .int (m : Int)]) = H3 at s3 e3 ⊢
            have ea3 := s3 _ _ ea2
            have lb : us'.length ≤ 24 := by
              have := kt2.1
              rw [List.length_append, List.length_map, List.length_take] at this
              have hbs : bs.length ≤ 12 := by
                have e := B.cnt
                rw [List.drop_eq_getElem_cons hml, List.map_cons, List.sum_cons, hp] at e
                have e' : m + ((Tr.nd il wl bs).knots + ((L.drop (m + 1)).map fun p => p.1.knots).sum) = t.knots := e
                rw [Tr.knots] at e'
                have := Tr.knotss_len bs
                omega
              omega
            refine ⟨a, us', _, rfl, rfl, ea3, small1000 (by omega), ?_⟩
            refine ⟨_, us' ++ [.ref q], rfl, fun c o e => ?_, upd_same, ?_⟩
            · rw [upd_ne (ne_of_none e ha0)]
              exact s3 _ _ (s2 _ _ e)
            · rw [take_snoc hb, List.map_append, ← List.append_assoc]
              have k3 := (kt2.mono fun b' o' e' => s3 _ _ e').snoc e3 db
              refine k3.mono fun b' o' e' => ?_
              rw [upd_ne (fun z => by rw [z, ea3] at e'; cases e')]
              exact e'
          · rintro σ H2 ⟨o3', us', rfl, s2, ea2, kt2⟩
            rw [hlen', List.take_length] at kt2
            refine ⟨_, rfl, _, _, rfl, rfl, ?_⟩
            have B2 := B.step eL
            refine ⟨⟨o3', m + 1, us', _, rfl, s2, ea2, kt2, B2, by rw [List.getElem?_append_left (by omega)]; exact h0⟩, ?_⟩
            show t.knots - ((m : Int) + 1).toNat < t.knots - ((m : Int)).toNat
            omega
      · refine itDN hm ?_
        have hml : m = L.length := by have := kt.1; have := B.pos; omega
        subst hml
        exact ⟨_, rfl, k a us L H1 s1 ea kt B h0⟩
    · rintro σ H' Q1 Q2 hq ⟨v1, e1, v2, e2, a1, a2, a3, a4, i, j, b1, b2, c, ec, q⟩
      exact ⟨v1, e1, v2, e2, a1, a2, a3, a4, i, j, b1, b2, c, ec, hq _ _ q⟩
end

/-! law_k14: _law_counted, _law_maps, the law -/
section
variable {P : Program} {w : World} {K : PySem.W.Frag} {mg : Str → Option Value} {base : Heap}
structure BltM (mg : Str → Option Value) : Prop where
  len : mg "len" = none
  sum : mg "sum" = none
  range : mg "range" = none
  isi : mg "isinstance" = none
theorem cnt_zero {n : Nat} {g : Nat → Nat → Int} {wt : Nat → Nat → Int} {o : Nat → Nat} {num i : Nat} (h : g i (pl n i num) = 0) : ∀ m, i < m → cnt n g wt o m num = 0
  | 0, h' => by omega
  | m + 1, h' => by
    rw [cnt]
    by_cases e : i = m
    · subst e
      rw [h, Int.zero_mul, Int.mul_zero]
    · rw [cnt_zero h m (by omega), Int.zero_mul]
theorem cnt_bn {n : Nat} {hs : List Int} {M : List (List Int)} {L : KL} {num : Nat} (hM : ∀ a b : Nat, M11.Bn 200 (ent M a b)) : ∀ m, M11.Bn (201 * m + 1) (cnt n (fun i x => ind hs (trL L i).wish x) (ent M) (oL L) m num)
  | 0 => by unfold M11.Bn; rw [cnt]; decide
  | m + 1 => by
    rw [cnt]
    have hi : M11.Bn 1 (ind hs (trL L m).wish (pl n m num)) := by
      unfold ind M11.Bn
      split
      · decide
      · split <;> decide
    have hz : M11.Bn 200 (if m = 0 then 1 else ent M (pl n (oL L m) num) (pl n m num)) := by
      split
      · exact (show M11.Bn 1 1 by unfold M11.Bn; decide).mono (by decide)
      · exact hM _ _
    exact ((cnt_bn hM m).mul (hi.mul hz)).mono (by omega)
open TM in
theorem ent_bn {n : Nat} {hs : List Int} {M : List (List Int)} (W : MOk n hs M) (a b : Nat) : M11.Bn 200 (ent M a b) := by
  unfold ent
  cases e : M[a]? with
  | none => show M11.Bn 200 0; unfold M11.Bn; decide
  | some x =>
    show M11.Bn 200 ((x[b]?).getD 0)
    cases e2 : x[b]? with
    | none => show M11.Bn 200 0; unfold M11.Bn; decide
    | some z => exact bn200 ((W.row x (List.mem_of_getElem? e)).2 z (List.mem_of_getElem? e2))
open TM in
def spCounted (K : PySem.W.Frag) : Sp := fun vs H Q _ => ∃ (wA kA : Addr) (num : Nat) (hs : List Int) (M : List (List Int)) (n : Nat) (us : List V) (L : KL) (H0 : Hp) (tot : Nat), vs = [.ref wA, .ref kA, .int (num : Int)] ∧ WR H wA hs M ∧ MOk n hs M ∧ 1 ≤ n ∧ H kA = some (.lst us) ∧ Same H0 H ∧ KAt K H0 H us L ∧ Bfs L L.length tot ∧ tot ≤ 12 ∧
  ∀ H', Same H H' → Q (.int (cnt n (fun i x => ind hs (trL L i).wish x) (ent M) (oL L) L.length num)) H'
abbrev nCounted : List Str := ["_law_web_here", "_law_knots_here", "_law_number", "_law_many", "_law_places", "_law_found", "_law_knot", "_law_onto", "_law_place"]
theorem scCounted : FnScope nCounted ["_law_web_here", "_law_knots_here", "_law_number"] (defScope sCounted) := ⟨rfl, rfl, rfl, by decide +kernel, rfl, by decide +kernel, by decide +kernel⟩
open TM in
theorem ok_counted {f : Addr} {fd : FuncData} (B : BltM mg) (F : Fun K "_law_counted" "_law_counted" sCounted f fd) : FnOk P w K mg base CX0 1 f fd ["_law_web_here", "_law_knots_here", "_law_number"] (spCounted K) := by
  refine F.ok scCounted (fun vs H Q E h => ?_) (fun cdv A outer s H vs Q E hr h => ?_)
  · obtain ⟨wA, kA, num, hs, M, n, us, L, H0, tot, rfl, _⟩ := h
    rfl
  · obtain ⟨wA, kA, num, hs, M, n, us, L, H0, tot, rfl, hW, hM, hn1, hk, s0, kt, Bf, htot, k⟩ := h
    obtain ⟨hA, rA, rs, w1, w2, w3, R⟩ := hW.ex
    have few := hM.few
    have llen := Bf.len
    have lus := kt.1
    refine ⟨_, pss_cons (ps_set (i := 3) scCounted.nd rfl (Or.inl rfl) (pe_callB call_len_seq (by rfl) B.len PySem.boot_len (pa_cons (pe_ix ix_tup (pv 0) pe_int (fun _ _ => rfl)) pa_nil)))
      (pss_cons (ps_set (i := 4) scCounted.nd rfl (Or.inl rfl) (pe_lst pa_nil))
      (pss_cons (ps_set (i := 5) scCounted.nd rfl (Or.inl rfl) pe_int)
      (pss_cons (ps_for PassesOwn.never rfl (pi_list (pv 1)) (pg_tup rfl (pgs_cons (pg_name (i := 6) scCounted.nd rfl (Or.inl rfl)) (pgs_cons (pg_name (i := 7) scCounted.nd rfl (Or.inl rfl)) pgs_nil)))
        (pss_cons (ps_set (i := 8) scCounted.nd rfl (Or.inl rfl) (pe_op op_mod (pv 2) (pv 3)))
        (pss_cons (ps_set (i := 2) scCounted.nd rfl (Or.inl rfl) (pe_op op_fdiv (pv 2) (pv 3)))
        (pss_cons (ps_expr (pe_bm PySem.F.plainAttrs_list PySem.F.slot_list_append PySem.F.type_list_append mt_append (pv 4) (pa_cons (pv 8) pa_nil)))
        (pss_mid (ps_if (PW.pt (pw_and (pt_cmpR op_notN (pe_ix ix_tup (pv 6) pe_int (fun _ _ => rfl)) pe_non (nomark _)) (pw_and1 (pt_cmpR op_ne (pe_ix ix_tup (pv 6) pe_int (fun _ _ => rfl)) (pe_ix ix_list (pe_ix ix_tup (pv 0) pe_int (fun _ _ => rfl)) (pv 8) (fun _ _ => rfl)) (nomark _))))) (pss_one (ps_ret pe_int)) pss_nil)
        (pss_one (ps_if (pt_cmpR op_ge (pv 7) pe_int (nomark _)) (pss_one (ps_set (i := 5) scCounted.nd rfl (Or.inl rfl) (pe_op op_mulN (pv 5) (pe_ix ix_list (pe_ix ix_list (pe_ix ix_tup (pv 0) pe_int (fun _ _ => rfl)) (pe_ix ix_list (pv 4) (pv 7) (fun _ _ => rfl)) (fun _ _ => rfl)) (pv 8) (fun _ _ => rfl))))) pss_nil)))))))
      (pss_one (ps_ret (pv 5)))))), ?_⟩
    refine ⟨_, rfl, wA, _, _, _, rfl, rfl, SqT.of w1, rfl, hA, _, rfl, .inl (SqL.of w2), ?_⟩
    rw [List.length_map, hM.hl]
    refine ⟨Nat.zero_le _, fun Pl hPl => ?_⟩
    refine ⟨_, rfl, kA, rfl, ⟨_, SqL.of (by rw [upd_ne (ne_of_none hk hPl)]; exact hk)⟩, for_list (xs := us) (fun i σ H' => ∃ (o6 o7 o8 : Option V), σ = [some (.ref wA), some (.ref kA), some (.int ((num / n ^ i : Nat) : Int)), some (.int (n : Int)), some (.ref Pl), some (.int (cnt n (fun i x => ind hs (trL L i).wish x) (ent M) (oL L) i num)), o6, o7, o8] ∧ Same H H' ∧ H' Pl = some (.lst ((List.range i).map fun j => V.int ((pl n j num : Nat) : Int))))
      ⟨none, none, none, by rw [Nat.pow_zero, Nat.div_one]; rfl, Same.upd hPl, upd_same⟩ (fun i σ H' _ ⟨_, _, _, _, s', _⟩ => SqL.of (s' _ _ hk)) ?_ ?_⟩
    · rintro i x σ H1 hx ⟨o6, o7, o8, rfl, s1, eP⟩
      have hi : i < L.length := by rw [← lus]; exact (List.getElem?_eq_some_iff.mp hx).1
      have eL : L[i]? = some L[i] := List.getElem?_eq_getElem hi
      rcases hp : L[i] with ⟨t, o⟩
      rw [hp] at eL
      obtain ⟨p, tv, rfl, ep, dt⟩ := kt.2 i x t o hx eL
      obtain ⟨tp, rfl⟩ := tree_ref dt
      have trl := trL_of eL
      have orl := oL_of eL
      cases t with
      | nd il wl bs =>
        obtain ⟨l, ys, hp', hl, hlen', hys⟩ := tree_at dt
        have hp1 := (s0.trans s1).seqT hp'
        have hn0 : (0 : Int) < (n : Int) := by omega
        refine ⟨p, _, rfl, SqT.of (s1 _ _ ep), rfl, _, _, rfl, _, _, rfl, rfl, ?_⟩
        refine ⟨_, rfl, _, rfl, _, _, rfl, rfl, hn0, ?_⟩
        refine ⟨_, rfl, _, rfl, _, _, rfl, rfl, ⟨hn0, by omega⟩, ?_⟩
        have ePl : ((num / n ^ i : Nat) : Int) % (n : Int) = ((pl n i num : Nat) : Int) := by unfold pl; exact (Int.natCast_emod _ _).symm
        have eNx : ((num / n ^ i : Nat) : Int) / (n : Int) = ((num / n ^ (i + 1) : Nat) : Int) := by rw [Nat.pow_succ, ← Nat.div_div_eq_div_mul]; exact (Int.natCast_ediv _ _).symm
        have plt : pl n i num < n := Nat.mod_lt _ (by omega)
        have s1' := s1
        refine ⟨_, rfl, .inl ⟨rfl, _, SqL.of eP⟩, _, rfl, Pl, _, _, rfl, rfl, eP, small1000 (by rw [List.length_map, List.length_range]; omega), ?_⟩
        show tMid _ _ _ [some (V.ref wA), some (V.ref kA), some (V.int (((num / n ^ i : Nat) : Int) / (n : Int))), some (V.int (n : Int)), some (V.ref Pl), some (V.int _), some (V.ref tp), some (V.int o), some (V.int (((num / n ^ i : Nat) : Int) % (n : Int)))] (L2.upd H1 Pl (.lst (_ ++ [V.int (((num / n ^ i : Nat) : Int) % (n : Int))])))
        rw [ePl, eNx]
        have eP2 : L2.upd H1 Pl (.lst (((List.range i).map fun j => V.int ((pl n j num : Nat) : Int)) ++ [V.int ((pl n i num : Nat) : Int)])) Pl = some (.lst ((List.range (i + 1)).map fun j => V.int ((pl n j num : Nat) : Int))) := by rw [upd_same, List.range_succ, List.map_append]; rfl
        have s2 : Same H (L2.upd H1 Pl (.lst (((List.range i).map fun j => V.int ((pl n j num : Nat) : Int)) ++ [V.int ((pl n i num : Nat) : Int)]))) := fun b o' e => by
          rw [upd_ne (ne_of_none e hPl)]
          exact s1 _ _ e
        generalize L2.upd H1 Pl (.lst (((List.range i).map fun j => V.int ((pl n j num : Nat) : Int)) ++ [V.int ((pl n i num : Nat) : Int)])) = H2 at eP2 s2 ⊢
        have hp2 := (s0.trans s2).seqT hp'
        have aH : atI (hs.map V.int) ((pl n i num : Nat) : Int) = some (.int (hs[pl n i num]?.getD 0)) := by
          refine atI_nat ?_
          rw [List.getElem?_map, List.getElem?_eq_getElem (by rw [hM.hl]; exact plt)]
          rfl
        have hind : ind hs (trL L i).wish (pl n i num) = ind hs wl (pl n i num) := by rw [trl]; rfl
        refine ⟨fun σ H3 => σ = [some (.ref wA), some (.ref kA), some (.int ((num / n ^ (i + 1) : Nat) : Int)), some (.int (n : Int)), some (.ref Pl), some (.int (cnt n (fun i x => ind hs (trL L i).wish x) (ent M) (oL L) i num)), some (.ref tp), some (.int o), some (.int ((pl n i num : Nat) : Int))] ∧ H3 = H2 ∧ ind hs wl (pl n i num) = 1, ?_, ?_⟩
        · refine ⟨_, rfl, tp, _, _, _, rfl, rfl, hp2, rfl, rfl, _, rfl, ?_⟩
          cases wl with
          | none =>
            refine iteF (iteF ?_)
            exact ⟨rfl, rfl, rfl⟩
          | some c =>
            refine iteT ?_
            refine ⟨_, rfl, tp, _, _, _, rfl, rfl, hp2, rfl, _, rfl, wA, _, _, _, rfl, rfl, SqT.of (s2 _ _ w1), rfl, _, rfl, hA, _, _, _, rfl, rfl, SqL.of (s2 _ _ w2), aH, rfl, _, rfl, ?_⟩
            by_cases hc : hs[pl n i num]?.getD 0 = c
            · refine iteNS (by show V.int c = V.int _; rw [hc]) ?_
              exact ⟨rfl, rfl, by show (if hs[pl n i num]?.getD 0 = c then (1 : Int) else 0) = 1; rw [if_pos hc]⟩
            · refine iteNP (fun z => hc (V.int.inj z).symm) ?_
              have hz : ind hs (trL L i).wish (pl n i num) = 0 := by rw [hind]; show (if hs[pl n i num]?.getD 0 = c then (1 : Int) else 0) = 0; rw [if_neg hc]
              have := k H2 s2
              rw [cnt_zero (g := fun i x => ind hs (trL L i).wish x) hz L.length hi] at this
              exact this
        · rintro σ3 H3 ⟨rfl, rfl, h1⟩
          refine ⟨_, rfl, _, _, rfl, rfl, _, rfl, ?_⟩
          have hstep : cnt n (fun i x => ind hs (trL L i).wish x) (ent M) (oL L) (i + 1) num = cnt n (fun i x => ind hs (trL L i).wish x) (ent M) (oL L) i num * (if i = 0 then 1 else ent M (pl n (oL L i) num) (pl n i num)) := by
            rw [cnt]
            show _ * (ind hs (trL L i).wish (pl n i num) * _) = _
            rw [hind, h1, Int.one_mul]
          rcases Bf.par i _ o eL with ⟨z1, z2⟩ | ⟨z1, j, z2, z3, _⟩
          · subst z2
            refine itDN (by decide) ?_
            refine ⟨some (.ref tp), some (.int (-1)), some (.int ((pl n i num : Nat) : Int)), ?_, s2, eP2⟩
            rw [hstep, if_pos z1, Int.mul_one]
          · subst z2
            refine itDP (by omega) ?_
            have oj : oL L i = j := by rw [orl]; exact Int.toNat_natCast j
            have pj : pl n j num < n := Nat.mod_lt _ (by omega)
            obtain ⟨ra, row, hra, hrow, er⟩ := R.get (i := pl n j num) (by rw [R.len, hM.ml]; exact pj)
            have lrow := (hM.row row (List.mem_of_getElem? hrow)).1
            have aJ : atI ((List.range (i + 1)).map fun j => V.int ((pl n j num : Nat) : Int)) (j : Int) = some (.int ((pl n j num : Nat) : Int)) := atI_nat (by rw [List.getElem?_map, List.getElem?_range (by omega)]; rfl)
            have aR : atI (row.map V.int) ((pl n i num : Nat) : Int) = some (.int (ent M (pl n j num) (pl n i num))) := by
              refine atI_nat ?_
              have hr' : row[pl n i num]? = some (row[pl n i num]'(by omega)) := List.getElem?_eq_getElem _
              rw [List.getElem?_map, hr']
              unfold ent
              rw [hrow]
              show _ = some (V.int ((row[pl n i num]?).getD 0))
              rw [hr']
              rfl
            refine ⟨_, rfl, _, rfl, wA, _, _, _, rfl, rfl, SqT.of (s2 _ _ w1), rfl, _, rfl, _, rfl, Pl, _, _, _, rfl, rfl, SqL.of eP2, aJ, rA, _, _, _, rfl, rfl, SqL.of (s2 _ _ w3), at_ref hra, _, rfl, ra, _, _, _, rfl, rfl, SqL.of (s2 _ _ er), aR, _, _, rfl, rfl, ⟨3000, by decide, (cnt_bn (ent_bn hM) i).mono (by omega), (ent_bn hM _ _).mono (by decide)⟩, ?_⟩
            refine ⟨some (.ref tp), some (.int (j : Int)), some (.int ((pl n i num : Nat) : Int)), ?_, s2, eP2⟩
            rw [hstep, if_neg (by omega), oj]
            rfl
    · rintro σ H1 ⟨o6, o7, o8, rfl, s1, eP⟩
      rw [lus]
      exact ⟨_, rfl, k H1 s1⟩
end

/-! law_k14: _law_maps, the law -/
section
variable {P : Program} {w : World} {K : PySem.W.Frag} {mg : Str → Option Value} {base : Heap}
open TM in
def spMaps (K : PySem.W.Frag) : Sp := fun vs H Q _ => ∃ (wA : Addr) (v : V) (t : Tr) (hs : List Int) (M : List (List Int)) (n : Nat), vs = [.ref wA, v] ∧ TrW K H wA v t hs M n ∧ n ≤ 4 ∧ ∀ H', Same H H' → Q (.int (sm n (t.val hs M n))) H'
abbrev nMaps : List Str := ["_law_web_here", "_law_tree_here", "_law_knots_here", "_law_maps_here", "_law_knot"]
theorem scMaps : FnScope nMaps ["_law_web_here", "_law_tree_here"] (defScope sMaps) := ⟨rfl, rfl, rfl, by decide +kernel, rfl, by decide +kernel, by decide +kernel⟩
def argM (e : Expr) : Expr := match e with
  | .Call _ (x :: _) _ _ => x
  | _ => .Constant .none 0 ⟨0, 0, 0, 0⟩
theorem lcMaps : LcScopes (defScope sMaps) nMaps (lcScope (argM (asgVal (bodyAt sMaps 3)))) ["_law_number"] := ⟨by decide +kernel, rfl, by decide +kernel, by decide +kernel, by decide +kernel, by decide +kernel, by decide +kernel, by decide +kernel, by decide +kernel, by decide +kernel⟩
theorem pow_le4 {n k : Nat} (hn : n ≤ 4) (hk : k ≤ 5) : n ^ k ≤ 1024 := by
  have h1 : n ^ k ≤ 4 ^ k := Nat.pow_le_pow_left hn k
  have h2 : 4 ^ k ≤ 4 ^ 5 := Nat.pow_le_pow_right (by decide) hk
  have h3 : (4 : Nat) ^ 5 = 1024 := by decide
  omega
theorem line1024 {m : Nat} (h : m ≤ 1024) : m < sizeLine := Nat.lt_of_le_of_lt h (by decide)
open TM in
theorem ok_maps {f fK fC : Addr} {fd fdK fdC : FuncData} (B : BltM mg) (F : Fun K "_law_maps" "_law_maps" sMaps f fd) (DK : Dn K mg "_law_knots" sKnotsL ["_law_tree_here"] fK fdK) (GK : FnOk P w K mg base CX0 1 fK fdK ["_law_tree_here"] (spKnotsL K))
    (DC : Dn K mg "_law_counted" sCounted ["_law_web_here", "_law_knots_here", "_law_number"] fC fdC) (GC : FnOk P w K mg base CX0 1 fC fdC ["_law_web_here", "_law_knots_here", "_law_number"] (spCounted K)) : FnOk P w K mg base CX0 2 f fd ["_law_web_here", "_law_tree_here"] (spMaps K) := by
  refine F.ok scMaps (fun vs H Q E h => ?_) (fun cdv A outer s H vs Q E hr h => ?_)
  · obtain ⟨wA, v, t, hs, M, n, rfl, _⟩ := h
    rfl
  · obtain ⟨wA, v, t, hs, M, n, rfl, hT, hn4, k⟩ := h
    obtain ⟨hA, rA, rs, w1, w2, w3, R⟩ := hT.wr.ex
    have few := hT.few
    have mo := hT.mo
    refine ⟨_, pss_cons (ps_set (i := 2) scMaps.nd rfl (Or.inr rfl) (pe_fn DK GK hr rfl (pa_cons (pv 1) pa_nil)))
      (pss_cons (ps_set (i := 3) scMaps.nd rfl (Or.inl rfl) pe_int)
      (pss_cons (ps_for PassesOwn.never rfl (pi_list (pv 2)) (pg_name (i := 4) scMaps.nd rfl (Or.inl rfl)) (pss_one (ps_set (i := 3) scMaps.nd rfl (Or.inl rfl) (pe_op op_mulN (pv 3) (pe_callB call_len_seq (by rfl) B.len PySem.boot_len (pa_cons (pe_ix ix_tup (pv 0) pe_int (fun _ _ => rfl)) pa_nil))))))
      (pss_one (ps_ret (pe_callB (call_sum rfl) (by rfl) B.sum boot_sum (pa_cons (pe_lc1 rfl lcMaps rfl (pi_range1 rfl B.range (pa_cons (pv 3) pa_nil)) (fun _ _ _ => pe_fn DC GC hr rfl (pa_cons (pv 0) (pa_cons (pv 2) (pa_cons (pv 5) pa_nil))))) pa_nil)))))), ?_⟩
    refine ⟨_, rfl, v, t, rfl, hT.da, by omega, fun a us L H1 s1 ea kt Bf h0 => ?_⟩
    have llen := Bf.len
    have lus := kt.1
    refine ⟨_, rfl, a, rfl, ⟨_, SqL.of ea⟩, for_list (xs := us) (fun i σ H' => ∃ (o4 : Option V), σ = [some (.ref wA), some v, some (.ref a), some (.int ((n ^ i : Nat) : Int)), o4] ∧ H' = H1) ⟨none, rfl, rfl⟩ (fun i σ H' _ ⟨_, _, e⟩ => by subst e; exact SqL.of ea) ?_ ?_⟩
    · rintro i x σ H2 hx ⟨o4, rfl, rfl⟩
      have hi : i < L.length := by rw [← lus]; exact (List.getElem?_eq_some_iff.mp hx).1
      have hp := pow_le4 (k := i) hn4 (by omega)
      refine ⟨_, rfl, _, rfl, wA, _, _, _, rfl, rfl, SqT.of (s1 _ _ w1), rfl, hA, _, rfl, .inl (SqL.of (s1 _ _ w2)), _, _, rfl, rfl, ⟨20, by decide, ?_, ?_⟩, ?_⟩
      · unfold M11.Bn
        have e : (2 : Nat) ^ 20 = 1048576 := by decide
        omega
      · unfold M11.Bn
        have e : (2 : Nat) ^ 20 = 1048576 := by decide
        rw [List.length_map, mo.hl]
        omega
      · refine ⟨some x, ?_, rfl⟩
        have e : ((n ^ i : Nat) : Int) * (((hs.map V.int).length : Nat) : Int) = ((n ^ (i + 1) : Nat) : Int) := by
          rw [List.length_map, mo.hl, Nat.pow_succ, Int.natCast_mul]
        rw [← e]
        rfl
    · rintro σ Hx ⟨o4, rfl, eH⟩
      have eH' := eH.symm
      subst eH'
      rw [lus]
      have hp := pow_le4 (k := L.length) hn4 (by omega)
      refine ⟨_, rfl, ((n ^ L.length : Nat) : Int), rfl, by omega, by omega, fun D hD => ?_⟩
      rw [Int.toNat_natCast]
      refine lc_range (n := n ^ L.length) (fun i ys H' => Same H1 H' ∧ ys = (List.range i).map (fun j => V.int (cnt n (fun i x => ind hs (trL L i).wish x) (ent M) (oL L) L.length j)) ∧ H' D = some (.lst ys)) ⟨Same.upd hD, rfl, upd_same⟩ (fun i ys H' _ ⟨_, _, e⟩ => e) ?_ ?_ ?_
      · rintro i ys H2 hi ⟨s2, rfl, e2⟩
        have hn1 : 1 ≤ n := by
          by_cases z : n = 0
          · subst z
            rw [Nat.zero_pow (by rw [llen]; exact t.knots_pos)] at hi
            omega
          · omega
        have e0 : ((0 : Int) + ((i : Nat) : Int)) = ((i : Nat) : Int) := Int.zero_add _
        refine ⟨_, rfl, _, rfl, _, rfl, wA, a, i, hs, M, n, us, L, H, t.knots, ?_, hT.wr.mono (s1.trans s2), mo, hn1, s2 _ _ ea, s1.trans s2, kt.mono (fun b o e => s2 _ _ e), Bf, by omega, fun H3 s3 => ?_⟩
        · show [V.ref wA, V.ref a, V.int (0 + ((i : Nat) : Int))] = _
          rw [e0]
        · refine ⟨s3 _ _ e2, line1024 (by rw [List.length_map, List.length_range]; omega), fun b o e => ?_, by rw [List.range_succ, List.map_append]; rfl, upd_same⟩
          rw [upd_ne (ne_of_none e hD)]
          exact s3 _ _ (s2 _ _ e)
      · rintro ys H2 ⟨s2, rfl, e2⟩
        refine ⟨D, (List.range (n ^ L.length)).map (fun j => cnt n (fun i x => ind hs (trL L i).wish x) (ent M) (oL L) L.length j), rfl, SqL.of (by rw [e2, List.map_map]; rfl), ?_⟩
        rw [sm_list, maps_sum Bf h0]
        exact k H2 (s1.trans s2)
      · rintro σ H' Q1 Q2 hq ⟨v1, e1, v2, e2, v3, e3, a1, a2, a3, a4, a5, a6, a7, a8, a9, a10, b1, b2, b3, b4, b5, b6, b7, b8, b9, g⟩
        exact ⟨v1, e1, v2, e2, v3, e3, a1, a2, a3, a4, a5, a6, a7, a8, a9, a10, b1, b2, b3, b4, b5, b6, b7, b8, b9, fun H3 s3 => hq _ _ (g H3 s3)⟩
def spLaw (K : PySem.W.Frag) : Sp := fun vs H Q _ => ∃ (a : Addr) (ns : List Int), vs = [.ref a] ∧ SqL K H a (ns.map V.int) ∧ ns.length ≤ 63 ∧ ∀ H', Q (.bl true) H'
theorem cut_ints (ns : List Int) (lo hi : Option Int) : ∃ ms : List Int, cutV (ns.map V.int) lo hi = ms.map V.int ∧ ms.length ≤ ns.length := by
  unfold cutV
  rw [← List.map_drop, ← List.map_take]
  exact ⟨_, rfl, by rw [List.length_take, List.length_drop]; omega⟩
theorem But.same {d : Addr} {H0 H H' : Hp} (s : Same H0 H) (hd : H0 d = none) (b : But d H H') : Same H0 H' := fun c o e => b c o (ne_of_none e (by exact hd)) (s c o e)
theorem sq_mok {n : Nat} {hs : List Int} {M : List (List Int)} (hl : hs.length = n) (sq : Sq n M) (hn : n ≤ 16) : TM.MOk n hs M := by
  refine ⟨hl, sq.len, fun x hx => ?_, hn⟩
  obtain ⟨i, hi, e⟩ := List.getElem_of_mem hx
  obtain ⟨a, b⟩ := sq.row i x (by rw [List.getElem?_eq_getElem hi, e])
  exact ⟨a, b⟩
def datF (l : Int × Int) : PyData := .tuple [.int l.1, .int l.2]
theorem daF {H : Hp} {v : V} {l : Int × Int} (h : frV H v l) : DA K any H v (datF l) := by
  obtain ⟨p, rfl, hp⟩ := h
  exact .tup trivial (SqT.of hp) (.cons (.int _) (.cons (.int _) .nil))
theorem lay_fr (l : Int × Int) : (datF l).canLay0 = true ∧ (datF l).depth ≤ 2 := by
  simp [datF, PyData.canLay0, PyData.canLayAll0, PyData.depth, PyData.depthAll]
abbrev nLaw : List Str := ["_law_script", "_law_cell", "_law_draw", "_law_web_here", "_law_tree_here", "_law_due", "_law_found"]
theorem scLaw : FnScope nLaw ["_law_script"] (defScope sLaw) := ⟨rfl, rfl, rfl, by decide +kernel, rfl, by decide +kernel, by decide +kernel⟩
open TM in
theorem ok_law {f fB fW fT fTr fM fMt fWh fTo fTm : Addr} {fd fdB fdW fdT fdTr fdM fdMt fdWh fdTo fdTm : FuncData} (F : Fun K "law" "law" sLaw f fd)
    (DB : Dn K mg "_law_begun" sBegun ["_law_cell"] fB fdB) (GB : FnOk P w K mg base CX0 1 fB fdB ["_law_cell"] spBegun)
    (DW : Dn K mg "_law_web" sWeb ["_law_draw", "_law_most"] fW fdW) (GW : FnOk P w K mg base CX0 4 fW fdW ["_law_draw", "_law_most"] spWeb)
    (DT : Dn K mg "_law_take" sTake ["_law_draw", "_law_most"] fT fdT) (GT : FnOk P w K mg base CX0 2 fT fdT ["_law_draw", "_law_most"] spTake)
    (DTr : Dn K mg "_law_tree" sTree ["_law_draw", "_law_many"] fTr fdTr) (GTr : FnOk P w K mg base CX0 3 fTr fdTr ["_law_draw", "_law_many"] (spTree K))
    (DM : Dn K mg "_law_maps" sMaps ["_law_web_here", "_law_tree_here"] fM fdM) (GM : FnOk P w K mg base CX0 2 fM fdM ["_law_web_here", "_law_tree_here"] (spMaps K))
    (DMt : Dn K mg "maps_total" sMapsTotal ["web", "tree"] fMt fdMt) (GMt : FnOk P w K mg base CX0 10 fMt fdMt ["web", "tree"] (spMapsTotal K))
    (DWh : Dn K mg "_law_whole" sWhole ["_law_found"] fWh fdWh) (GWh : FnOk P w K mg base CX0 1 fWh fdWh ["_law_found"] spWhole)
    (DTo : Dn K mg "total_of" sTotalOf ["web", "term"] fTo fdTo) (GTo : FnOk P w K mg base CX0 9 fTo fdTo ["web", "term"] (spTotalOf K))
    (DTm : Dn K mg "term_of" sTermOf ["tree"] fTm fdTm) (GTm : FnOk P w K mg base CX0 6 fTm fdTm ["tree"] (spTermOf K 5)) :
    FnOk P w K mg base CX0 11 f fd ["_law_script"] (spLaw K) := by
  refine F.ok scLaw (fun vs H Q E h => ?_) (fun cdv A outer s H vs Q E hr h => ?_)
  · obtain ⟨a, ns, rfl, _⟩ := h
    rfl
  · obtain ⟨a, ns, rfl, hS, hlen, k⟩ := h
    have r1 := hr.mono (j := 1) (by decide)
    have r2 := hr.mono (j := 2) (by decide)
    have r3 := hr.mono (j := 3) (by decide)
    have r4 := hr.mono (j := 4) (by decide)
    have r6 := hr.mono (j := 6) (by decide)
    have r8 := hr.mono (j := 9) (by decide)
    refine ⟨_, pss_cons (ps_for PassesOwn.never rfl (pi_list (pe_op op_cat (pe_slice sl_list (pv 0) po_none (po_some pe_int)) (pe_lst (pa_cons pe_int pa_nil)))) (pg_name (i := 1) scLaw.nd rfl (Or.inl rfl))
        (pss_cons (ps_set (i := 2) scLaw.nd rfl (Or.inl rfl) (pe_fn DB GB r1 rfl (pa_cons (pv 1) pa_nil)))
        (pss_cons (ps_set (i := 3) scLaw.nd rfl (Or.inl rfl) (pe_fn DW GW r4 rfl (pa_cons (pv 2) (pa_cons pe_int pa_nil))))
        (pss_cons (ps_set (i := 4) scLaw.nd rfl (Or.inl rfl) (pe_fn DTr GTr r3 rfl (pa_cons (pv 2) (pa_cons (pe_op op_add pe_int (pe_fn DT GT r2 rfl (pa_cons (pv 2) (pa_cons pe_int pa_nil)))) pa_nil))))
        (pss_cons (ps_set (i := 5) scLaw.nd rfl (Or.inl rfl) (pe_fn DM GM r2 rfl (pa_cons (pv 3) (pa_cons (pv 4) pa_nil))))
        (pss_cons (ps_set (i := 6) scLaw.nd rfl (Or.inl rfl) (pe_fn DMt GMt hr rfl (pa_cons (pv 3) (pa_cons (pv 4) pa_nil))))
        (pss_one (ps_if (PW.pt (pw_or (pt_not (pt_val (pe_fn DWh GWh r1 rfl (pa_cons (pv 6) pa_nil)))) (pw_or (pt_cmpR op_ne (pv 6) (pv 5) (nomark _)) (pw_or1 (pt_cmpR (op_neD hr.units) (pe_fn DTo GTo r8 rfl (pa_cons (pv 3) (pa_cons (pe_fn DTm GTm r6 rfl (pa_cons (pv 4) pa_nil)) pa_nil))) (pe_tup (pa_cons (pv 5) (pa_cons pe_int pa_nil))) (nomark _)))))) (pss_one (ps_ret pe_bl)) pss_nil))))))))
      (pss_one (ps_ret pe_bl)), ?_⟩
    obtain ⟨ms, em, lm⟩ := cut_ints ns none (some 6)
    refine ⟨_, rfl, 6, rfl, a, _, rfl, hS, fun p0 hp0 => ?_⟩
    rw [em]
    have s0 : Same H (L2.upd H p0 (.lst (ms.map V.int))) := Same.upd hp0
    have e0 : L2.upd H p0 (.lst (ms.map V.int)) p0 = some (.lst (ms.map V.int)) := upd_same
    generalize L2.upd H p0 (.lst (ms.map V.int)) = Ha at s0 e0 ⊢
    refine ⟨(by show 1 ≤ sizeLine; decide), fun p1 hp1 => ?_⟩
    have s1 : Same Ha (L2.upd Ha p1 (.lst [.int 0])) := Same.upd hp1
    have e1 : L2.upd Ha p1 (.lst [.int 0]) p1 = some (.lst [.int 0]) := upd_same
    generalize L2.upd Ha p1 (.lst [.int 0]) = Hb at s1 e1 ⊢
    refine ⟨p0, p1, _, _, rfl, rfl, s1 _ _ e0, e1, Nat.le_of_lt (small1000 (by rw [List.length_map]; show ms.length + 1 ≤ 1000; omega)), fun L hL => ?_⟩
    have ec : ms.map V.int ++ [V.int 0] = (ms ++ [0]).map V.int := by rw [List.map_append]; rfl
    rw [ec]
    have e2 : L2.upd Hb L (.lst ((ms ++ [0]).map V.int)) L = some (.lst ((ms ++ [0]).map V.int)) := upd_same
    generalize L2.upd Hb L (.lst ((ms ++ [0]).map V.int)) = Hc at e2 ⊢
    refine ⟨L, rfl, ⟨_, SqL.of e2⟩, for_list (xs := (ms ++ [0]).map V.int) (fun i σ H' => ∃ (o1 o2 o3 o4 o5 o6 : Option V), σ = [some (.ref a), o1, o2, o3, o4, o5, o6] ∧ Same Hc H') ⟨none, none, none, none, none, none, rfl, Same.refl _⟩ (fun i σ H' _ ⟨_, _, _, _, _, _, _, sH⟩ => SqL.of (sH _ _ e2)) ?_ ?_⟩
    · rintro i x σ H1 hx ⟨o1, o2, o3, o4, o5, o6, rfl, sH⟩
      obtain ⟨c, hc, rfl⟩ := map_get hx
      refine ⟨_, rfl, c, rfl, fun d H2 hd s2 dd => ?_⟩
      refine ⟨_, rfl, d, 4, 1, rfl, by decide, by decide, dd, by decide, fun H3 p hA rA rs m hs M hm hB3 hD3 hW hfr n1 n2 n3 => ?_⟩
      have t3 : Same H1 H3 := But.same s2 hd hB3
      have mo : MOk m hs M := sq_mok hW.len hW.sq (by omega)
      refine ⟨_, rfl, _, rfl, d, 5, 201, rfl, by decide, by decide, hD3, by decide, fun r H4 r0 r1' hB4 D4 => ?_⟩
      obtain ⟨r, rfl⟩ := Int.eq_ofNat_of_zero_le r0
      have er : (1 : Int) + (r : Int) = ((r + 1 : Nat) : Int) := by omega
      refine ⟨_, _, rfl, rfl, d, r + 1, 203, (by show [V.ref d, V.int (1 + (r : Int))] = _; rw [er]), by omega, by omega, D4, by decide, fun H5 v t hB5 D5 tk da => ?_⟩
      have b35 := hB4.trans hB5
      have t5 : Same H1 H5 := But.same t3 hd b35
      have wr5 : WR H5 p hs M := ⟨hA, rA, rs, b35 _ _ (hfr p (by simp)).2 hW.tup, b35 _ _ (hfr hA (by simp)).2 hW.hue, b35 _ _ (hfr rA (by simp)).2 hW.rws, hW.row.keep fun r' hr' o' e' => b35 r' o' (hfr r' (by simp [hr'])).2 e'⟩
      have tw : TrW K H5 p v t hs M m := ⟨wr5, mo, by omega, DA.any da⟩
      refine ⟨_, rfl, _, rfl, p, v, t, hs, M, m, rfl, tw, by omega, fun H6 s6 => ?_⟩
      refine ⟨_, rfl, _, rfl, p, v, t, hs, M, m, rfl, tw.mono s6, fun H7 s7 => ?_⟩
      have s57 := s6.trans s7
      refine ⟨_, rfl, _, rfl, _, rfl, iteF ?_⟩
      refine ⟨_, rfl, _, rfl, rfl, _, rfl, iteNS rfl ?_⟩
      refine ⟨_, rfl, _, rfl, v, t, rfl, DA.same (DA.any da) s57, (tw.mono s57).deep, fun u H8 s8 d8 => ?_⟩
      refine ⟨p, u, t.tm, hs, M, m, rfl, (tw.mono s57).tm s8 d8, ?_⟩
      rintro z H9 s9 ⟨tp, rfl, htp⟩
      rw [tot_val mo] at htp
      refine ⟨_, rfl, (by show 2 ≤ sizeLine; decide), fun q hq => ?_⟩
      have s10 : Same H9 (L2.upd H9 q (.tup [.int (sm m (t.val hs M m)), .int 1])) := Same.upd hq
      obtain ⟨z1, z2⟩ := lay_fr (sm m (t.val hs M m), 1)
      refine ⟨_, _, daF (l := (sm m (t.val hs M m), 1)) ⟨tp, rfl, s10 _ _ htp⟩, daF (l := (sm m (t.val hs M m), 1)) ⟨q, rfl, upd_same⟩, ⟨z1, z1, by omega⟩, _, rfl, ?_⟩
      rw [PySem.SeqAt.eqv_refl _ z1]
      exact iteF ⟨_, _, _, _, _, _, rfl, sH.trans (t5.trans (s57.trans ((s8.trans s9).trans s10)))⟩
    · rintro σ H1 ⟨o1, o2, o3, o4, o5, o6, rfl, sH⟩
      exact k H1
end

/-- what the top has written of one def -/
structure At (K : PySem.W.Frag) (x : Str) (st : Stmt) (f : Addr) (fd : FuncData) : Prop where
  fn : Fun K x x st f fd
  ns : PySem.W.nsIn K mainGlobals x = some (some (.ref f))
theorem at_mk {K : PySem.W.Frag} {x : Str} {st : Stmt} {f : Addr} {oc : Value} {od an : Option Addr} {osl : Array (Option Value)} {kV doc pm cdv ct : Value} (a : PySem.W.nsIn K mainGlobals x = some (some (.ref f))) (l : K.lookup f = some ⟨oc, od, .func (PySem.W.fnOf x x (defArgs st) (defBody st) (defScope st) .none kV doc pm an cdv ct), osl⟩)
    (c : PySem.W.codeIn K cdv x = true) (k : PySem.W.keepIn K (.ref f) = true) : ∃ f fd, At K x st f fd := ⟨f, _, fun_mk l c k, a⟩
theorem kit_ref {K : PySem.W.Frag} {CN C : Addr} {cd : ClassData} {b : Bool} (h0 : (Value.ref CN == Value.ref C) = false) (h1 : PySem.W.clsIn K C = some cd) (h2 : PySem.W.typeIn K (.ref C) = some (.type "type")) (h3 : PySem.W.subIn K (.ref CN) (.ref C) = some b) : PySem.W.kitOne K (.ref CN) (.ref C) = some b := by
  unfold PySem.W.kitOne PySem.W.kitCls
  rw [if_neg (by rw [h0]; decide)]
  show (if ((PySem.W.clsIn K C).isSome && PySem.W.typeIn K (.ref C) == some (.type "type")) = true then PySem.W.subIn K (.ref CN) (.ref C) else none) = some b
  rw [h1, h2, h3]
  rfl
theorem kit_ty {K : PySem.W.Frag} {CN : Addr} {T : String} {b : Bool} (h0 : (Value.ref CN == Value.type T) = false) (h1 : PySem.W.kitMeta T = true) (h3 : PySem.W.subIn K (.ref CN) (.type T) = some b) : PySem.W.kitOne K (.ref CN) (.type T) = some b := by
  unfold PySem.W.kitOne PySem.W.kitCls
  rw [if_neg (by rw [h0]; decide)]
  show (if PySem.W.kitMeta T = true then PySem.W.subIn K (.ref CN) (.type T) else none) = some b
  rw [if_pos h1, h3]
theorem all_mk {l : PySem.W.OpenLaw} {w : World} {K : PySem.W.Frag} {h : Heap} {mg : Str → Option Value} {fa fL : Addr} (X : K.In h) (G : h.Ns mainGlobals mg) (hfa : mg "law" = some (.ref fa)) (A0 : ∃ f fd, At K "greatest_divisor" sGd f fd) (A1 : ∃ f fd, At K "fraction_of" sFr f fd) (A2 : ∃ f fd, At K "sum_of_products" sDot f fd) (A3 : ∃ f fd, At K "sums_with_each" sSums f fd) (A4 : ∃ f fd, At K "inner_terms" sInner f fd) (A5 : ∃ f fd, At K "terms_innermost_first" sFirst f fd) (A6 : ∃ f fd, At K "shared_by_all" sAll f fd) (A7 : ∃ f fd, At K "lowered" sLowered f fd) (A8 : ∃ f fd, At K "one_by_one_product" sBothRow f fd) (A9 : ∃ f fd, At K "one_by_one_sum" sPlusRow f fd) (A10 : ∃ f fd, At K "many_times" sManyRow f fd) (A11 : ∃ f fd, At K "tops_of_leaf" sLeaf f fd) (A12 : ∃ f fd, At K "tops_from_one" sFromOne f fd) (A13 : ∃ f fd, At K "value_from_two" sTwo f fd) (A14 : ∃ f fd, At K "value_by_kind" sByKind f fd) (A15 : ∃ f fd, At K "value_of" sOver f fd) (A16 : ∃ f fd, At K "total_of_value" sTov f fd) (A17 : ∃ f fd, At K "total_of_term" sTot f fd) (A18 : ∃ f fd, At K "total_of" sTotalOf f fd) (A19 : ∃ f fd, At K "term_of" sTermOf f fd) (A20 : ∃ f fd, At K "maps_total" sMapsTotal f fd) (A21 : ∃ f fd, At K "_law_whole" sWhole f fd) (A22 : ∃ f fd, At K "_law_mix" sMix f fd) (A23 : ∃ f fd, At K "_law_begun" sBegun f fd) (A24 : ∃ f fd, At K "_law_take" sTake f fd) (A25 : ∃ f fd, At K "_law_weight" sWeight f fd) (A26 : ∃ f fd, At K "_law_web" sWeb f fd) (A27 : ∃ f fd, At K "_law_tree" sTree f fd) (A28 : ∃ f fd, At K "_law_knots" sKnotsL f fd) (A29 : ∃ f fd, At K "_law_counted" sCounted f fd) (A30 : ∃ f fd, At K "_law_maps" sMaps f fd)
    {aT : Addr} (aTn : PySem.W.nsIn K mainGlobals "INNER_TERMS" = some (some (.ref aT))) (tbl : PyProof.Rows.KTD.tabLook (PyProof.Rows.KTD.datLooks fun b => K.lookup b) (fun b => K.lookup b) aT (tabD inTab) = true)
    {oc kV doc pm cdv ct : Value} {od an : Option Addr} {osl : Array (Option Value)} (aL : PySem.W.nsIn K mainGlobals "law" = some (some (.ref fL))) (lL : K.lookup fL = some ⟨oc, od, .func (PySem.W.fnOf "law" "law" (defArgs sLaw) (defBody sLaw) (defScope sLaw) .none kV doc pm an cdv ct), osl⟩) (cL : PySem.W.codeIn K cdv "law" = true) (kL : PySem.W.keepIn K (.ref fL) = true)
    (z_range : PySem.W.nsIn K mainGlobals "range" = some none) (z_int : PySem.W.nsIn K mainGlobals "int" = some none) (z_abs : PySem.W.nsIn K mainGlobals "abs" = some none) (z_len : PySem.W.nsIn K mainGlobals "len" = some none) (z_sum : PySem.W.nsIn K mainGlobals "sum" = some none) (z_zip : PySem.W.nsIn K mainGlobals "zip" = some none) (z_isinstance : PySem.W.nsIn K mainGlobals "isinstance" = some none) (z_bool : PySem.W.nsIn K mainGlobals "bool" = some none) :
    ∃ fd : FuncData, (∀ (s : Shared) (v : Value), BindsTo s fd ⟨[v], []⟩ [("_law_script", v)]) ∧ ∀ base : Heap, K.In base → base.Ns mainGlobals mg → FnOk l.prog w K mg base CX0 11 fa fd ["_law_script"] (spLaw K) := by
  have e := hfa.symm.trans (PySem.W.mg_of X G aL)
  cases e
  obtain ⟨f0, fd0, T0⟩ := A0
  have D0 : Dn K mg "greatest_divisor" sGd ["number", "other"] f0 fd0 := ⟨T0.fn, PySem.W.mg_of X G T0.ns, T0.fn.binds fun _ _ _ _ _ _ us hl => match us, hl with | [_, _], _ => rfl⟩
  obtain ⟨f1, fd1, T1⟩ := A1
  have D1 : Dn K mg "fraction_of" sFr ["top", "bottom"] f1 fd1 := ⟨T1.fn, PySem.W.mg_of X G T1.ns, T1.fn.binds fun _ _ _ _ _ _ us hl => match us, hl with | [_, _], _ => rfl⟩
  obtain ⟨f2, fd2, T2⟩ := A2
  have D2 : Dn K mg "sum_of_products" sDot ["numbers", "others"] f2 fd2 := ⟨T2.fn, PySem.W.mg_of X G T2.ns, T2.fn.binds fun _ _ _ _ _ _ us hl => match us, hl with | [_, _], _ => rfl⟩
  obtain ⟨f3, fd3, T3⟩ := A3
  have D3 : Dn K mg "sums_with_each" sSums ["numbers", "rows"] f3 fd3 := ⟨T3.fn, PySem.W.mg_of X G T3.ns, T3.fn.binds fun _ _ _ _ _ _ us hl => match us, hl with | [_, _], _ => rfl⟩
  obtain ⟨f4, fd4, T4⟩ := A4
  have D4 : Dn K mg "inner_terms" sInner ["term"] f4 fd4 := ⟨T4.fn, PySem.W.mg_of X G T4.ns, T4.fn.binds fun _ _ _ _ _ _ us hl => match us, hl with | [_], _ => rfl⟩
  obtain ⟨f5, fd5, T5⟩ := A5
  have D5 : Dn K mg "terms_innermost_first" sFirst ["term"] f5 fd5 := ⟨T5.fn, PySem.W.mg_of X G T5.ns, T5.fn.binds fun _ _ _ _ _ _ us hl => match us, hl with | [_], _ => rfl⟩
  obtain ⟨f6, fd6, T6⟩ := A6
  have D6 : Dn K mg "shared_by_all" sAll ["divisor", "tops"] f6 fd6 := ⟨T6.fn, PySem.W.mg_of X G T6.ns, T6.fn.binds fun _ _ _ _ _ _ us hl => match us, hl with | [_, _], _ => rfl⟩
  obtain ⟨f7, fd7, T7⟩ := A7
  have D7 : Dn K mg "lowered" sLowered ["tops", "bottom"] f7 fd7 := ⟨T7.fn, PySem.W.mg_of X G T7.ns, T7.fn.binds fun _ _ _ _ _ _ us hl => match us, hl with | [_, _], _ => rfl⟩
  obtain ⟨f8, fd8, T8⟩ := A8
  have D8 : Dn K mg "one_by_one_product" sBothRow ["value", "other"] f8 fd8 := ⟨T8.fn, PySem.W.mg_of X G T8.ns, T8.fn.binds fun _ _ _ _ _ _ us hl => match us, hl with | [_, _], _ => rfl⟩
  obtain ⟨f9, fd9, T9⟩ := A9
  have D9 : Dn K mg "one_by_one_sum" sPlusRow ["value", "other"] f9 fd9 := ⟨T9.fn, PySem.W.mg_of X G T9.ns, T9.fn.binds fun _ _ _ _ _ _ us hl => match us, hl with | [_, _], _ => rfl⟩
  obtain ⟨f10, fd10, T10⟩ := A10
  have D10 : Dn K mg "many_times" sManyRow ["f", "value"] f10 fd10 := ⟨T10.fn, PySem.W.mg_of X G T10.ns, T10.fn.binds fun _ _ _ _ _ _ us hl => match us, hl with | [_, _], _ => rfl⟩
  obtain ⟨f11, fd11, T11⟩ := A11
  have D11 : Dn K mg "tops_of_leaf" sLeaf ["web", "term"] f11 fd11 := ⟨T11.fn, PySem.W.mg_of X G T11.ns, T11.fn.binds fun _ _ _ _ _ _ us hl => match us, hl with | [_, _], _ => rfl⟩
  obtain ⟨f12, fd12, T12⟩ := A12
  have D12 : Dn K mg "tops_from_one" sFromOne ["web", "kind", "tops"] f12 fd12 := ⟨T12.fn, PySem.W.mg_of X G T12.ns, T12.fn.binds fun _ _ _ _ _ _ us hl => match us, hl with | [_, _, _], _ => rfl⟩
  obtain ⟨f13, fd13, T13⟩ := A13
  have D13 : Dn K mg "value_from_two" sTwo ["web", "kind", "value", "other"] f13 fd13 := ⟨T13.fn, PySem.W.mg_of X G T13.ns, T13.fn.binds fun _ _ _ _ _ _ us hl => match us, hl with | [_, _, _, _], _ => rfl⟩
  obtain ⟨f14, fd14, T14⟩ := A14
  have D14 : Dn K mg "value_by_kind" sByKind ["web", "term", "inner_values"] f14 fd14 := ⟨T14.fn, PySem.W.mg_of X G T14.ns, T14.fn.binds fun _ _ _ _ _ _ us hl => match us, hl with | [_, _, _], _ => rfl⟩
  obtain ⟨f15, fd15, T15⟩ := A15
  have D15 : Dn K mg "value_of" sOver ["web", "term"] f15 fd15 := ⟨T15.fn, PySem.W.mg_of X G T15.ns, T15.fn.binds fun _ _ _ _ _ _ us hl => match us, hl with | [_, _], _ => rfl⟩
  obtain ⟨f16, fd16, T16⟩ := A16
  have D16 : Dn K mg "total_of_value" sTov ["value"] f16 fd16 := ⟨T16.fn, PySem.W.mg_of X G T16.ns, T16.fn.binds fun _ _ _ _ _ _ us hl => match us, hl with | [_], _ => rfl⟩
  obtain ⟨f17, fd17, T17⟩ := A17
  have D17 : Dn K mg "total_of_term" sTot ["web", "term"] f17 fd17 := ⟨T17.fn, PySem.W.mg_of X G T17.ns, T17.fn.binds fun _ _ _ _ _ _ us hl => match us, hl with | [_, _], _ => rfl⟩
  obtain ⟨f18, fd18, T18⟩ := A18
  have D18 : Dn K mg "total_of" sTotalOf ["web", "term"] f18 fd18 := ⟨T18.fn, PySem.W.mg_of X G T18.ns, T18.fn.binds fun _ _ _ _ _ _ us hl => match us, hl with | [_, _], _ => rfl⟩
  obtain ⟨f19, fd19, T19⟩ := A19
  have D19 : Dn K mg "term_of" sTermOf ["tree"] f19 fd19 := ⟨T19.fn, PySem.W.mg_of X G T19.ns, T19.fn.binds fun _ _ _ _ _ _ us hl => match us, hl with | [_], _ => rfl⟩
  obtain ⟨f20, fd20, T20⟩ := A20
  have D20 : Dn K mg "maps_total" sMapsTotal ["web", "tree"] f20 fd20 := ⟨T20.fn, PySem.W.mg_of X G T20.ns, T20.fn.binds fun _ _ _ _ _ _ us hl => match us, hl with | [_, _], _ => rfl⟩
  obtain ⟨f21, fd21, T21⟩ := A21
  have D21 : Dn K mg "_law_whole" sWhole ["_law_found"] f21 fd21 := ⟨T21.fn, PySem.W.mg_of X G T21.ns, T21.fn.binds fun _ _ _ _ _ _ us hl => match us, hl with | [_], _ => rfl⟩
  obtain ⟨f22, fd22, T22⟩ := A22
  have D22 : Dn K mg "_law_mix" sMix ["_law_cell", "_law_k"] f22 fd22 := ⟨T22.fn, PySem.W.mg_of X G T22.ns, T22.fn.binds fun _ _ _ _ _ _ us hl => match us, hl with | [_, _], _ => rfl⟩
  obtain ⟨f23, fd23, T23⟩ := A23
  have D23 : Dn K mg "_law_begun" sBegun ["_law_cell"] f23 fd23 := ⟨T23.fn, PySem.W.mg_of X G T23.ns, T23.fn.binds fun _ _ _ _ _ _ us hl => match us, hl with | [_], _ => rfl⟩
  obtain ⟨f24, fd24, T24⟩ := A24
  have D24 : Dn K mg "_law_take" sTake ["_law_draw", "_law_most"] f24 fd24 := ⟨T24.fn, PySem.W.mg_of X G T24.ns, T24.fn.binds fun _ _ _ _ _ _ us hl => match us, hl with | [_, _], _ => rfl⟩
  obtain ⟨f25, fd25, T25⟩ := A25
  have D25 : Dn K mg "_law_weight" sWeight ["_law_draw", "_law_way"] f25 fd25 := ⟨T25.fn, PySem.W.mg_of X G T25.ns, T25.fn.binds fun _ _ _ _ _ _ us hl => match us, hl with | [_, _], _ => rfl⟩
  obtain ⟨f26, fd26, T26⟩ := A26
  have D26 : Dn K mg "_law_web" sWeb ["_law_draw", "_law_most"] f26 fd26 := ⟨T26.fn, PySem.W.mg_of X G T26.ns, T26.fn.binds fun _ _ _ _ _ _ us hl => match us, hl with | [_, _], _ => rfl⟩
  obtain ⟨f27, fd27, T27⟩ := A27
  have D27 : Dn K mg "_law_tree" sTree ["_law_draw", "_law_many"] f27 fd27 := ⟨T27.fn, PySem.W.mg_of X G T27.ns, T27.fn.binds fun _ _ _ _ _ _ us hl => match us, hl with | [_, _], _ => rfl⟩
  obtain ⟨f28, fd28, T28⟩ := A28
  have D28 : Dn K mg "_law_knots" sKnotsL ["_law_tree_here"] f28 fd28 := ⟨T28.fn, PySem.W.mg_of X G T28.ns, T28.fn.binds fun _ _ _ _ _ _ us hl => match us, hl with | [_], _ => rfl⟩
  obtain ⟨f29, fd29, T29⟩ := A29
  have D29 : Dn K mg "_law_counted" sCounted ["_law_web_here", "_law_knots_here", "_law_number"] f29 fd29 := ⟨T29.fn, PySem.W.mg_of X G T29.ns, T29.fn.binds fun _ _ _ _ _ _ us hl => match us, hl with | [_, _, _], _ => rfl⟩
  obtain ⟨f30, fd30, T30⟩ := A30
  have D30 : Dn K mg "_law_maps" sMaps ["_law_web_here", "_law_tree_here"] f30 fd30 := ⟨T30.fn, PySem.W.mg_of X G T30.ns, T30.fn.binds fun _ _ _ _ _ _ us hl => match us, hl with | [_, _], _ => rfl⟩
  have FL := fun_mk (st := sLaw) lL cL kL
  have BW : BltW mg := ⟨PySem.W.mg_none_of X G z_range, PySem.W.mg_none_of X G z_int⟩
  have BR : BltR mg := ⟨PySem.W.mg_none_of X G z_abs, PySem.W.mg_none_of X G z_len, PySem.W.mg_none_of X G z_sum, PySem.W.mg_none_of X G z_zip⟩
  have BT : BltT mg := ⟨PySem.W.mg_none_of X G z_range, PySem.W.mg_none_of X G z_sum, PySem.W.mg_none_of X G z_isinstance, PySem.W.mg_none_of X G z_int, PySem.W.mg_none_of X G z_bool⟩
  have BM : BltM mg := ⟨PySem.W.mg_none_of X G z_len, PySem.W.mg_none_of X G z_sum, PySem.W.mg_none_of X G z_range, PySem.W.mg_none_of X G z_isinstance⟩
  have gT := PySem.W.mg_of X G aTn
  have TB : TabK K aT inTab := ⟨tbl⟩
  refine ⟨PySem.W.fnOf "law" "law" (defArgs sLaw) (defBody sLaw) (defScope sLaw) .none kV doc pm an cdv ct, fun s v => .of_eq rfl, fun base _ _ => ?_⟩
  have GG := ok_gd (P := l.prog) (w := w) (base := base) BR D0.fn
  have GF := ok_fr BR D1.fn D0 GG
  have GI := ok_inner (P := l.prog) (w := w) (base := base) BR gT TB D4.fn
  have GFi := ok_first D5.fn D4 GI
  have GAl := ok_all D6.fn D0 GG
  have GL := ok_lowered D7.fn D6 GAl
  have GDo := ok_dot (P := l.prog) (w := w) (base := base) BR D2.fn
  have GSu := ok_sumsEach D3.fn D2 GDo
  have GBo := ok_both BR D8.fn D7 GL
  have GPr := ok_plusR BR D9.fn D7 GL
  have GMa := ok_many D10.fn D0 GG D6 GAl
  have GLe := ok_leaf (P := l.prog) (w := w) (base := base) BR D11.fn
  have GFo := ok_fromOne D12.fn D3 GSu
  have GT2 := ok_two D13.fn D8 GBo D9 GPr
  have GK := ok_byKind BR D14.fn D11 GLe D12 GFo D13 GT2 D10 GMa
  have GO := ok_over BR D15.fn D5 GFi D4 GI D14 GK
  have GTv := ok_tov BR D16.fn D1 GF
  have GTt := ok_tot D17.fn D15 GO D16 GTv
  have GTo := ok_totalOf D18.fn D17 GTt
  have GTm := ok_termOf (P := l.prog) (w := w) (base := base) D19 5
  have GMt := ok_mapsTotal D20.fn D19 GTm D18 GTo
  have GB := ok_begun (P := l.prog) (w := w) (base := base) (mg := mg) D23.fn
  have GTk := ok_take (P := l.prog) (w := w) (base := base) D24.fn D22
  have GWt := ok_weight D25.fn D24 GTk
  have GW := ok_web BW D26.fn D24 GTk D25 GWt
  have GTr := ok_tree BT D27.fn D24 GTk
  have GWh := ok_whole (P := l.prog) (w := w) (base := base) BT D21.fn
  have GKn := ok_knotsL (P := l.prog) (w := w) (base := base) (PySem.W.mg_none_of X G z_len) D28.fn
  have GCo := ok_counted (P := l.prog) (w := w) (base := base) BM D29.fn
  have GMp := ok_maps BM D30.fn D28 GKn D29 GCo
  exact ok_law FL D23 GB D26 GW D24 GTk D27 GTr D30 GMp D20 GMt D21 GWh D18 GTo D19 GTm
theorem walk {l : PySem.W.OpenLaw} {q : Program} {loose : List Str} {XP : (Str → Option Value) → Heap → Prop} {YP : World → Heap → Prop} {d : DefRec} {K : Params → PySem.W.Frag} (hn : l.most = some 63) (hdf : d.params.defaults = [])
    (hY : ∀ (w : World) (h : Heap), YP w h → (K w.params).In h)
    (F : ∀ (w : World) (mg : Str → Option Value) (fa : Addr) (h : Heap), (K w.params).In h → h.Ns mainGlobals mg → mg d.name = some (.ref fa) →
      ∃ fd : FuncData, (∀ (s : Shared) (u : Value), BindsTo s fd ⟨[u], []⟩ [("_law_script", u)]) ∧ ∀ base : Heap, (K w.params).In base → base.Ns mainGlobals mg → FnOk l.prog w (K w.params) mg base CX0 11 fa fd ["_law_script"] (spLaw (K w.params))) :
    PySem.W.WalkO q loose XP YP l.row.toRowW d [] (fun f vs => PySem.call f vs) :=
  L2.walk_of (n := 63) (k := 11) (x := "_law_script") (CX := fun _ => CX0) (sp := fun w => spLaw (K w.params)) hn (by decide) hdf ⟨rfl, by decide, by decide⟩ hY F (fun _ _ a ns hl _ hS => ⟨a, ns, rfl, hS, hl, fun _ => rfl⟩) fun _ _ _ _ _ z => z
end My
open PySem PySem.W PyProof.Rows
set_option maxRecDepth 100000 in
set_option maxHeartbeats 0 in
theorem PySem.Challenge.cw_evenkin_k14_whole_maps_of_trees_holds : PySem.Challenge.rw_evenkin_k14_whole_maps_of_trees.Holds := by
  w_on; o_law; k_head; (case hw => w_witness2)
  k_fill
  refine My.walk (l := PySem.Challenge.rw_evenkin_k14_whole_maps_of_trees) rfl rfl (fun w h Y => PySem.W.kIn_of Y) ?F
  case F =>
    intro w mg fa h KX G hmg
    refine' My.all_mk KX G hmg (My.at_mk ?a0 ?l0 ?c0 ?k0) (My.at_mk ?a1 ?l1 ?c1 ?k1) (My.at_mk ?a2 ?l2 ?c2 ?k2) (My.at_mk ?a3 ?l3 ?c3 ?k3) (My.at_mk ?a4 ?l4 ?c4 ?k4) (My.at_mk ?a5 ?l5 ?c5 ?k5) (My.at_mk ?a6 ?l6 ?c6 ?k6) (My.at_mk ?a7 ?l7 ?c7 ?k7) (My.at_mk ?a8 ?l8 ?c8 ?k8) (My.at_mk ?a9 ?l9 ?c9 ?k9) (My.at_mk ?a10 ?l10 ?c10 ?k10) (My.at_mk ?a11 ?l11 ?c11 ?k11) (My.at_mk ?a12 ?l12 ?c12 ?k12) (My.at_mk ?a13 ?l13 ?c13 ?k13) (My.at_mk ?a14 ?l14 ?c14 ?k14) (My.at_mk ?a15 ?l15 ?c15 ?k15) (My.at_mk ?a16 ?l16 ?c16 ?k16) (My.at_mk ?a17 ?l17 ?c17 ?k17) (My.at_mk ?a18 ?l18 ?c18 ?k18) (My.at_mk ?a19 ?l19 ?c19 ?k19) (My.at_mk ?a20 ?l20 ?c20 ?k20) (My.at_mk ?a21 ?l21 ?c21 ?k21) (My.at_mk ?a22 ?l22 ?c22 ?k22) (My.at_mk ?a23 ?l23 ?c23 ?k23) (My.at_mk ?a24 ?l24 ?c24 ?k24) (My.at_mk ?a25 ?l25 ?c25 ?k25) (My.at_mk ?a26 ?l26 ?c26 ?k26) (My.at_mk ?a27 ?l27 ?c27 ?k27) (My.at_mk ?a28 ?l28 ?c28 ?k28) (My.at_mk ?a29 ?l29 ?c29 ?k29) (My.at_mk ?a30 ?l30 ?c30 ?k30) ?aTn ?tbl ?aL ?lL ?cL ?kL ?z_range ?z_int ?z_abs ?z_len ?z_sum ?z_zip ?z_isinstance ?z_bool
    (case a0 => k_is); (case l0 => k_is); (case c0 => k_is); (case k0 => k_is)
    (case a1 => k_is); (case l1 => k_is); (case c1 => k_is); (case k1 => k_is)
    (case a2 => k_is); (case l2 => k_is); (case c2 => k_is); (case k2 => k_is)
    (case a3 => k_is); (case l3 => k_is); (case c3 => k_is); (case k3 => k_is)
    (case a4 => k_is); (case l4 => k_is); (case c4 => k_is); (case k4 => k_is)
    (case a5 => k_is); (case l5 => k_is); (case c5 => k_is); (case k5 => k_is)
    (case a6 => k_is); (case l6 => k_is); (case c6 => k_is); (case k6 => k_is)
    (case a7 => k_is); (case l7 => k_is); (case c7 => k_is); (case k7 => k_is)
    (case a8 => k_is); (case l8 => k_is); (case c8 => k_is); (case k8 => k_is)
    (case a9 => k_is); (case l9 => k_is); (case c9 => k_is); (case k9 => k_is)
    (case a10 => k_is); (case l10 => k_is); (case c10 => k_is); (case k10 => k_is)
    (case a11 => k_is); (case l11 => k_is); (case c11 => k_is); (case k11 => k_is)
    (case a12 => k_is); (case l12 => k_is); (case c12 => k_is); (case k12 => k_is)
    (case a13 => k_is); (case l13 => k_is); (case c13 => k_is); (case k13 => k_is)
    (case a14 => k_is); (case l14 => k_is); (case c14 => k_is); (case k14 => k_is)
    (case a15 => k_is); (case l15 => k_is); (case c15 => k_is); (case k15 => k_is)
    (case a16 => k_is); (case l16 => k_is); (case c16 => k_is); (case k16 => k_is)
    (case a17 => k_is); (case l17 => k_is); (case c17 => k_is); (case k17 => k_is)
    (case a18 => k_is); (case l18 => k_is); (case c18 => k_is); (case k18 => k_is)
    (case a19 => k_is); (case l19 => k_is); (case c19 => k_is); (case k19 => k_is)
    (case a20 => k_is); (case l20 => k_is); (case c20 => k_is); (case k20 => k_is)
    (case a21 => k_is); (case l21 => k_is); (case c21 => k_is); (case k21 => k_is)
    (case a22 => k_is); (case l22 => k_is); (case c22 => k_is); (case k22 => k_is)
    (case a23 => k_is); (case l23 => k_is); (case c23 => k_is); (case k23 => k_is)
    (case a24 => k_is); (case l24 => k_is); (case c24 => k_is); (case k24 => k_is)
    (case a25 => k_is); (case l25 => k_is); (case c25 => k_is); (case k25 => k_is)
    (case a26 => k_is); (case l26 => k_is); (case c26 => k_is); (case k26 => k_is)
    (case a27 => k_is); (case l27 => k_is); (case c27 => k_is); (case k27 => k_is)
    (case a28 => k_is); (case l28 => k_is); (case c28 => k_is); (case k28 => k_is)
    (case a29 => k_is); (case l29 => k_is); (case c29 => k_is); (case k29 => k_is)
    (case a30 => k_is); (case l30 => k_is); (case c30 => k_is); (case k30 => k_is)
    (case aTn => k_is)
    (case tbl => first | rfl | with_unfolding_all rfl | decide +kernel)
    (case aL => k_is); (case lL => k_is); (case cL => k_is); (case kL => k_is)
    (case z_range => k_is); (case z_int => k_is); (case z_abs => k_is); (case z_len => k_is); (case z_sum => k_is); (case z_zip => k_is); (case z_isinstance => k_is); (case z_bool => k_is)
