import PyProof.Rows.All
import Wide.All
import OpenK.AllK
import Wide.FinOn
import Lean
import PyProof.EqAt
import PyProof.EqKinds
import PyProof.TupleCall
import PySem.Challenge.RW_evenkin_k52_papers_of_trees_looked_at
set_option Elab.async false
set_option linter.all false
set_option maxRecDepth 100000
namespace L2
open PySem PySem.Spec PyProof.Rows
abbrev Key := Sum Int Str
def keyIs : Key → Value → Bool
  | .inl k, v => Value.isInt k v
  | .inr x, v => Value.isStrOf x v
def keyH (w : World) : Key → Int
  | .inl k => hashInt k
  | .inr x => hashStr w x
theorem keyIs_shape : ∀ {k : Key} {v : Value}, keyIs k v = true → (∃ i t, k = Sum.inl i ∧ v = Value.int i t) ∨ (∃ x t, k = Sum.inr x ∧ v = Value.str x t)
  | .inl i, v, h => by
    obtain ⟨t, e⟩ := Value.isInt_shape (k := i) (v := v) h
    exact .inl ⟨i, t, rfl, e⟩
  | .inr x, v, h => by
    obtain ⟨t, e⟩ := Value.isStrOf_shape (x := x) (v := v) h
    exact .inr ⟨x, t, rfl, e⟩
theorem key_ll (a b : Int) : decide ((Sum.inl a : Key) = Sum.inl b) = (a == b) := by
  by_cases e : a = b
  · subst e; simp
  · have h : ¬ (Sum.inl a : Key) = Sum.inl b := fun q => e (Sum.inl.inj q)
    rw [decide_eq_false h]
    exact (beq_eq_false_iff_ne.mpr e).symm
theorem key_rr (a b : Str) : decide ((Sum.inr a : Key) = Sum.inr b) = decide (a = b) := by
  by_cases e : a = b
  · subst e; simp
  · have h : ¬ (Sum.inr a : Key) = Sum.inr b := fun q => e (Sum.inr.inj q)
    rw [decide_eq_false h, decide_eq_false e]
theorem key_lr (a : Int) (b : Str) : decide ((Sum.inl a : Key) = Sum.inr b) = false := decide_eq_false (fun q => nomatch q)
theorem key_rl (a : Str) (b : Int) : decide ((Sum.inr a : Key) = Sum.inl b) = false := decide_eq_false (fun q => nomatch q)
def mixKind (prog : Program) (w : World) : PySem.KeyKind prog w Key where
  is := keyIs
  hash := keyH w
  inj := fun v a b ha hb => by
    rcases keyIs_shape ha with ⟨i, t, rfl, rfl⟩ | ⟨x, t, rfl, rfl⟩
    · rcases keyIs_shape hb with ⟨j, u, rfl, e⟩ | ⟨y, u, rfl, e⟩
      · injection e with e1 _; rw [e1]
      · exact nomatch e
    · rcases keyIs_shape hb with ⟨j, u, rfl, e⟩ | ⟨y, u, rfl, e⟩
      · exact nomatch e
      · injection e with e1 _; rw [e1]
  byValue := fun k v h => by
    rcases keyIs_shape h with ⟨i, t, rfl, rfl⟩ | ⟨x, t, rfl, rfl⟩ <;> rfl
  pyHash := fun hv h => by
    rcases keyIs_shape hv with ⟨i, t, rfl, rfl⟩ | ⟨x, t, rfl, rfl⟩
    · exact wpAny_pyHash_int h
    · exact wpAny_pyHash_str h
  eqBool := fun hu hv h => by
    rcases keyIs_shape hu with ⟨i, t, rfl, rfl⟩ | ⟨x, t, rfl, rfl⟩
    · rcases keyIs_shape hv with ⟨j, u, rfl, rfl⟩ | ⟨y, u, rfl, rfl⟩
      · rw [key_ll] at h; exact wpAny_eqBool_int h
      · rw [key_lr] at h; exact SeqAt.EqAt.int_str i t y u _ _ _ _ h
    · rcases keyIs_shape hv with ⟨j, u, rfl, rfl⟩ | ⟨y, u, rfl, rfl⟩
      · rw [key_rl] at h; exact SeqAt.EqAt.str_int x t j u _ _ _ _ h
      · rw [key_rr] at h; exact wpAny_eqBool_str h
  «strs» := fun k x t v h => by
    rcases keyIs_shape h with ⟨i, u, rfl, e⟩ | ⟨y, u, rfl, e⟩
    · exact nomatch e
    · injection e with e1 _
      subst e1
      cases v <;> rfl
end L2
namespace L2
open PySem PySem.Spec PyProof.Rows
inductive V where
  | non | bl (b : Bool) | int (i : Int) | str (x : Str) | byt (b : Array UInt8) | flt (b : UInt64) | ref (a : Addr) | ty (n : String)
  deriving DecidableEq
def RelV : V → Value → Prop
  | .non, u => u = Value.none
  | .bl b, u => u = Value.bool b
  | .int i, u => ∃ t, u = Value.int i t
  | .str x, u => ∃ t, u = Value.str x t
  | .byt b, u => ∃ t, u = Value.bytes b t
  | .flt b, u => ∃ t, u = Value.float b t
  | .ref a, u => u = Value.ref a
  | .ty n, u => u = Value.type n
abbrev Vals : List V → List Value → Prop := Paired RelV
theorem Vals.length {xs : List V} {us : List Value} (r : Vals xs us) : xs.length = us.length := Paired.length r
theorem Vals.get : ∀ {xs : List V} {us : List Value} {i : Nat} {x : V}, Vals xs us → xs[i]? = some x → ∃ u, us[i]? = some u ∧ RelV x u
  | _, _, _, _, .nil, e => by simp at e
  | _, _, 0, _, .cons r _, e => by simp at e; subst e; exact ⟨_, rfl, r⟩
  | _, _, i + 1, x, .cons _ t, e => by
    obtain ⟨u, h1, h2⟩ := Vals.get (i := i) (x := x) t (by simpa using e)
    exact ⟨u, by simpa using h1, h2⟩
theorem Vals.set {x : V} {u : Value} (r : RelV x u) : ∀ {xs : List V} {us : List Value} (i : Nat), Vals xs us → Vals (xs.set i x) (us.set i u)
  | _, _, _, .nil => .nil
  | _, _, 0, .cons _ t => .cons r t
  | _, _, i + 1, .cons q t => .cons q (Vals.set r i t)
theorem Vals.append : ∀ {xs ys : List V} {us ws : List Value}, Vals xs us → Vals ys ws → Vals (xs ++ ys) (us ++ ws)
  | _, _, _, _, .nil, s => s
  | _, _, _, _, .cons r t, s => .cons r (Vals.append t s)
theorem Vals.take : ∀ {xs : List V} {us : List Value} (n : Nat), Vals xs us → Vals (xs.take n) (us.take n)
  | _, _, 0, _ => .nil
  | _, _, _ + 1, .nil => .nil
  | _, _, n + 1, .cons r t => .cons r (Vals.take n t)
theorem Vals.drop : ∀ {xs : List V} {us : List Value} (n : Nat), Vals xs us → Vals (xs.drop n) (us.drop n)
  | _, _, 0, r => r
  | _, _, _ + 1, .nil => .nil
  | _, _, n + 1, .cons _ t => Vals.drop n t
def RelO : Option V → Option Value → Prop
  | some v, some u => RelV v u
  | none, none => True
  | _, _ => False
def KV {κ : Type} : List (κ × V) → List (κ × Value) → Prop := Paired fun (p : κ × V) (q : κ × Value) => p.1 = q.1 ∧ RelV p.2 q.2
def kV : Key → V
  | .inl i => .int i
  | .inr x => .str x
inductive HO where
  | lst (xs : List V)
  | tup (xs : List V)
  | dK (kvs : List (Key × V)) | dT (kvs : List (List Key × V))
  | set (S : Int → Bool) (n : Nat)
  | ins (C dx : Addr) (fs : List (Str × V))
  | own (x : Addr)
  | xd (fs : List (Str × V))
  | met (f x : Addr)
  | rng (lo hi : Int)
  | frz (o : Obj) (u : HO)
  | tbl (ps : Array Value)
  | ext (φ : Heap → Prop)
abbrev Hp := Addr → Option HO
def upd (H : Hp) (a : Addr) (o : HO) : Hp := fun b => if b = a then some o else H b
theorem upd_same {H : Hp} {a : Addr} {o : HO} : upd H a o a = some o := by unfold upd; rw [if_pos rfl]
theorem upd_ne {H : Hp} {a b : Addr} {o : HO} (h : b ≠ a) : upd H a o b = H b := by unfold upd; rw [if_neg h]
theorem upd_upd {H : Hp} {a : Addr} {o u : HO} : upd (upd H a o) a u = upd H a u := by
  funext b; unfold upd; split <;> rfl
theorem ne_of_none {H : Hp} {a b : Addr} {o : HO} (h : H a = some o) (h' : H b = none) : a ≠ b := by
  intro e; subst e; rw [h] at h'; cases h'
section
variable (P : Program) (w : World)
def ObjOk (H : Hp) (h : Heap) (a : Addr) : HO → Prop
  | .lst xs => xs.length ≤ sizeLine ∧ ∃ (its : List Value) (n : Nat), Vals xs its ∧ h.get? a = some { cls := .type "list", data := .seq its.toArray n }
  | .tup xs => xs.length ≤ sizeLine ∧ ∃ its : List Value, Vals xs its ∧ IsTup h a its.toArray
  | .dK kvs => kvs.length ≤ sizeLine ∧ (a == sysModules) = false ∧ ∃ vs, KV kvs vs ∧ h.DictOf (mixKind P w) a vs
  | .dT kvs => kvs.length ≤ sizeLine ∧ (a == sysModules) = false ∧ ∃ xs : List (List Key × Addr × Value),
      Paired (fun (p : List Key × V) (q : List Key × Addr × Value) => p.1 = q.1 ∧ H q.2.1 = some (.tup (p.1.map kV)) ∧ RelV p.2 q.2.2) kvs xs ∧
      ∃ o es ep, h.get? a = some o ∧ o.ExactDict ∧ o.data = .dict es ep ∧ es.toList = xs.map (entryOfKey (tupleKind (mixKind P w))) ∧ (xs.map (·.1)).Nodup
  | .set S n => h.SetOf (intKind P w) a S n
  | .ins C dx fs => H dx = some (.own a) ∧ fs.length ≤ 1000 ∧ dx ≠ a ∧ h.get? a = some (PySem.W.instObj C dx) ∧
      ∃ mA, h.Ns1 dx mA ∧ (∀ f, RelO (fs.lookup f) (mA f)) ∧ PySem.Within mA (fs.map (·.1))
  | .own _ => ∃ o, h.get? a = some o
  | .xd fs => ∃ mA, h.Ns1 a mA ∧ ∀ f, RelO (fs.lookup f) (mA f)
  | .rng lo hi => ∃ t u v, h.get? a = some { cls := .type "range", data := .fields #[.int lo t, .int hi u, .int 1 v] }
  | .frz o u => h.get? a = some o ∧ ObjOk H h a u
  | .tbl ps => h.get? a = some { cls := .none, data := .fields ps }
  | .met f x => h.get? a = some (PySem.W.methodObj (.ref f) (.ref x))
  | .ext φ => φ h ∧ (∃ o, h.get? a = some o) ∧ ∀ h1 h2 : Heap, φ h1 → (∀ o, h1.get? a = some o → h2.get? a = some o) → φ h2
def HOk (H : Hp) (h : Heap) : Prop := ∀ a o, H a = some o → ObjOk P w H h a o
end
section
variable {P : Program} {w : World} {H H' : Hp} {h h' : Heap} {a : Addr} {o : HO}
theorem ObjOk.lt (x : ObjOk P w H h a o) : a < h.objs.size := by
  cases o with
  | lst xs => obtain ⟨_, _, _, _, e⟩ := x; exact Heap.lt_size e
  | tup xs => obtain ⟨_, _, _, p⟩ := x; exact p.lt
  | dK kvs => obtain ⟨_, _, _, _, o, _, _, e, _⟩ := x; exact Heap.lt_size e
  | dT kvs => obtain ⟨_, _, _, _, o, _, _, e, _⟩ := x; exact Heap.lt_size e
  | set S n => obtain ⟨o, _, _, _, e, _⟩ := x; exact Heap.lt_size e
  | ins C dx fs => obtain ⟨_, _, _, e, _⟩ := x; exact Heap.lt_size e
  | own y => obtain ⟨_, e⟩ := x; exact Heap.lt_size e
  | xd fs => obtain ⟨_, ⟨_, _, _, e, _⟩, _⟩ := x; exact Heap.lt_size e
  | rng lo hi => obtain ⟨_, _, _, e⟩ := x; exact Heap.lt_size e
  | frz ob u => obtain ⟨e, _⟩ := x; exact Heap.lt_size e
  | tbl ps => exact Heap.lt_size (show h.get? a = some _ from x)
  | met f y => exact Heap.lt_size (show h.get? a = some _ from x)
  | ext φ => obtain ⟨_, ⟨_, e⟩, _⟩ := x; exact Heap.lt_size e
theorem Paired.mapP {α β : Type} {F G : α → β → Prop} : ∀ {l₁ : List α} {l₂ : List β}, Paired F l₁ l₂ → (∀ a b, F a b → G a b) → Paired G l₁ l₂
  | _, _, .nil, _ => .nil
  | _, _, .cons r t, f => .cons (f _ _ r) (Paired.mapP t f)
theorem ObjOk.stay (x : ObjOk P w H h a o) (k : ∀ b u, (b = a ∨ H b = some (.own a)) → h.get? b = some u → h'.get? b = some u)
    (ho : ∀ b, H b = some (.own a) → H' b = some (.own a)) (ht : ∀ b xs, H b = some (.tup xs) → H' b = some (.tup xs)) : ObjOk P w H' h' a o := by
  induction o with
  | lst xs => obtain ⟨z, its, n, r, e⟩ := x; exact ⟨z, its, n, r, k _ _ (.inl rfl) e⟩
  | tup xs => obtain ⟨z, its, r, ob, e, c⟩ := x; exact ⟨z, its, r, ob, k _ _ (.inl rfl) e, c⟩
  | dK kvs => obtain ⟨z, y, vs, r, ob, es, ep, e, c⟩ := x; exact ⟨z, y, vs, r, ob, es, ep, k _ _ (.inl rfl) e, c⟩
  | dT kvs =>
    obtain ⟨z, y, xs, r, ob, es, ep, e, c⟩ := x
    exact ⟨z, y, xs, Paired.mapP r fun p q z => ⟨z.1, ht _ _ z.2.1, z.2.2⟩, ob, es, ep, k _ _ (.inl rfl) e, c⟩
  | set S n => obtain ⟨ob, es, ep, t, e, c⟩ := x; exact ⟨ob, es, ep, t, k _ _ (.inl rfl) e, c⟩
  | ins C dx fs =>
    obtain ⟨d, z, ne, e, mA, ⟨od, es, ep, e2, c⟩, r⟩ := x
    exact ⟨ho _ d, z, ne, k _ _ (.inl rfl) e, mA, ⟨od, es, ep, k _ _ (.inr d) e2, c⟩, r⟩
  | own y => obtain ⟨ob, e⟩ := x; exact ⟨ob, k _ _ (.inl rfl) e⟩
  | xd fs => obtain ⟨mA, ⟨od, es, ep, e, c⟩, r⟩ := x; exact ⟨mA, ⟨od, es, ep, k _ _ (.inl rfl) e, c⟩, r⟩
  | rng lo hi => obtain ⟨t, u, v, e⟩ := x; exact ⟨t, u, v, k _ _ (.inl rfl) e⟩
  | frz ob u ih => obtain ⟨e, q⟩ := x; exact ⟨k _ _ (.inl rfl) e, ih q⟩
  | tbl ps =>
    have e : h.get? a = some { cls := .none, data := .fields ps } := x
    show h'.get? a = some { cls := .none, data := .fields ps }
    exact k a _ (.inl rfl) e
  | met f y =>
    have e : h.get? a = some (PySem.W.methodObj (.ref f) (.ref y)) := x
    show h'.get? a = some (PySem.W.methodObj (.ref f) (.ref y))
    exact k a _ (.inl rfl) e
  | ext φ => obtain ⟨p, ⟨o, e⟩, st⟩ := x; exact ⟨st _ _ p fun o q => k _ _ (.inl rfl) q, ⟨o, k _ _ (.inl rfl) e⟩, st⟩
theorem HOk.lt (x : HOk P w H h) (e : H a = some o) : a < h.objs.size := (x a o e).lt
theorem HOk.fresh (x : HOk P w H h) (e : h.objs.size ≤ a) : H a = none := by
  cases q : H a with
  | none => rfl
  | some u => exact absurd (Nat.lt_of_lt_of_le (x.lt q) e) (Nat.lt_irrefl _)
theorem HOk.kept (x : HOk P w H h) (k : ∀ b u, h.get? b = some u → h'.get? b = some u) : HOk P w H h' := fun a o e =>
  (x a o e).stay (fun b u _ q => k b u q) (fun _ q => q) fun _ _ q => q
theorem HOk.laid (x : HOk P w H h) (k : ∀ b u, h.get? b = some u → h'.get? b = some u) (hp : h.objs.size ≤ a) (new : ObjOk P w (upd H a o) h' a o) : HOk P w (upd H a o) h' := fun b u e => by
  have hn := x.fresh hp
  by_cases hb : b = a
  · subst hb; rw [upd_same] at e; cases e; exact new
  · rw [upd_ne hb] at e
    exact (x b u e).stay (fun c v _ q => k c v q) (fun c q => by rw [upd_ne (ne_of_none q hn)]; exact q) fun c xs q => by rw [upd_ne (ne_of_none q hn)]; exact q
end
def Rd (H : Hp) (a : Addr) (u : HO) : Prop := H a = some u ∨ ∃ o, H a = some (.frz o u)
theorem Rd.ok {P : Program} {w : World} {H : Hp} {h : Heap} {a : Addr} {u : HO} (r : Rd H a u) (x : HOk P w H h) : ObjOk P w H h a u := by
  rcases r with r | ⟨o, r⟩
  · exact x a u r
  · obtain ⟨_, q⟩ := x a _ r
    exact q
def Mut : Option HO → Prop
  | some (.lst _) => True
  | some (.dK _) => True
  | some (.dT _) => True
  | some (.set _ _) => True
  | some (.ins _ _ _) => True
  | some (.ext _) => True
  | _ => False
section
variable {P : Program} {w : World} {H : Hp} {h h' : Heap} {x e : Addr} {o' : HO}
theorem HOk.write (ok : HOk P w H h) (mu : Mut (H x)) (he : e = x ∨ H e = some (.own x)) (k : ∀ b u, b ≠ e → h.get? b = some u → h'.get? b = some u) (heo : ∃ u, h'.get? e = some u)
    (new : ObjOk P w (upd H x o') h' x o') : HOk P w (upd H x o') h' := fun b u q => by
  have nown : ∀ c y, H c = some (.own y) → c ≠ x := fun c y r z => by subst z; rw [r] at mu; exact mu
  have ntup : ∀ c xs, H c = some (.tup xs) → c ≠ x := fun c xs r z => by subst z; rw [r] at mu; exact mu
  by_cases hb : b = x
  · subst hb; rw [upd_same] at q; cases q; exact new
  · rw [upd_ne hb] at q
    by_cases hbe : b = e
    · have q' : H b = some (.own x) := by
        rcases he with z | z
        · exact absurd (hbe.trans z) hb
        · rw [hbe]; exact z
      rw [q] at q'; cases q'
      obtain ⟨v, hv⟩ := heo
      exact ⟨v, by rw [hbe]; exact hv⟩
    · refine (ok b u q).stay (fun c v hc r => k c v ?_ r) (fun c r => by rw [upd_ne (nown c b r)]; exact r) fun c xs r => by rw [upd_ne (ntup c xs r)]; exact r
      rcases hc with rfl | hc
      · exact hbe
      · rintro rfl
        rcases he with z | z
        · exact nown c b hc z
        · rw [hc] at z; cases z; exact hb rfl
end
structure Un (fs ex : List Addr) (H H' : Hp) (h h' : Heap) : Prop where
  keep : ∀ b o, h.get? b = some o → H b = none → b ∉ fs → b ∉ ex → h'.get? b = some o
  slot : ∀ b o, h.get? b = some o → H b = none → b ∈ fs → b ∉ ex → ∃ sl, h'.get? b = some { o with slots := sl }
  free : ∀ b o, h.get? b = some o → H b = none → b ∉ ex → H' b = none
  there : ∀ b o, h.get? b = some o → b ∉ ex → ∃ o', h'.get? b = some o'
  tups : ∀ b xs, H b = some (.tup xs) → H' b = some (.tup xs)
  frzs : ∀ b o u, H b = some (.frz o u) → H' b = some (.frz o u)
  tbls : ∀ b ps, H b = some (.tbl ps) → ∃ more, H' b = some (.tbl (ps ++ more))
section
variable {fs fs' ex ex' : List Addr} {H H1 H2 : Hp} {h h1 h2 h' : Heap} {a x e : Addr} {o : HO}
theorem Un.any (u : Un fs ex H H1 h h1) {b : Addr} {ob : Obj} (q : h.get? b = some ob) (n : H b = none) (hx : b ∉ ex) : ∃ sl, h1.get? b = some { ob with slots := sl } := by
  by_cases hb : b ∈ fs
  · exact u.slot b ob q n hb hx
  · exact ⟨ob.slots, u.keep b ob q n hb hx⟩
theorem Un.kept (k : ∀ b u, h.get? b = some u → h'.get? b = some u) : Un fs ex H H h h' :=
  ⟨fun b ob q _ _ _ => k b ob q, fun b ob q _ _ _ => ⟨ob.slots, k b ob q⟩, fun _ _ _ n _ => n, fun b ob q _ => ⟨ob, k b ob q⟩, fun _ _ q => q, fun _ _ _ q => q, fun _ ps q => ⟨#[], by rw [q]; simp⟩⟩
theorem Un.refl : Un fs ex H H h h := Un.kept fun _ _ q => q
theorem Un.laid (k : ∀ b u, h.get? b = some u → h'.get? b = some u) (hp : h.objs.size ≤ a) (hn : H a = none) : Un fs ex H (upd H a o) h h' where
  keep := fun b u q _ _ _ => k b u q
  slot := fun b u q _ _ _ => ⟨u.slots, k b u q⟩
  free := fun b u q n _ => by rw [upd_ne (Nat.ne_of_lt (Nat.lt_of_lt_of_le (Heap.lt_size q) hp))]; exact n
  there := fun b u q _ => ⟨u, k b u q⟩
  tups := fun b xs q => by rw [upd_ne (ne_of_none q hn)]; exact q
  frzs := fun b u xs q => by rw [upd_ne (ne_of_none q hn)]; exact q
  tbls := fun b ps q => ⟨#[], by rw [upd_ne (ne_of_none q hn), q]; simp⟩
theorem Un.write (mu : Mut (H x)) (he : e = x ∨ H e = some (.own x)) (k : ∀ b u, b ≠ e → h.get? b = some u → h'.get? b = some u) (heo : ∃ u, h'.get? e = some u) : Un fs ex H (upd H x o) h h' := by
  have hx : ∀ b, H b = none → b ≠ x := fun b n z => by subst z; rw [n] at mu; exact mu
  have hb : ∀ b, H b = none → b ≠ e := fun b n z => by
    subst z
    rcases he with r | r
    · exact hx b n r
    · rw [n] at r; cases r
  have hm : ∀ b u, H b = some u → ¬ Mut (some u) → b ≠ x := fun b u q nm z => by subst z; rw [q] at mu; exact nm mu
  refine ⟨fun b u q n _ _ => k b u (hb b n) q, fun b u q n _ _ => ⟨u.slots, k b u (hb b n) q⟩, fun b u q n _ => by rw [upd_ne (hx b n)]; exact n, fun b u q _ => ?_,
    fun b xs q => by rw [upd_ne (hm b _ q fun z => z)]; exact q, fun b u xs q => by rw [upd_ne (hm b _ q fun z => z)]; exact q, fun b ps q => ⟨#[], by rw [upd_ne (hm b _ q fun z => z), q]; simp⟩⟩
  by_cases hbe : b = e
  · subst hbe; exact heo
  · exact ⟨u, k b u hbe q⟩
end
def trk (h : Heap) (H : Hp) : List Addr := (List.range h.objs.size).filter fun a => (H a).isSome
def hidT (h : Heap) (H : Hp) : Heap := PySem.W.hideAll h (trk h H)
theorem hidT_size (h : Heap) (H : Hp) : (hidT h H).objs.size = h.objs.size := PySem.W.hideAll_size _ _
theorem hidT_get {h : Heap} {H : Hp} {b : Addr} {o : Obj} (e : h.get? b = some o) (n : H b = none) : (hidT h H).get? b = some o :=
  PySem.W.hideAll_get _ e fun hm => by
    have q : (H b).isSome = true := (List.mem_filter.mp hm).2
    rw [n] at q; simp at q
theorem of_hidT {h : Heap} {H : Hp} {b : Addr} {o : Obj} (e : (hidT h H).get? b = some o) : h.get? b = some o ∧ H b = none := by
  have e' : h.get? b = some o := PySem.W.of_hideAll (trk h H) e
  refine ⟨e', ?_⟩
  cases q : H b with
  | none => rfl
  | some x =>
    have hm : b ∈ trk h H := List.mem_filter.mpr ⟨List.mem_range.mpr (Heap.lt_size e'), by simp [q]⟩
    have z : (hidT h H).get? b = none := PySem.W.hideAll_none (trk h H) hm
    rw [z] at e; cases e
def allNews (g h : Heap) (L : Addr) : List (Addr × Obj) := (List.range h.objs.size).filterMap fun a => if a = L ∨ (g.get? a).isSome = true then none else (h.get? a).map fun o => (a, o)
def rest (g h : Heap) (L d : Addr) : List (Addr × Obj) := (allNews g h L).filter fun p => decide (p.1 ≠ d)
end L2
namespace L2
open PySem PySem.Spec PyProof.Rows
structure Mod (K : PySem.W.Frag) (mg : Str → Option Value) (base : Heap) : Prop where
  kin : K.In base
  glob : base.Ns mainGlobals mg
  blt : ∃ mb, base.Ns builtinsNs mb ∧ ∀ x : Str, x ≠ "__name__" → mb x = bootBuiltins x
  nolimit : base.NoLimit
structure Cx where
  prog : Program
  w : World
  K : PySem.W.Frag
  mg : Str → Option Value
  base : Heap
  A : Around
  N : List Str
  s₀ : Shared
  H₀ : Hp
  env : Env
  outer : List Env
  stack : List Env
  ex : List Addr
  fn : Str → Bool
  calm : Bool
  pn : List (Addr × Obj)
  xe : Value → Shared → Prop
def frs (l : List Env) : List Addr := l.filterMap (·.frame)
abbrev Cx.fs (X : Cx) : List Addr := frs X.outer
def Vis (sc : Scope) (x : Str) : Prop := sc.names.lookup x = some .local ∨ sc.names.lookup x = some .cell ∨ sc.names.lookup x = some .free
def Loc (sc : Scope) (x : Str) : Prop := sc.names.lookup x = some .local ∨ sc.names.lookup x = some .cell
def Look (env : Env) (h : Heap) (m : Str → Option Value) (x : Str) (u : Value) : Prop :=
  (env.kindOf x = some .local ∧ m x = some u) ∨ ((env.kindOf x = some .cell ∨ env.kindOf x = some .free) ∧ ∃ c, env.cells.lookup x = some c ∧ h.IsCell c (some u))
structure Cx.Ok (X : Cx) : Prop where
  mod : Mod X.K X.mg X.base
  kind : X.env.scope.kind = .function
  glob : X.env.globals = mainGlobals
  blt : X.env.builtins = builtinsNs
  above : X.s₀.heap.objs.size ≤ X.env.locals
  inj : ∀ x y c, X.env.cells.lookup x = some c → X.env.cells.lookup y = some c → x = y
  has : ∀ x, (X.env.kindOf x = some .cell ∨ X.env.kindOf x = some .free) → ∃ c, X.env.cells.lookup x = some c
  cab : ∀ x c, X.fn x = true → X.env.cells.lookup x = some c → X.s₀.heap.objs.size ≤ c
  hd : X.calm = true → X.A.handled = none
  frames : X.A.frames = some X.stack
  stk : X.stack = X.outer ∨ (X.stack = X.env :: X.outer ∧ X.env.frame = some X.env.locals)
  exf : ∀ b ∈ X.ex, b ≠ X.env.locals ∧ ∀ x c, X.env.cells.lookup x = some c → c ≠ b
  bs : ∀ b o, X.base.get? b = some o → X.s₀.heap.get? b = some o ∧ X.H₀ b = none
  bsz : X.base.objs.size ≤ X.s₀.heap.objs.size
  noex : ∀ b o, X.base.get? b = some o → b ∉ X.ex
  exfs : ∀ b ∈ X.ex, b ∉ X.fs
  funs : X.s₀.heap.FunFrames X.base X.outer
  frf : ∀ b ∈ X.fs, X.H₀ b = none
structure Inv (X : Cx) (pins : List (Addr × Obj)) (σ : List (Option V)) (H : Hp) (s : Shared) : Prop where
  ok : X.Ok
  os : s.os = X.s₀.os
  bare : AllBare s.gens
  base : Un X.fs X.ex X.H₀ H X.s₀.heap s.heap
  loc : ∃ m, s.heap.Ns X.env.locals m ∧ ∀ (i : Nat) (x : Str) (v : V), X.N[i]? = some x → σ[i]? = some (some v) → Vis X.env.scope x → ∃ u, RelV v u ∧ Look X.env s.heap m x u
  cell : ∀ x c, X.env.cells.lookup x = some c → ∃ v, s.heap.IsCell c v
  free : H X.env.locals = none
  freeC : ∀ x c, X.env.cells.lookup x = some c → H c = none
  pin : ∀ p ∈ X.pn ++ pins, s.heap.get? p.1 = some p.2 ∧ H p.1 = none ∧ p.1 ≠ X.env.locals ∧ p.1 ∉ X.fs ∧ ∀ v, p.2.data ≠ .cell v
  hok : HOk X.prog X.w H s.heap
  len : σ.length = X.N.length
section
variable {X : Cx} {pins : List (Addr × Obj)} {σ : List (Option V)} {H H' : Hp} {s : Shared} {h' : Heap}
theorem Cx.Ok.nofr (ok : X.Ok) {b : Addr} {o : Obj} (e : X.base.get? b = some o) : b ∉ X.fs := fun hb => by
  have := (ok.funs.mem hb).1
  rw [e] at this; cases this
theorem Inv.bs (I : Inv X pins σ H s) : ∀ b o, X.base.get? b = some o → s.heap.get? b = some o ∧ H b = none := fun b o e =>
  ⟨I.base.keep b o (I.ok.bs b o e).1 (I.ok.bs b o e).2 (I.ok.nofr e) (I.ok.noex b o e), I.base.free b o (I.ok.bs b o e).1 (I.ok.bs b o e).2 (I.ok.noex b o e)⟩
theorem Inv.bk (I : Inv X pins σ H s) : ∀ b o, X.base.get? b = some o → s.heap.get? b = some o := fun b o e => (I.bs b o e).1
theorem Inv.mod (I : Inv X pins σ H s) : Mod X.K X.mg X.base := I.ok.mod
theorem Inv.kIn (I : Inv X pins σ H s) : X.K.In s.heap := I.ok.mod.kin.keeps I.bk
theorem Inv.lt (I : Inv X pins σ H s) : X.env.locals < s.heap.objs.size := let ⟨_, hn, _⟩ := I.loc; hn.lt
theorem Inv.sz (I : Inv X pins σ H s) : X.s₀.heap.objs.size ≤ s.heap.objs.size := Nat.le_trans I.ok.above (Nat.le_of_lt I.lt)
theorem Inv.nofs (I : Inv X pins σ H s) {a : Addr} (h : s.heap.objs.size ≤ a) : a ∉ X.fs := fun hb => by
  obtain ⟨_, o, ho, _⟩ := I.ok.funs.mem hb
  exact absurd (Nat.lt_of_lt_of_le (Heap.lt_size ho) (Nat.le_trans I.sz h)) (Nat.lt_irrefl _)
theorem Inv.cne (I : Inv X pins σ H s) : ∀ x c, X.env.cells.lookup x = some c → c ≠ X.env.locals := fun x c e z => by
  obtain ⟨v, o, ho, hd⟩ := I.cell x c e
  obtain ⟨m, ⟨o', es, ep, ho', hd', _⟩, _⟩ := I.loc
  rw [z, ho'] at ho; cases ho; rw [hd'] at hd; cases hd
theorem Inv.funs (I : Inv X pins σ H s) : s.heap.FunFrames X.base X.outer := by
  have all : ∀ (l : List Env), (∀ b ∈ frs l, b ∈ X.fs) → X.s₀.heap.FunFrames X.base l → s.heap.FunFrames X.base l := by
    intro l
    induction l with
    | nil => intro _ _; trivial
    | cons env r ih =>
      intro hs hl
      obtain ⟨hk, ⟨L, o, hf, hn, ho, hd⟩, hr⟩ := hl
      have hL : L ∈ X.fs := hs L (by unfold frs; rw [List.filterMap_cons, hf]; exact List.mem_cons_self)
      obtain ⟨sl, e⟩ := I.base.slot L o ho (I.ok.frf L hL) hL fun z => I.ok.exfs L z hL
      exact ⟨hk, ⟨L, _, hf, hn, e, hd⟩, ih (fun b hb => hs b (by unfold frs; rw [List.filterMap_cons, hf]; exact List.mem_cons_of_mem _ hb)) hr⟩
  exact all X.outer (fun _ hb => hb) I.ok.funs
theorem Inv.stack (I : Inv X pins σ H s) : s.heap.FunFrames X.base X.stack := by
  rcases I.ok.stk with e | ⟨e, hf⟩
  · rw [e]; exact I.funs
  · rw [e]
    obtain ⟨m, hn, _⟩ := I.loc
    refine .cons (by rw [I.ok.kind]; decide) hf hn ?_ I.funs
    exact Heap.get?_none_of_le (Nat.le_trans I.ok.bsz I.ok.above)
theorem Inv.stkSub (I : Inv X pins σ H s) : ∀ b ∈ frs X.stack, b ∈ X.env.locals :: X.fs := fun b hb => by
  rcases I.ok.stk with e | ⟨e, hf⟩
  · rw [e] at hb; exact List.mem_cons_of_mem _ hb
  · rw [e] at hb
    unfold frs at hb
    rw [List.filterMap_cons, hf] at hb
    exact hb
theorem Inv.stkFree (I : Inv X pins σ H s) : ∀ b ∈ frs X.stack, H b = none := fun b hb => by
  rcases List.mem_cons.mp (I.stkSub b hb) with e | hb
  · rw [e]; exact I.free
  · obtain ⟨_, o, ho, _⟩ := I.ok.funs.mem hb
    exact I.base.free b o ho (I.ok.frf b hb) fun z => I.ok.exfs b z hb
theorem Inv.step {g' : Array GenState} {t' : Nat} {d' : Drawn} {ch : List Addr} (I : Inv X pins σ H s)
    (hch : ∀ b ∈ ch, (b ∈ X.ex ∨ X.s₀.heap.objs.size ≤ b) ∧ b ≠ X.env.locals ∧ (∀ x c, X.env.cells.lookup x = some c → c ≠ b) ∧ ∀ p ∈ X.pn ++ pins, p.1 ≠ b)
    (keep : ∀ b o, b ≠ X.env.locals → b ∉ X.fs → b ∉ ch → s.heap.get? b = some o → H b = none → h'.get? b = some o)
    (slot : ∀ b o, b ≠ X.env.locals → b ∈ X.fs → b ∉ ch → s.heap.get? b = some o → H b = none → ∃ sl, h'.get? b = some { o with slots := sl }) (free : ∀ b o, b ∉ ch → s.heap.get? b = some o → H b = none → H' b = none)
    (there : ∀ b o, b ∉ ch → s.heap.get? b = some o → ∃ o', h'.get? b = some o')
    (tups : ∀ b xs, H b = some (.tup xs) → H' b = some (.tup xs)) (frzs : ∀ b o u, H b = some (.frz o u) → H' b = some (.frz o u)) (tbls : ∀ b ps, H b = some (.tbl ps) → ∃ more, H' b = some (.tbl (ps ++ more)))
    (ns : ∀ m, s.heap.Ns X.env.locals m → h'.Ns X.env.locals m) (hok : HOk X.prog X.w H' h') (hg : AllBare g') :
    Inv X pins σ H' { s with heap := h', gens := g', drawn := d', toks := t' } := by
  have neL : ∀ b o, X.s₀.heap.get? b = some o → b ≠ X.env.locals := fun b o e => Nat.ne_of_lt (Nat.lt_of_lt_of_le (Heap.lt_size e) I.ok.above)
  have neC : ∀ b o, X.s₀.heap.get? b = some o → b ∉ X.ex → b ∉ ch := fun b o e hx hb => by
    rcases (hch b hb).1 with z | z
    · exact hx z
    · exact absurd (Nat.lt_of_lt_of_le (Heap.lt_size e) z) (Nat.lt_irrefl _)
  have cellK : ∀ x c, X.env.cells.lookup x = some c → ∀ v, s.heap.IsCell c v → h'.IsCell c v := fun x c e v ⟨o, ho, hd⟩ => by
    have nch : c ∉ ch := fun z => (hch c z).2.2.1 x c e rfl
    by_cases hc : c ∈ X.fs
    · obtain ⟨sl, q⟩ := slot c o (I.cne x c e) hc nch ho (I.freeC x c e)
      exact ⟨_, q, hd⟩
    · exact ⟨o, keep c o (I.cne x c e) hc nch ho (I.freeC x c e), hd⟩
  refine ⟨I.ok, I.os, hg, ⟨fun b o e n hb hx => ?_, fun b o e n hb hx => ?_, fun b o e n hx => ?_, fun b o e hx => ?_, fun b xs e => tups b xs (I.base.tups b xs e), fun b o xs e => frzs b o xs (I.base.frzs b o xs e), fun b ps e => ?_⟩, ?_, fun x c e => ?_, ?_, fun x c e => ?_, fun p hp => ?_, hok, I.len⟩
  · exact keep b o (neL b o e) hb (neC b o e hx) (I.base.keep b o e n hb hx) (I.base.free b o e n hx)
  · obtain ⟨sl, e1⟩ := I.base.slot b o e n hb hx
    obtain ⟨sl', e2⟩ := slot b _ (neL b o e) hb (neC b o e hx) e1 (I.base.free b o e n hx)
    exact ⟨sl', e2⟩
  · obtain ⟨o', e1⟩ := I.base.there b o e hx
    exact free b o' (neC b o e hx) e1 (I.base.free b o e n hx)
  · obtain ⟨o', e1⟩ := I.base.there b o e hx
    exact there b o' (neC b o e hx) e1
  · obtain ⟨m1, e1⟩ := I.base.tbls b ps e
    obtain ⟨m2, e2⟩ := tbls b _ e1
    exact ⟨m1 ++ m2, by rw [e2, Array.append_assoc]⟩
  · obtain ⟨m, hn, hl⟩ := I.loc
    refine ⟨m, ns m hn, fun i x v e1 e2 e3 => ?_⟩
    obtain ⟨u, r, l⟩ := hl i x v e1 e2 e3
    refine ⟨u, r, ?_⟩
    rcases l with l | ⟨k, c, e, z⟩
    · exact .inl l
    · exact .inr ⟨k, c, e, cellK x c e _ z⟩
  · obtain ⟨v, z⟩ := I.cell x c e
    exact ⟨v, cellK x c e v z⟩
  · obtain ⟨m, ⟨o, _, _, ho, _⟩, _⟩ := I.loc
    exact free _ o (fun z => (hch _ z).2.1 rfl) ho I.free
  · obtain ⟨v, o, ho, hd⟩ := I.cell x c e
    exact free c o (fun z => (hch c z).2.2.1 x c e rfl) ho (I.freeC x c e)
  · obtain ⟨e, n, ne, nf, d⟩ := I.pin p hp
    have nch : p.1 ∉ ch := fun z => (hch p.1 z).2.2.2 p hp rfl
    exact ⟨keep p.1 p.2 ne nf nch e n, free p.1 p.2 nch e n, ne, nf, d⟩
theorem Inv.un {t' : Nat} (I : Inv X pins σ H s) (u : Un X.fs [] H H' s.heap h') (hok : HOk X.prog X.w H' h') : Inv X pins σ H' { s with heap := h', toks := t' } := by
  obtain ⟨m, ⟨o, es, ep, ho, r⟩, _⟩ := id I.loc
  obtain ⟨sl, hL⟩ := u.any ho I.free (by simp)
  exact I.step (g' := s.gens) (d' := s.drawn) (ch := []) (fun _ z => nomatch z) (fun b o _ hb _ e n => u.keep b o e n hb (by simp)) (fun b o _ hb _ e n => u.slot b o e n hb (by simp)) (fun b o _ e n => u.free b o e n (by simp)) (fun b o _ e => u.there b o e (by simp)) u.tups u.frzs u.tbls (fun m' hm => by
    obtain ⟨o', es', ep', ho', r'⟩ := hm
    rw [ho] at ho'; cases ho'
    exact ⟨_, es', ep', hL, r'⟩) hok I.bare
theorem Inv.call {g' : Array GenState} {t' : Nat} {d' : Drawn} {ch : List Addr} (I : Inv X pins σ H s) (u : Un (frs X.stack) ch H H' s.heap h') (hok : HOk X.prog X.w H' h') (hg : AllBare g')
    (hch : ∀ b ∈ ch, (b ∈ X.ex ∨ X.s₀.heap.objs.size ≤ b) ∧ b ≠ X.env.locals ∧ (∀ x c, X.env.cells.lookup x = some c → c ≠ b) ∧ ∀ p ∈ X.pn ++ pins, p.1 ≠ b) :
    Inv X pins σ H' { s with heap := h', gens := g', drawn := d', toks := t' } := by
  obtain ⟨m, ⟨o, es, ep, ho, r⟩, _⟩ := id I.loc
  obtain ⟨sl, hL⟩ := u.any ho I.free fun z => (hch _ z).2.1 rfl
  exact I.step (ch := ch) hch (fun b o hL hb hc e n => u.keep b o e n (fun z => (List.mem_cons.mp (I.stkSub b z)).elim hL hb) hc) (fun b o _ _ hc e n => u.any e n hc) (fun b o hc e n => u.free b o e n hc) (fun b o hc e => u.there b o e hc) u.tups u.frzs u.tbls (fun m' hm => by
    obtain ⟨o', es', ep', ho', r'⟩ := hm
    rw [ho] at ho'; cases ho'
    exact ⟨_, es', ep', hL, r'⟩) hok hg
theorem Inv.turned {t' : Nat} {it : Addr} (I : Inv X pins σ H s) (k : ∀ b o, b ≠ it → s.heap.get? b = some o → h'.get? b = some o) (hn : H it = none) (hL : it ≠ X.env.locals)
    (h1 : it ∈ X.ex ∨ X.s₀.heap.objs.size ≤ it) (h2 : ∀ x c, X.env.cells.lookup x = some c → c ≠ it) (h3 : ∀ p ∈ X.pn ++ pins, p.1 ≠ it) : Inv X pins σ H { s with heap := h', toks := t' } := by
  have nit : ∀ b u, H b = some u → b ≠ it := fun b u e z => by rw [z, hn] at e; cases e
  refine I.step (g' := s.gens) (d' := s.drawn) (ch := [it]) (fun b hb => ?_) (fun b o _ _ hc e _ => k b o (fun z => hc (by simp [z])) e) (fun b o _ _ hc e _ => ⟨o.slots, k b o (fun z => hc (by simp [z])) e⟩) (fun _ _ _ _ n => n)
    (fun b o hc e => ⟨o, k b o (fun z => hc (by simp [z])) e⟩) (fun _ _ e => e) (fun _ _ _ e => e) (fun b ps e => ⟨#[], by rw [e]; simp⟩) (fun m hm => ?_) (fun b u e => ?_) I.bare
  · have e : b = it := by simpa using hb
    subst e
    exact ⟨h1, hL, h2, h3⟩
  · obtain ⟨o, es, ep, ho, r⟩ := hm
    exact ⟨o, es, ep, k _ o (Ne.symm hL) ho, r⟩
  · refine (I.hok b u e).stay (fun c v hc q => k c v ?_ q) (fun _ q => q) fun _ _ q => q
    rcases hc with z | z
    · rw [z]; exact nit b u e
    · exact nit c _ z
theorem Inv.tok (I : Inv X pins σ H s) (t : Nat) : Inv X pins σ H { s with toks := t } := I.un (h' := s.heap) (t' := t) Un.refl I.hok
theorem Inv.kept {t' : Nat} (I : Inv X pins σ H s) (k : ∀ b u, s.heap.get? b = some u → h'.get? b = some u) : Inv X pins σ H { s with heap := h', toks := t' } := I.un (Un.kept k) (I.hok.kept k)
theorem Inv.laid {a : Addr} {o : HO} {t' : Nat} (I : Inv X pins σ H s) (k : ∀ b u, s.heap.get? b = some u → h'.get? b = some u) (hp : s.heap.objs.size ≤ a) (new : ObjOk X.prog X.w (upd H a o) h' a o) :
    Inv X pins σ (upd H a o) { s with heap := h', toks := t' } := I.un (Un.laid k hp (I.hok.fresh hp)) (I.hok.laid k hp new)
theorem Inv.write {x e : Addr} {o : HO} {t' : Nat} (I : Inv X pins σ H s) (mu : Mut (H x)) (he : e = x ∨ H e = some (.own x)) (k : ∀ b u, b ≠ e → s.heap.get? b = some u → h'.get? b = some u) (heo : ∃ u, h'.get? e = some u)
    (new : ObjOk X.prog X.w (upd H x o) h' x o) : Inv X pins σ (upd H x o) { s with heap := h', toks := t' } := I.un (Un.write mu he k heo) (I.hok.write mu he k heo new)
theorem Inv.pins_of {pins' : List (Addr × Obj)} (I : Inv X pins σ H s) (h : ∀ p ∈ pins', s.heap.get? p.1 = some p.2 ∧ H p.1 = none ∧ p.1 ≠ X.env.locals ∧ p.1 ∉ X.fs ∧ ∀ v, p.2.data ≠ .cell v) : Inv X pins' σ H s :=
  ⟨I.ok, I.os, I.bare, I.base, I.loc, I.cell, I.free, I.freeC, fun p hp => (List.mem_append.mp hp).elim (fun z => I.pin p (List.mem_append_left _ z)) (h p), I.hok, I.len⟩
theorem nodup_ix {N : List Str} (hN : N.Nodup) {i j : Nat} {x : Str} (a : N[i]? = some x) (b : N[j]? = some x) : i = j := by
  obtain ⟨h1, e1⟩ := List.getElem?_eq_some_iff.mp a
  obtain ⟨h2, e2⟩ := List.getElem?_eq_some_iff.mp b
  exact (List.getElem_inj hN).mp (e1.trans e2.symm)
theorem store_ok2 {M : Model} {A : Around} {E : Value → Shared → Prop} {i : Nat} {x : Str} {v : V} {u : Value} {Q : Unit → Shared → Prop} (I : Inv X pins σ H s) (hN : X.N.Nodup) (hi : X.N[i]? = some x) (hx : Loc X.env.scope x) (r : RelV v u)
    (h : ∀ s', Inv X pins (σ.set i (some v)) H s' → (∃ a, Heap.SameBut a s.heap s'.heap ∧ (a = X.env.locals ∨ X.env.cells.lookup x = some a)) → Q () s') (hf : X.fn x = true ∨ X.env.scope.names.lookup x = some .local := by first | exact .inl rfl | exact .inr rfl | assumption) : wpAny M A (storeName X.env x u) Q E s := by
  obtain ⟨m, hn, hl⟩ := id I.loc
  have hcls : (X.env.scope.kind == .class || (X.env.scope.kind == .module && X.env.locals != X.env.globals)) = false := by rw [I.ok.kind]; rfl
  have hiσ : i < σ.length := by rw [I.len]; exact (List.getElem?_eq_some_iff.mp hi).1
  have cne := I.cne
  have tracked : ∀ {a : Addr} {h' : Heap}, (∃ o, s.heap.get? a = some o ∧ H a = none) → Heap.SameBut a s.heap h' → HOk X.prog X.w H h' := fun {a h'} ha hs b ob e => by
    obtain ⟨_, _, hfree⟩ := ha
    refine (I.hok b ob e).stay (fun c w' hc q => (hs.2 c ?_).trans q) (fun _ q => q) fun _ _ q => q
    rintro rfl
    rcases hc with rfl | hc
    · rw [hfree] at e; cases e
    · rw [hfree] at hc; cases hc
  rcases hx with hk | hk
  · refine wpAny_storeName_local hk hn (fun h' hn' hs => ?_) hcls
    obtain ⟨oL, _, _, hoL, _⟩ := id hn
    refine h _ ⟨I.ok, I.os, I.bare, ⟨fun b o e n hb hx => ?_, fun b o e n hb hx => ?_, I.base.free, fun b o e hx => ?_, I.base.tups, I.base.frzs, I.base.tbls⟩, ⟨_, hn', fun j y v' e1 e2 e3 => ?_⟩, fun y c e => ?_, I.free, I.freeC, fun p hp => ?_, tracked ⟨oL, hoL, I.free⟩ hs, by simpa using I.len⟩ ⟨_, hs, .inl rfl⟩
    · exact (hs.2 b (Nat.ne_of_lt (Nat.lt_of_lt_of_le (Heap.lt_size e) I.ok.above))).trans (I.base.keep b o e n hb hx)
    · obtain ⟨sl, e1⟩ := I.base.slot b o e n hb hx
      exact ⟨sl, (hs.2 b (Nat.ne_of_lt (Nat.lt_of_lt_of_le (Heap.lt_size e) I.ok.above))).trans e1⟩
    · obtain ⟨o', e1⟩ := I.base.there b o e hx
      exact ⟨o', (hs.2 b (Nat.ne_of_lt (Nat.lt_of_lt_of_le (Heap.lt_size e) I.ok.above))).trans e1⟩
    · by_cases hj : j = i
      · subst hj
        rw [hi] at e1; cases e1
        rw [List.getElem?_set_self hiσ] at e2
        cases e2
        exact ⟨u, r, .inl ⟨hk, by simp⟩⟩
      · rw [List.getElem?_set_ne (Ne.symm hj)] at e2
        obtain ⟨u', r', q⟩ := hl j y v' e1 e2 e3
        refine ⟨u', r', ?_⟩
        rcases q with ⟨k, e⟩ | ⟨k, c, e, z⟩
        · refine .inl ⟨k, ?_⟩
          have : y ≠ x := fun e => hj (nodup_ix hN e1 (e ▸ hi))
          simp [this, e]
        · exact .inr ⟨k, c, e, z.sameBut hs (cne y c e)⟩
    · obtain ⟨w', z⟩ := I.cell y c e
      exact ⟨w', z.sameBut hs (cne y c e)⟩
    · obtain ⟨e, n, ne, nf, d⟩ := I.pin p hp
      exact ⟨(hs.2 p.1 ne).trans e, n, ne, nf, d⟩
  · have hfn : X.fn x = true := by
      rcases hf with z | z
      · exact z
      · rw [z] at hk; cases hk
    obtain ⟨c, hc⟩ := I.ok.has x (.inl hk)
    obtain ⟨w', z⟩ := I.cell x c hc
    refine wpAny_storeName_cell I.ok.kind hk hc z (fun h' hc' hs => ?_)
    obtain ⟨oc, hoc, hocd⟩ := id z
    refine h { s with heap := h' } ⟨I.ok, I.os, I.bare, ⟨fun b o e n hb hx => ?_, fun b o e n hb hx => ?_, I.base.free, fun b o e hx => ?_, I.base.tups, I.base.frzs, I.base.tbls⟩, ⟨m, hn.sameBut hs (Ne.symm (cne x c hc)), fun j y v' e1 e2 e3 => ?_⟩, fun y c' e => ?_, I.free, I.freeC, fun p hp => ?_, tracked ⟨oc, hoc, I.freeC x c hc⟩ hs, by simpa using I.len⟩ ⟨c, hs, .inr hc⟩
    · exact (hs.2 b (Nat.ne_of_lt (Nat.lt_of_lt_of_le (Heap.lt_size e) (I.ok.cab x c hfn hc)))).trans (I.base.keep b o e n hb hx)
    · obtain ⟨sl, e1⟩ := I.base.slot b o e n hb hx
      exact ⟨sl, (hs.2 b (Nat.ne_of_lt (Nat.lt_of_lt_of_le (Heap.lt_size e) (I.ok.cab x c hfn hc)))).trans e1⟩
    · obtain ⟨o', e1⟩ := I.base.there b o e hx
      exact ⟨o', (hs.2 b (Nat.ne_of_lt (Nat.lt_of_lt_of_le (Heap.lt_size e) (I.ok.cab x c hfn hc)))).trans e1⟩
    · by_cases hj : j = i
      · subst hj
        rw [hi] at e1; cases e1
        rw [List.getElem?_set_self hiσ] at e2
        cases e2
        exact ⟨u, r, .inr ⟨.inl hk, c, hc, hc'⟩⟩
      · rw [List.getElem?_set_ne (Ne.symm hj)] at e2
        obtain ⟨u', r', q⟩ := hl j y v' e1 e2 e3
        refine ⟨u', r', ?_⟩
        rcases q with q | ⟨k, c', e, z'⟩
        · exact .inl q
        · refine .inr ⟨k, c', e, z'.sameBut hs ?_⟩
          rintro rfl
          exact hj (nodup_ix hN e1 (I.ok.inj _ _ _ e hc ▸ hi))
    · by_cases hcc : c' = c
      · subst hcc; exact ⟨_, hc'⟩
      · obtain ⟨w2, z2⟩ := I.cell y c' e
        exact ⟨w2, z2.sameBut hs hcc⟩
    · obtain ⟨e, n, ne, nf, d⟩ := I.pin p hp
      refine ⟨(hs.2 p.1 ?_).trans e, n, ne, nf, d⟩
      intro q
      rw [q, hoc] at e
      have q' : oc = p.2 := Option.some.inj e
      exact d w' (by rw [← q']; exact hocd)
theorem store_ok {M : Model} {A : Around} {E : Value → Shared → Prop} {i : Nat} {x : Str} {v : V} {u : Value} {Q : Unit → Shared → Prop} (I : Inv X pins σ H s) (hN : X.N.Nodup) (hi : X.N[i]? = some x) (hx : Loc X.env.scope x) (r : RelV v u)
    (h : ∀ s', Inv X pins (σ.set i (some v)) H s' → Q () s') (hf : X.fn x = true ∨ X.env.scope.names.lookup x = some .local := by first | exact .inl rfl | exact .inr rfl | assumption) : wpAny M A (storeName X.env x u) Q E s :=
  store_ok2 I hN hi hx r (fun s' I' _ => h s' I') hf
theorem Inv.call' {s' : Shared} {ch : List Addr} (I : Inv X pins σ H s) (ho : s'.os = s.os) (u : Un (frs X.stack) ch H H' s.heap s'.heap) (hok : HOk X.prog X.w H' s'.heap) (hg : AllBare s'.gens)
    (hch : ∀ b ∈ ch, (b ∈ X.ex ∨ X.s₀.heap.objs.size ≤ b) ∧ b ≠ X.env.locals ∧ (∀ x c, X.env.cells.lookup x = some c → c ≠ b) ∧ ∀ p ∈ X.pn ++ pins, p.1 ≠ b) : Inv X pins σ H' s' := by
  obtain ⟨h', g', d', t', o'⟩ := s'
  have e : o' = s.os := ho
  subst e
  exact I.call (g' := g') (t' := t') (d' := d') u hok hg hch
end
abbrev XK := Value → Option Addr → Hp → Prop
abbrev St := List (Option V)
abbrev VK := V → Hp → Prop
abbrev TE := St → Hp → VK → Prop
abbrev TT := St → Hp → (Bool → Hp → Prop) → Prop
abbrev TA := St → Hp → (List V → Hp → Prop) → Prop
structure Ends where
  nx : St → Hp → Prop
  rt : VK
  bk : St → Hp → Prop := fun _ _ => False
  ct : St → Hp → Prop := fun _ _ => False
abbrev TS := Ends → St → Hp → Prop
def EP (X : Cx) (pins : List (Addr × Obj)) (σ : St) (Q : VK) (u : Value) (s' : Shared) : Prop := ∃ v H', Inv X pins σ H' s' ∧ RelV v u ∧ Q v H'
def TP (X : Cx) (pins : List (Addr × Obj)) (σ : St) (Q : Bool → Hp → Prop) (b : Bool) (s' : Shared) : Prop := ∃ H', Inv X pins σ H' s' ∧ Q b H'
def AP (X : Cx) (pins : List (Addr × Obj)) (σ : St) (Q : List V → Hp → Prop) (us : List Value) (s' : Shared) : Prop := ∃ vs H', Inv X pins σ H' s' ∧ Vals vs us ∧ Q vs H'
def SP (X : Cx) (pins : List (Addr × Obj)) (D : Ends) (f : Flow) (s' : Shared) : Prop :=
  match f with
  | .next => ∃ σ' H', Inv X pins σ' H' s' ∧ D.nx σ' H'
  | .brk => ∃ σ' H', Inv X pins σ' H' s' ∧ D.bk σ' H'
  | .cont => ∃ σ' H', Inv X pins σ' H' s' ∧ D.ct σ' H'
  | .ret u => ∃ v σ' H', Inv X pins σ' H' s' ∧ RelV v u ∧ D.rt v H'
def PE (X : Cx) (e : Expr) (t : TE) : Prop :=
  ∀ (pins : List (Addr × Obj)) (s : Shared) (σ : St) (H : Hp) (Q : VK), Inv X pins σ H s → t σ H Q → wpAny (model X.prog X.w) X.A (eval e X.env) (EP X pins σ Q) X.xe s
def PT (X : Cx) (e : Expr) (t : TT) : Prop :=
  ∀ (pins : List (Addr × Obj)) (s : Shared) (σ : St) (H : Hp) (Q : Bool → Hp → Prop), Inv X pins σ H s → t σ H Q → wpAny (model X.prog X.w) X.A (isTrue e X.env (eval e X.env)) (TP X pins σ Q) X.xe s
def PW (X : Cx) (e : Expr) (t : TT) : Prop :=
  ∀ (whole : Sem Value) (pins : List (Addr × Obj)) (s : Shared) (σ : St) (H : Hp) (Q : Bool → Hp → Prop), Inv X pins σ H s → t σ H Q → wpAny (model X.prog X.w) X.A (isTrue e X.env whole) (TP X pins σ Q) X.xe s
theorem PW.pt {X : Cx} {e : Expr} {t : TT} (h : PW X e t) : PT X e t := h _
def PA (X : Cx) (es : List Expr) (t : TA) : Prop :=
  ∀ (pos : Pos) (pins : List (Addr × Obj)) (s : Shared) (σ : St) (H : Hp) (Q : List V → Hp → Prop), Inv X pins σ H s → t σ H Q → wpAny (model X.prog X.w) X.A (spliced (backTo pos (starEach es X.env))) (AP X pins σ Q) X.xe s
def PS (X : Cx) (st : Stmt) (t : TS) : Prop :=
  ∀ (pins : List (Addr × Obj)) (s : Shared) (σ : St) (H : Hp) (D : Ends), Inv X pins σ H s → t D σ H → wpAny (model X.prog X.w) X.A (exec st X.env) (SP X pins D) X.xe s
def PSs (X : Cx) (st : List Stmt) (t : TS) : Prop :=
  ∀ (pins : List (Addr × Obj)) (s : Shared) (σ : St) (H : Hp) (D : Ends), Inv X pins σ H s → t D σ H → wpAny (model X.prog X.w) X.A (execs st X.env) (SP X pins D) X.xe s
theorem thn {α : Type} {t : Sem α} {Q Q' : α → Shared → Prop} {M : Model} {A : Around} {E : Value → Shared → Prop} {s : Shared} (h : wpAny M A t Q E s) (hQ : ∀ a s, Q a s → Q' a s) : wpAny M A t Q' E s := wpAny_mono h hQ fun _ _ x => x
end L2
namespace L2
open PySem PySem.Spec PyProof.Rows
section
variable {X : Cx}
theorem bin {a b : Expr} {ta tb : TE} (ha : PE X a ta) (hb : PE X b tb) {pins : List (Addr × Obj)} {s : Shared} {σ : St} {H : Hp} {R : V → V → Hp → Prop} (I : Inv X pins σ H s) (h : ta σ H fun x H1 => tb σ H1 fun y H2 => R x y H2)
    {α : Type} {Q : α → Shared → Prop} {f : Value → Value → Sem α}
    (hf : ∀ v u s2 x y H2, Inv X pins σ H2 s2 → RelV x v → RelV y u → R x y H2 → wpAny (model X.prog X.w) X.A (f v u) Q X.xe s2) :
    wpAny (model X.prog X.w) X.A (eval a X.env) (fun v s₁ => wpAny (model X.prog X.w) X.A (eval b X.env) (fun u s₂ => wpAny (model X.prog X.w) X.A (f v u) Q X.xe s₂) X.xe s₁) X.xe s := by
  refine thn (ha pins s σ H _ I h) fun v s1 ⟨x, H1, I1, r1, q1⟩ => ?_
  refine thn (hb pins s1 σ H1 _ I1 q1) fun u s2 ⟨y, H2, I2, r2, q2⟩ => ?_
  exact hf v u s2 x y H2 I2 r1 r2 q2
def tVar (i : Nat) : TE := fun σ H Q => ∃ v, σ[i]? = some (some v) ∧ Q v H
def tC (v : V) : TE := fun _ H Q => Q v H
theorem pe_var {i : Nat} {x : Str} {pos : Pos} (hN : X.N[i]? = some x) (hv : Vis X.env.scope x) (hd : (x == ("__debug__" : Str)) = false := by decide) (hcd : (x == ("__classdict__" : Str)) = false := by decide) : PE X (.Name x pos) (tVar i) := by
  intro pins s σ H Q I h
  obtain ⟨v, e, h⟩ := h
  obtain ⟨m, hn, hl⟩ := I.loc
  obtain ⟨u, r, l⟩ := hl i x v hN e hv
  have fin : EP X pins σ Q u s := ⟨v, H, I, r, h⟩
  rcases l with ⟨hk, hm⟩ | ⟨hk, c, hc, hcell⟩
  · exact wpAny_Name (wpAny_loadName_local I.ok.kind hk hn hm fin) hd
  · rcases hk with hk | hk
    · exact wpAny_Name (wpAny_loadName_cell I.ok.kind hk hc hcell fin) hd
    · exact wpAny_Name (wpAny_loadName_free I.ok.kind hk hc hcell fin hcd) hd
theorem pe_int {i j pos} : PE X (.Constant (.int i) j pos) (tC (.int i)) := fun _ _ _ H _ I h => wpAny_Constant_int ⟨.int i, H, I.tok _, ⟨_, rfl⟩, h⟩
theorem pe_bl {b j pos} : PE X (.Constant (.bool b) j pos) (tC (.bl b)) := fun _ _ _ H _ I h => Constant_bool ⟨.bl b, H, I, rfl, h⟩
theorem pe_non {j pos} : PE X (.Constant .none j pos) (tC .non) := fun _ _ _ H _ I h => Constant_none ⟨.non, H, I, rfl, h⟩
theorem pe_str {x j pos} : PE X (.Constant (.str x) j pos) (tC (.str x)) := fun _ _ _ H _ I h => Calls.Constant_str ⟨.str x, H, I.tok _, ⟨_, rfl⟩, h⟩
def Gl (X : Cx) (x : Str) : Prop := X.env.kindOf x = some .globalImplicit
theorem ld_glob {E : Value → Shared → Prop} {pins : List (Addr × Obj)} {s : Shared} {σ : St} {H : Hp} {x : Str} {u : Value} {pos : Pos} {Q : Value → Shared → Prop} (I : Inv X pins σ H s) (hg : Gl X x) (hm : X.mg x = some u) (h : Q u s)
    (hd : (x == ("__debug__" : Str)) = false := by decide) : wpAny (model X.prog X.w) X.A (eval (.Name x pos) X.env) Q E s :=
  Calls.Name_function_global I.ok.kind hg (Calls.loadGlobal_global (by rw [I.ok.glob]; exact I.mod.glob.keeps I.bk) hm h) hd
theorem ld_blt {E : Value → Shared → Prop} {pins : List (Addr × Obj)} {s : Shared} {σ : St} {H : Hp} {x : Str} {u : Value} {pos : Pos} {Q : Value → Shared → Prop} (I : Inv X pins σ H s) (hg : Gl X x) (hm : X.mg x = none) (hv : bootBuiltins x = some u) (h : Q u s)
    (hn : x ≠ "__name__" := by decide) (hd : (x == ("__debug__" : Str)) = false := by decide) : wpAny (model X.prog X.w) X.A (eval (.Name x pos) X.env) Q E s := by
  obtain ⟨mb, h1, h2⟩ := I.mod.blt
  exact Calls.Name_function_global I.ok.kind hg (Calls.loadGlobal_builtin (by rw [I.ok.glob]; exact I.mod.glob.keeps I.bk) hm (by rw [I.ok.blt]; exact h1.keeps I.bk) ((h2 x hn).trans hv) h) hd
theorem pe_glob {x : Str} {v : V} {u : Value} {pos : Pos} (hg : Gl X x) (hm : X.mg x = some u) (r : RelV v u) (hd : (x == ("__debug__" : Str)) = false := by decide) : PE X (.Name x pos) (tC v) :=
  fun _ _ _ H _ I h => ld_glob I hg hm ⟨v, H, I, r, h⟩ hd
theorem pe_bltn {x : Str} {v : V} {u : Value} {pos : Pos} (hg : Gl X x) (hm : X.mg x = none) (hv : bootBuiltins x = some u) (r : RelV v u) (hn : x ≠ "__name__" := by decide) (hd : (x == ("__debug__" : Str)) = false := by decide) : PE X (.Name x pos) (tC v) :=
  fun _ _ _ H _ I h => ld_blt I hg hm hv ⟨v, H, I, r, h⟩ hn hd
variable {a b : Expr} {ta tb : TE} {pos : Pos}
def PC (X : Cx) (op : CmpOp) (a b : Expr) (t : TE) : Prop :=
  ∀ (pins : List (Addr × Obj)) (s : Shared) (σ : St) (H : Hp) (Q : VK), Inv X pins σ H s → t σ H Q →
    wpAny (model X.prog X.w) X.A (eval a X.env) (fun v s₁ => wpAny (model X.prog X.w) X.A (eval b X.env) (fun u s₂ => wpAny (model X.prog X.w) X.A (compareOp op v u) (EP X pins σ Q) X.xe s₂) X.xe s₁) X.xe s
def tB (t : TE) : TT := fun σ H Q => t σ H fun x H1 => ∃ c, x = .bl c ∧ Q c H1
theorem pt_cmp {op : CmpOp} {t : TE} (h : PC X op a b t) (h1 : behindInMarks op b = false := by first | exact nobehind _ (by decide) (by decide) | rfl) : PT X (.Compare a [op] [b] pos) (tB t) := by
  intro pins s σ H Q I hw
  refine wpAny_isTrue_Compare1 (thn (h pins s σ H _ I hw) fun v s1 h1 => thn h1 fun u s2 h2 => thn h2 fun c s3 ⟨x, H1, I1, r1, q1⟩ => ?_) h1
  obtain ⟨d, rfl, q⟩ := q1
  cases r1
  exact wpAny_truthy_bool ⟨H1, I1, q⟩
theorem pt_val {e : Expr} {t : TE} (h : PE X e t) (he : ∀ whole, isTrue e X.env whole = (do let v ← whole; standAt e.pos; holding [v] (truthy v)) := by intro _; rfl) : PT X e (tB t) := by
  intro pins s σ H Q I hw
  refine isTrue_plain (thn (h pins s σ H _ I hw) fun v s1 ⟨x, H1, I1, r1, q1⟩ => ?_) (he _)
  obtain ⟨d, rfl, q⟩ := q1
  cases r1
  exact wpAny_truthy_bool ⟨H1, I1, q⟩
variable {tA tB' : TT} {rest : List Expr}
def tAnd (t u : TT) : TT := fun σ H Q => t σ H fun c H1 => if c = true then u σ H1 Q else Q false H1
def tOr (t u : TT) : TT := fun σ H Q => t σ H fun c H1 => if c = true then Q true H1 else u σ H1 Q
def tNot (t : TT) : TT := fun σ H Q => t σ H fun c H1 => Q (!c) H1
theorem pw_and1 (ha : PT X a tA) : PW X (.BoolOp .And [a] pos) tA := by
  intro wh pins s σ H Q I h
  refine isTrue_and (thn (ha pins s σ H Q I h) fun c s1 e => ?_)
  cases c with
  | true => exact isTrue_and_nil e
  | false => exact e
theorem pw_or1 (ha : PT X a tA) : PW X (.BoolOp .Or [a] pos) tA := by
  intro wh pins s σ H Q I h
  refine isTrue_or (thn (ha pins s σ H Q I h) fun c s1 e => ?_)
  cases c with
  | false => exact isTrue_or_nil e
  | true => exact e
theorem pw_and (ha : PT X a tA) (hb : PW X (.BoolOp .And (b :: rest) pos) tB') : PW X (.BoolOp .And (a :: b :: rest) pos) (tAnd tA tB') := by
  intro wh pins s σ H Q I h
  refine isTrue_and (thn (ha pins s σ H _ I h) fun c s1 ⟨H1, I1, q1⟩ => ?_)
  cases c with
  | true => exact hb wh pins s1 σ H1 Q I1 q1
  | false => exact ⟨H1, I1, q1⟩
theorem pw_or (ha : PT X a tA) (hb : PW X (.BoolOp .Or (b :: rest) pos) tB') : PW X (.BoolOp .Or (a :: b :: rest) pos) (tOr tA tB') := by
  intro wh pins s σ H Q I h
  refine isTrue_or (thn (ha pins s σ H _ I h) fun c s1 ⟨H1, I1, q1⟩ => ?_)
  cases c with
  | true => exact ⟨H1, I1, q1⟩
  | false => exact hb wh pins s1 σ H1 Q I1 q1
theorem pt_not (ha : PT X a tA) : PT X (.UnaryOp .Not a pos) (tNot tA) := by
  intro pins s σ H Q I h
  exact isTrue_not (ha pins s σ H (fun c H1 => Q (!c) H1) I h)
def tAndV (ta tb : TE) : TE := fun σ H Q => ta σ H fun x H1 => ∃ c, x = .bl c ∧ if c = true then tb σ H1 Q else Q (.bl false) H1
def tOrV (ta tb : TE) : TE := fun σ H Q => ta σ H fun x H1 => ∃ c, x = .bl c ∧ if c = true then Q (.bl true) H1 else tb σ H1 Q
theorem pe_one {op} {t : TE} (h : PE X a t) : PE X (.BoolOp op [a] pos) t := fun pins s σ H Q I hw => BoolOp_one (h pins s σ H Q I hw)
theorem pe_and (ha : PE X a ta) (hb : PE X (.BoolOp .And (b :: rest) pos) tb) : PE X (.BoolOp .And (a :: b :: rest) pos) (tAndV ta tb) := by
  intro pins s σ H Q I h
  refine BoolOp_and (thn (ha pins s σ H _ I h) fun v s1 ⟨x, H1, I1, r1, q1⟩ => ?_)
  obtain ⟨c, rfl, q1⟩ := q1
  cases r1
  refine wpAny_truthy_bool ?_
  cases c with
  | true => exact hb pins s1 σ H1 Q I1 q1
  | false => exact ⟨.bl false, H1, I1, rfl, q1⟩
theorem pe_or (ha : PE X a ta) (hb : PE X (.BoolOp .Or (b :: rest) pos) tb) : PE X (.BoolOp .Or (a :: b :: rest) pos) (tOrV ta tb) := by
  intro pins s σ H Q I h
  refine BoolOp_or (thn (ha pins s σ H _ I h) fun v s1 ⟨x, H1, I1, r1, q1⟩ => ?_)
  obtain ⟨c, rfl, q1⟩ := q1
  cases r1
  refine wpAny_truthy_bool ?_
  cases c with
  | false => exact hb pins s1 σ H1 Q I1 q1
  | true => exact ⟨.bl true, H1, I1, rfl, q1⟩
def tIf (t : TT) (ta tb : TE) : TE := fun σ H Q => t σ H fun c H1 => if c = true then ta σ H1 Q else tb σ H1 Q
theorem pe_ifExp {c : Expr} (hc : PT X c tA) (ha : PE X a ta) (hb : PE X b tb) : PE X (.IfExp c a b pos) (tIf tA ta tb) := by
  intro pins s σ H Q I h
  refine wpAny_IfExp (thn (hc pins s σ H _ I h) fun d s1 ⟨H1, I1, q1⟩ => ?_)
  cases d with
  | true => exact ha pins s1 σ H1 Q I1 q1
  | false => exact hb pins s1 σ H1 Q I1 q1
end
end L2
namespace L2
open PySem PySem.Spec PyProof.Rows
def SqL (K : PySem.W.Frag) (H : Hp) (a : Addr) (xs : List V) : Prop :=
  Rd H a (.lst xs) ∨
    ∃ (o : Obj) (its : Array Value) (n : Nat), K.lookup a = some o ∧ o.cls = .type "list" ∧ o.dict = none ∧ o.data = .seq its n ∧ its.size ≤ sizeLine ∧ Vals xs its.toList
def SqT (K : PySem.W.Frag) (H : Hp) (a : Addr) (xs : List V) : Prop :=
  Rd H a (.tup xs) ∨
    ∃ (o : Obj) (its : Array Value) (n : Nat), K.lookup a = some o ∧ o.cls = .type "tuple" ∧ o.data = .seq its n ∧ its.size ≤ sizeLine ∧ Vals xs its.toList
def absV : Value → Option V
  | .none => some .non
  | .bool b => some (.bl b)
  | .int i _ => some (.int i)
  | .str x _ => some (.str x)
  | .bytes b _ => some (.byt b)
  | .float b _ => some (.flt b)
  | .ref a => some (.ref a)
  | .type n => some (.ty n)
  | _ => none
theorem RelV.abs {x : V} {u : Value} (r : RelV x u) : absV u = some x := by
  cases x with
  | non => cases r; rfl
  | bl _ => cases r; rfl
  | int _ => obtain ⟨t, rfl⟩ := r; rfl
  | str _ => obtain ⟨t, rfl⟩ := r; rfl
  | byt _ => obtain ⟨t, rfl⟩ := r; rfl
  | flt _ => obtain ⟨t, rfl⟩ := r; rfl
  | ref _ => cases r; rfl
  | ty _ => cases r; rfl
theorem RelV.inj {x y : V} {u : Value} (r : RelV x u) (q : RelV y u) : x = y := Option.some.inj (r.abs.symm.trans q.abs)
theorem Vals.inj : ∀ {xs ys : List V} {us : List Value}, Vals xs us → Vals ys us → xs = ys
  | _, _, _, .nil, .nil => rfl
  | _, _, _, .cons r t, .cons r' t' => by rw [r.inj r', Vals.inj t t']
section
variable {X : Cx} {pins : List (Addr × Obj)} {σ : St} {H : Hp} {s : Shared} {a : Addr} {xs ys : List V}
theorem SqL.of {K : PySem.W.Frag} (h : H a = some (.lst xs)) : SqL K H a xs := .inl (.inl h)
theorem SqT.of {K : PySem.W.Frag} (h : H a = some (.tup xs)) : SqT K H a xs := .inl (.inl h)
theorem Inv.list (I : Inv X pins σ H s) (h : SqL X.K H a xs) : ∃ its : List Value, Vals xs its ∧ PlainL s.heap a its.toArray ∧ xs.length ≤ sizeLine := by
  rcases h with h | ⟨o, its, n, hk, hc, hd, hs, hz, r⟩
  · obtain ⟨z, its, n, r, e⟩ := h.ok I.hok
    exact ⟨its, r, ⟨_, n, e, rfl, rfl, rfl⟩, z⟩
  · refine ⟨its.toList, r, ⟨o, n, I.kIn a o hk, hc, hd, by simpa using hs⟩, ?_⟩
    have e := r.length
    simp only [Array.length_toList] at e
    omega
theorem Inv.tuple (I : Inv X pins σ H s) (h : SqT X.K H a xs) : ∃ its : List Value, Vals xs its ∧ IsTup s.heap a its.toArray ∧ xs.length ≤ sizeLine := by
  rcases h with h | ⟨o, its, n, hk, hc, hs, hz, r⟩
  · obtain ⟨z, its, r, p⟩ := h.ok I.hok
    exact ⟨its, r, p, z⟩
  · refine ⟨its.toList, r, ⟨o, I.kIn a o hk, hc, n, by simpa using hs⟩, ?_⟩
    have e := r.length
    simp only [Array.length_toList] at e
    omega
theorem Inv.list_inj (I : Inv X pins σ H s) (h : SqL X.K H a xs) (h' : SqL X.K H a ys) : xs = ys := by
  obtain ⟨its, r, ⟨o, n, e, _, _, d⟩, _⟩ := I.list h
  obtain ⟨its', r', ⟨o', n', e', _, _, d'⟩, _⟩ := I.list h'
  rw [e] at e'; cases e'
  rw [d] at d'
  injection d' with d1 _
  have : its = its' := by simpa using congrArg Array.toList d1
  subst this
  exact r.inj r'
end
abbrev Cx.wish (X : Cx) (E : Value → Shared → Prop) : Cx := { X with xe := E }
abbrev Cx.nox (X : Cx) : Cx := X.wish fun _ _ => False
theorem Cx.Ok.wish {X : Cx} (ok : X.Ok) (E : Value → Shared → Prop) : (X.wish E).Ok :=
  ⟨ok.mod, ok.kind, ok.glob, ok.blt, ok.above, ok.inj, ok.has, ok.cab, ok.hd, ok.frames, ok.stk, ok.exf, ok.bs, ok.bsz, ok.noex, ok.exfs, ok.funs, ok.frf⟩
theorem Cx.Ok.unwish {X : Cx} {E : Value → Shared → Prop} (ok : (X.wish E).Ok) : X.Ok :=
  ⟨ok.mod, ok.kind, ok.glob, ok.blt, ok.above, ok.inj, ok.has, ok.cab, ok.hd, ok.frames, ok.stk, ok.exf, ok.bs, ok.bsz, ok.noex, ok.exfs, ok.funs, ok.frf⟩
section
variable {X : Cx} {pins : List (Addr × Obj)} {σ : St} {H : Hp} {s : Shared} {E : Value → Shared → Prop}
theorem Inv.wish (I : Inv X pins σ H s) (E : Value → Shared → Prop) : Inv (X.wish E) pins σ H s := ⟨I.ok.wish E, I.os, I.bare, I.base, I.loc, I.cell, I.free, I.freeC, I.pin, I.hok, I.len⟩
theorem Inv.unwish (I : Inv (X.wish E) pins σ H s) : Inv X pins σ H s := ⟨I.ok.unwish, I.os, I.bare, I.base, I.loc, I.cell, I.free, I.freeC, I.pin, I.hok, I.len⟩
theorem SP.unwish {D : Ends} {f : Flow} {s' : Shared} (h : SP (X.wish E) pins D f s') : SP X pins D f s' := by
  cases f with
  | next => obtain ⟨σ', H', I, q⟩ := h; exact ⟨σ', H', I.unwish, q⟩
  | brk => obtain ⟨σ', H', I, q⟩ := h; exact ⟨σ', H', I.unwish, q⟩
  | cont => obtain ⟨σ', H', I, q⟩ := h; exact ⟨σ', H', I.unwish, q⟩
  | ret u => obtain ⟨v, σ', H', I, r, q⟩ := h; exact ⟨v, σ', H', I.unwish, r, q⟩
theorem PSs.nox {st : List Stmt} {t : TS} (h : PSs X.nox st t) : PSs X st t := fun pins s σ H D I hw =>
  wpAny_mono (h pins s σ H D (I.wish _) hw) (fun _ _ q => q.unwish) fun _ _ z => False.elim z
end
section
variable {X : Cx} {st : Stmt} {rest : List Stmt} {t u : TS} {e : Expr} {te : TE} {pos : Pos}
def tNext : TS := fun D σ H => D.nx σ H
def tSeq (t u : TS) : TS := fun D σ H => t { D with nx := u D } σ H
theorem pss_nil : PSs X [] tNext := fun _ _ σ H _ I h => wpAny_execs_nil ⟨σ, H, I, h⟩
theorem pss_cons (h1 : PS X st t) (h2 : PSs X rest u) : PSs X (st :: rest) (tSeq t u) := by
  intro pins s σ H D I h
  refine wpAny_execs_cons (thn (h1 pins s σ H { D with nx := u D } I h) fun f s1 q => ?_)
  cases f with
  | next =>
    obtain ⟨σ', H', I', q⟩ := q
    exact h2 pins s1 σ' H' D I' q
  | ret v => exact q
  | brk => exact q
  | cont => exact q
theorem pss_one (h1 : PS X st t) : PSs X [st] t := by
  intro pins s σ H D I h
  refine wpAny_execs_cons (thn (h1 pins s σ H D I h) fun f s1 q => ?_)
  cases f with
  | next => exact wpAny_execs_nil q
  | ret v => exact q
  | brk => exact q
  | cont => exact q
theorem Inv.quiet {pins : List (Addr × Obj)} {σ : St} {H : Hp} {s : Shared} (I : Inv X pins σ H s) : interactive X.env = false := by simp [interactive, I.ok.kind]
def tDrop (te : TE) : TS := fun D σ H => te σ H fun _ H1 => D.nx σ H1
theorem ps_expr (he : PE X e te) (hs : swapsWith e none pos.line X.env = pure false := by rfl) : PS X (.Expr e pos) (tDrop te) := by
  intro pins s σ H D I h
  exact wpAny_Expr_any (thn (he pins s σ H _ I h) fun v s1 ⟨x, H1, I1, r1, q1⟩ => ⟨σ, H1, I1, q1⟩) I.quiet hs
def tRet (te : TE) : TS := fun D σ H => te σ H D.rt
theorem ps_ret (he : PE X e te) : PS X (.Return (some e) pos) (tRet te) := by
  intro pins s σ H D I h
  exact wpAny_Return_some (thn (he pins s σ H _ I h) fun v s1 ⟨x, H1, I1, r1, q1⟩ => ⟨x, σ, H1, I1, r1, q1⟩)
def tIfS (c : TT) (t u : TS) : TS := fun D σ H => c σ H fun b H1 => if b = true then t D σ H1 else u D σ H1
theorem ps_if {c : Expr} {a b : List Stmt} {tc : TT} (hc : PT X c tc) (ha : PSs X a t) (hb : PSs X b u) : PS X (.If c a b pos) (tIfS tc t u) := by
  intro pins s σ H D I h
  refine wpAny_If (thn (hc pins s σ H _ I h) fun d s1 ⟨H1, I1, q1⟩ => ?_)
  cases d with
  | true => exact ha pins s1 σ H1 D I1 q1
  | false => exact hb pins s1 σ H1 D I1 q1
def tNever : TS := fun _ _ _ => False
theorem pss_never {sts : List Stmt} : PSs X sts tNever := fun _ _ _ _ _ _ h => h.elim
end
abbrev TG := V → St → Hp → (St → Hp → Prop) → Prop
abbrev TGs := List V → St → Hp → (St → Hp → Prop) → Prop
def PG (X : Cx) (target : Expr) (t : TG) : Prop :=
  ∀ (pins : List (Addr × Obj)) (s : Shared) (σ : St) (H : Hp) (v : V) (u : Value) (Q : St → Hp → Prop), Inv X pins σ H s → RelV v u → t v σ H Q →
    wpAny (model X.prog X.w) X.A (assign target X.env u) (fun _ s' => ∃ σ' H', Inv X pins σ' H' s' ∧ Q σ' H') X.xe s
def PGs (X : Cx) (ts : List Expr) (t : TGs) : Prop :=
  ∀ (pins : List (Addr × Obj)) (s : Shared) (σ : St) (H : Hp) (vs : List V) (us : List Value) (Q : St → Hp → Prop), Inv X pins σ H s → Vals vs us → t vs σ H Q →
    wpAny (model X.prog X.w) X.A (assignInOrder ((assignEach ts X.env).map (·.2)) us) (fun _ s' => ∃ σ' H', Inv X pins σ' H' s' ∧ Q σ' H') X.xe s
abbrev TSet := V → V → V → Hp → (Hp → Prop) → Prop
def PSet (X : Cx) (t : TSet) : Prop :=
  ∀ (pins : List (Addr × Obj)) (s : Shared) (σ : St) (H : Hp) (o i v : V) (ov iv u : Value) (Q : Hp → Prop), Inv X pins σ H s → RelV o ov → RelV i iv → RelV v u → t o i v H Q →
    wpAny (model X.prog X.w) X.A (setItem ov iv u) (fun _ s' => ∃ H', Inv X pins σ H' s' ∧ Q H') X.xe s
section
variable {X : Cx} {pos : Pos}
def gName (i : Nat) : TG := fun v σ H Q => Q (σ.set i (some v)) H
theorem pg_name {i : Nat} {x : Str} (hN : X.N.Nodup) (hi : X.N[i]? = some x) (hx : Loc X.env.scope x) (hf : X.fn x = true ∨ X.env.scope.names.lookup x = some .local := by first | exact .inl rfl | exact .inr rfl | assumption) : PG X (.Name x pos) (gName i) := by
  intro pins s σ H v u Q I r h
  exact wpAny_assign_Name (store_ok I hN hi hx r (fun s' I' => ⟨_, H, I', h⟩) hf)
def gNil : TGs := fun vs σ H Q => vs = [] ∧ Q σ H
def gCons (t : TG) (u : TGs) : TGs := fun vs σ H Q => ∃ v r, vs = v :: r ∧ t v σ H fun σ' H' => u r σ' H' Q
theorem pgs_nil : PGs X [] gNil := by
  intro pins s σ H vs us Q I r h
  obtain ⟨e, h⟩ := h
  subst e
  cases r
  exact assignInOrder_nil ⟨σ, H, I, h⟩
theorem pgs_cons {e : Expr} {es : List Expr} {t : TG} {u : TGs} (h1 : PG X e t) (h2 : PGs X es u)
    (hs : (assignEach (e :: es) X.env).map (·.2) = assign e X.env :: (assignEach es X.env).map (·.2) := by rfl) : PGs X (e :: es) (gCons t u) := by
  intro pins s σ H vs us Q I r h
  obtain ⟨v, vr, e1, h⟩ := h
  subst e1
  cases r with
  | cons r rr =>
    rw [hs]
    refine assignInOrder_cons (thn (h1 pins s σ H _ _ _ I r h) fun _ s1 ⟨σ1, H1, I1, q1⟩ => ?_)
    exact h2 pins s1 σ1 H1 _ _ Q I1 rr q1
def gTup (K : PySem.W.Frag) (n : Nat) (t : TGs) : TG := fun v σ H Q => ∃ a xs, v = .ref a ∧ SqT K H a xs ∧ xs.length = n ∧ t xs σ H Q
theorem pg_tup {es : List Expr} {k : Nat} {t : TGs} {n : Nat} (hc : X.calm = true) (h : PGs X es t)
    (hn : (assignEach es X.env).length = n := by rfl) (hst : (assignEach es X.env).findIdx? (·.1) = none := by rfl) : PG X (.Tuple es k pos) (gTup X.K n t) := by
  intro pins s σ H v u Q I r hw
  obtain ⟨a, xs, e1, hq, hl, hw⟩ := hw
  subst e1
  cases r
  obtain ⟨its, rv, ht, hz⟩ := I.tuple hq
  refine assign_Tuple_tuple (I.ok.hd hc) ht (by simp [hn, ← hl, rv.length]) hst fun h' hx => ?_
  have I1 : Inv X pins σ H { s with heap := h' } := I.kept (t' := s.toks) fun b o e => hx b o (Nat.ne_of_lt (Heap.lt_size e)) e
  exact h pins _ σ H xs _ Q I1 (by simpa using rv) hw
def gSub (to ti : TE) (t : TSet) : TG := fun v σ H Q => to σ H fun o H1 => ti σ H1 fun i H2 => t o i v H2 fun H3 => Q σ H3
theorem pg_sub {o i : Expr} {to ti : TE} {t : TSet} (ho : PE X o to) (hi : PE X i ti) (hs : PSet X t)
    (ha : ∀ v, assign (.Subscript o i pos) X.env v = (do
      let ov ← holding [v] (eval o X.env)
      let iv ← holding [v, ov] (eval i X.env)
      standAt pos
      holding [v, ov, iv] (setItem ov iv v)
      release [v, ov, iv] []) := by intro _; rfl) : PG X (.Subscript o i pos) (gSub to ti t) := by
  intro pins s σ H v u Q I r h
  rw [ha]
  refine wpAny_bind (wpAny_holding (thn (ho pins s σ H _ I h) fun ov s1 ⟨x, H1, I1, r1, q1⟩ => ?_))
  refine wpAny_bind (wpAny_holding (thn (hi pins s1 σ H1 _ I1 q1) fun iv s2 ⟨y, H2, I2, r2, q2⟩ => ?_))
  refine wpAny_bind (wpAny_standAt (wpAny_bind (wpAny_holding (thn (hs pins s2 σ H2 x y v ov iv u _ I2 r1 r2 r q2) fun _ s3 ⟨H3, I3, q3⟩ => ?_))))
  exact wpAny_release ⟨σ, H3, I3, q3⟩
def tAsg (te : TE) (g : TG) : TS := fun D σ H => te σ H fun x H1 => g x σ H1 D.nx
theorem ps_asg {tg e : Expr} {te : TE} {g : TG} (he : PE X e te) (hg : PG X tg g) (hs : swapsWithSole [tg] e pos.line X.env = pure false := by rfl) (hw : swappedStores [tg] e X.env = pure none := by rfl)
    (h1 : (assignEach [tg] X.env).map (·.2) = [assign tg X.env] := by rfl) : PS X (.Assign [tg] e pos) (tAsg te g) := by
  intro pins s σ H D I h
  refine wpAny_Assign_stores (thn (he pins s σ H _ I h) fun v s1 ⟨x, H1, I1, r1, q1⟩ => ?_) hs hw
  rw [h1]
  exact thn (hg pins s1 σ H1 x v _ I1 r1 q1) fun _ s2 q => q
theorem ps_set {i : Nat} {x : Str} {e : Expr} {te : TE} {pos' : Pos} (hN : X.N.Nodup) (hi : X.N[i]? = some x) (hx : Loc X.env.scope x) (he : PE X e te) (hs : swapsWith e (some (.Name x pos')) pos.line X.env = pure false := by rfl) (hf : X.fn x = true ∨ X.env.scope.names.lookup x = some .local := by first | exact .inl rfl | exact .inr rfl | assumption) :
    PS X (.Assign [.Name x pos'] e pos) (tAsg te (gName i)) := by
  intro pins s σ H D I h
  refine wpAny_Assign_Name (thn (he pins s σ H _ I h) fun v s1 ⟨y, H1, I1, r1, q1⟩ => ?_) hs
  exact store_ok I1 hN hi hx r1 (fun s2 I2 => ⟨_, H1, I2, q1⟩) hf
end
section
variable {X : Cx} {pos : Pos}
def tWhile (c : TT) (tb : TS) : TS := fun D σ H => ∃ W : Nat → St → Hp → Prop, (∃ m, W m σ H) ∧ ∀ m σ H, W m σ H →
  c σ H fun b H1 => if b = true then ∃ N : St → Hp → Prop, (∀ σ' H', N σ' H' → ∃ m', m' < m ∧ W m' σ' H') ∧ tb { D with nx := N, ct := N, bk := D.nx } σ H1 else D.nx σ H1
theorem ps_while {c : Expr} {body : List Stmt} {tc : TT} {tb : TS} (hp : PassesOwn (model X.prog X.w) X.A X.env X.xe) (hc : PT X c tc) (hb : PSs X body tb) : PS X (.While c body [] pos) (tWhile tc tb) := by
  intro pins s σ H D I h
  obtain ⟨W, ⟨m0, w0⟩, turn⟩ := h
  refine wpAny_While (codeAny_whileLoop (fun n s' => ∃ σ' H', Inv X pins σ' H' s' ∧ W n σ' H') ?_ m0 ⟨σ, H, I, w0⟩)
  rintro n s1 ⟨σ1, H1, I1, w1⟩
  refine wpAny_passesOwn hp (thn (hc pins s1 σ1 H1 _ I1 (turn n σ1 H1 w1)) fun b s2 ⟨H2, I2, q2⟩ => ?_)
  cases b with
  | true =>
    obtain ⟨N, hN, q2⟩ := q2
    rw [if_pos rfl]
    refine wpAny_passesOwn hp (thn (hb pins s2 σ1 H2 _ I2 q2) fun f s3 q3 => ?_)
    cases f with
    | next =>
      obtain ⟨σ3, H3, I3, n3⟩ := q3
      obtain ⟨m', hm, w3⟩ := hN σ3 H3 n3
      exact ⟨m', hm, σ3, H3, I3, w3⟩
    | cont =>
      obtain ⟨σ3, H3, I3, n3⟩ := q3
      obtain ⟨m', hm, w3⟩ := hN σ3 H3 n3
      exact ⟨m', hm, σ3, H3, I3, w3⟩
    | brk => exact q3
    | ret v => exact q3
  | false =>
    rw [if_neg Bool.false_ne_true]
    exact wpAny_execs_nil ⟨σ1, H2, I2, q2⟩
end
structure It where
  go : Nat → Hp → Prop
  yld : Nat → Hp → V → Hp → Prop
  stop : Nat → Hp → Prop
def FpOk (X : Cx) (pins : List (Addr × Obj)) (H : Hp) (b : Addr) : Prop :=
  H b = none ∧ b ≠ X.env.locals ∧ b ∉ X.fs ∧ (b ∈ X.ex ∨ X.s₀.heap.objs.size ≤ b) ∧ (∀ x c, X.env.cells.lookup x = some c → c ≠ b) ∧ ∀ p ∈ X.pn ++ pins, p.1 ≠ b
theorem Inv.fpOk {X : Cx} {pins : List (Addr × Obj)} {σ : St} {H H' : Hp} {s : Shared} {b : Addr} (I : Inv X pins σ H s) (hb : s.heap.objs.size ≤ b) (hn : H' b = none) : FpOk X pins H' b := by
  refine ⟨hn, Nat.ne_of_gt (Nat.lt_of_lt_of_le I.lt hb), I.nofs hb, .inr (Nat.le_trans I.sz hb), fun x c e z => ?_, fun p hp z => ?_⟩
  · obtain ⟨v, q⟩ := I.cell x c e
    exact absurd (Nat.lt_of_lt_of_le q.lt (by rw [z]; exact hb)) (Nat.lt_irrefl _)
  · exact absurd (Nat.lt_of_lt_of_le (Heap.lt_size (I.pin p hp).1) (by rw [z]; exact hb)) (Nat.lt_irrefl _)
structure Turn (P : Program) (w : World) (K : PySem.W.Frag) (tg : Expr) (J : It) (fp : List Addr) (it : Addr) (tn : Nat → Heap → Prop) : Prop where
  mem : it ∈ fp
  obj : ∀ i h, tn i h → ∀ b ∈ fp, ∃ o, h.get? b = some o ∧ ∀ v, o.data ≠ .cell v
  keep : ∀ i h h', tn i h → (∀ b ∈ fp, ∀ o, h.get? b = some o → h'.get? b = some o) → tn i h'
  item : ∀ (X : Cx), X.prog = P → X.w = w → X.K = K → X.calm = true → ∀ (i : Nat) (pins : List (Addr × Obj)) (s : Shared) (σ : St) (H : Hp) (E : Value → Shared → Prop), Inv X pins σ H s → (∀ b ∈ fp, FpOk X pins H b) → tn i s.heap → J.go i H →
    wpAny (model P w) X.A (pyNext (.ref it)) (fun r s1 => ∃ u, r = some u ∧
      wpAny (model P w) X.A (letOwnedTupleGo tg (.ref it) u) (fun _ s2 => ∃ x H', Inv X pins σ H' s2 ∧ RelV x u ∧ J.yld i H x H' ∧ tn (i + 1) s2.heap ∧ ∀ b ∈ fp, H' b = none) E s1) E s
  done : ∀ (X : Cx), X.prog = P → X.w = w → X.K = K → X.calm = true → ∀ (i : Nat) (pins : List (Addr × Obj)) (s : Shared) (σ : St) (H : Hp) (E : Value → Shared → Prop), Inv X pins σ H s → (∀ b ∈ fp, FpOk X pins H b) → tn i s.heap → J.stop i H →
    wpAny (model P w) X.A (pyNext (.ref it)) (fun r s1 => r = none ∧ Inv X pins σ H s1) E s
  self : ∀ (A : Around) (i : Nat) (s : Shared) (Q : Value → Shared → Prop) (E : Value → Shared → Prop), tn i s.heap → Q (.ref it) s → wpAny (model P w) A (pyIter (.ref it)) Q E s
abbrev TI := St → Hp → (It → Hp → Prop) → Prop
def PIE (X : Cx) (pins : List (Addr × Obj)) (σ : St) (tg : Expr) (R : It → Hp → Prop) (itv : Value) (s2 : Shared) : Prop :=
  ∃ (it : Addr) (fp : List Addr) (tn : Nat → Heap → Prop) (J : It) (H' : Hp), itv = .ref it ∧ Inv X pins σ H' s2 ∧ Turn X.prog X.w X.K tg J fp it tn ∧ tn 0 s2.heap ∧ (∀ b ∈ fp, FpOk X pins H' b) ∧ R J H'
def PI (X : Cx) (tg iter : Expr) (wi : TI) : Prop :=
  ∀ (pins : List (Addr × Obj)) (s : Shared) (σ : St) (H : Hp) (R : It → Hp → Prop), Inv X pins σ H s → wi σ H R →
    wpAny (model X.prog X.w) X.A (eval iter X.env) (fun v s1 => wpAny (model X.prog X.w) X.A (pyIter v) (PIE X pins σ tg R) X.xe s1) X.xe s
theorem go_of {M : Model} {A : Around} {E : Value → Shared → Prop} {s : Shared} {tg : Expr} {it : Addr} {u : Value} {o : Obj} {n : String} {vs : Array Value} {Q : Unit → Shared → Prop} (ho : s.heap.get? it = some o) (hc : o.cls = .type n) (hd : o.data = .fields vs)
    (hn : ["enumerate", "zip", "dict_itemiterator", "dict_reverseitemiterator", "odict_iterator", "itertools.zip_longest", "itertools.pairwise"].contains n = false) (hQ : Q () s) : wpAny M A (letOwnedTupleGo tg (.ref it) u) Q E s := by
  unfold letOwnedTupleGo
  cases tg <;> first
    | exact wpAny_pure hQ
    | (cases u <;> first
        | exact wpAny_pure hQ
        | (refine wpAny_bind (wpAny_load ho ?_)
           rw [hc, hd]
           show wpAny M A (if (["enumerate", "zip", "dict_itemiterator", "dict_reverseitemiterator", "odict_iterator", "itertools.zip_longest", "itertools.pairwise"].contains n && vs[0]? == some (rawInt _)) = true then _ else _) Q E s
           rw [if_neg (by intro h; rw [hn, Bool.false_and] at h; cases h)]
           exact wpAny_pure hQ))
def Itl (K : PySem.W.Frag) (a : Addr) : It :=
  ⟨fun i H => ∃ xs x, SqL K H a xs ∧ xs[i]? = some x, fun i H x H' => H' = H ∧ ∀ xs, SqL K H a xs → xs[i]? = some x, fun i H => ∃ xs, SqL K H a xs ∧ xs.length ≤ i⟩
def Itr (lo : Int) (n : Nat) : It := ⟨fun i _ => i < n, fun i H x H' => H' = H ∧ x = .int (lo + i), fun i _ => n ≤ i⟩
theorem turn_list {P : Program} {w : World} {K : PySem.W.Frag} {tg : Expr} (a it : Addr) : Turn P w K tg (Itl K a) [it] it (fun i h => h.IsListIter it a i) where
  mem := by simp
  obj := fun i h st b hb => by
    have e : b = it := by simpa using hb
    subst e
    obtain ⟨o, e, c, d⟩ := st
    exact ⟨o, e, fun v z => by rw [d] at z; cases z⟩
  keep := fun i h h' st k => st.at fun o e => k it (by simp) o e
  item := by
    intro X hP hw hK hc i pins s σ H E I hf st hg
    subst hP hw hK
    obtain ⟨xs, x, hq, hx⟩ := hg
    obtain ⟨its, rv, p, hz⟩ := I.list hq
    obtain ⟨u, hu, ru⟩ := rv.get hx
    obtain ⟨f0, f1, f2, f3, f4, f5⟩ := hf it (by simp)
    refine wpAny_pyNext_list_item st p.isList (x := u) (by simpa using hu) fun h' st' sb => ?_
    have I1 : Inv X pins σ H { s with heap := h' } := I.turned (t' := s.toks) (fun b o hb e => (sb.2 b hb).trans e) f0 f1 f3 f4 f5
    obtain ⟨o, e, c, d⟩ := id st'
    exact ⟨u, rfl, go_of (s := { s with heap := h' }) e c d (by decide) ⟨x, H, I1, ru, ⟨rfl, fun ys hy => by rw [I.list_inj hy hq]; exact hx⟩, st', fun b hb => (hf b hb).1⟩⟩
  done := by
    intro X hP hw hK hc i pins s σ H E I hf st hg
    subst hP hw hK
    obtain ⟨xs, hq, hx⟩ := hg
    obtain ⟨its, rv, p, hz⟩ := I.list hq
    obtain ⟨f0, f1, f2, f3, f4, f5⟩ := hf it (by simp)
    have hl := rv.length
    exact wpAny_pyNext_list_end (I.ok.hd hc) st p.isList (by simp; omega) fun h' eb => ⟨rfl, I.turned (t' := s.toks) (fun b o hb e => eb b o hb e) f0 f1 f3 f4 f5⟩
  self := fun _ _ _ _ _ st h => wpAny_pyIter_listiter st h
theorem turn_range {P : Program} {w : World} {K : PySem.W.Frag} {tg : Expr} (it : Addr) (lo : Int) (n : Nat) : Turn P w K tg (Itr lo n) [it] it (fun i h => IsRangeIter h it (lo + (i : Nat) * 1) ((n : Int) - (i : Nat)) 1) where
  mem := by simp
  obj := fun i h st b hb => by
    have e : b = it := by simpa using hb
    subst e
    exact ⟨_, st, fun v z => by
      have z' : Data.fields _ = Data.cell v := z
      cases z'⟩
  keep := fun i h h' st k => k it (by simp) _ st
  item := by
    intro X hP hw hK hc i pins s σ H E I hf st hg
    subst hP hw hK
    obtain ⟨f0, f1, f2, f3, f4, f5⟩ := hf it (by simp)
    have W := Walks.range (prog := X.prog) (w := X.w) (I.ok.hd hc) it lo 1 n
    refine W.item i s _ _ hg st fun v h' tk hv st' kk => ?_
    obtain ⟨t, rfl⟩ := hv
    have I1 : Inv X pins σ H { s with heap := h', toks := tk } := I.turned (fun b o hb e => kk b o (by simpa using hb) e) f0 f1 f3 f4 f5
    refine ⟨_, rfl, go_of (s := { s with heap := h', toks := tk }) (n := "range_iterator") st' rfl rfl (by decide) ⟨.int (lo + i), H, I1, ⟨t, ?_⟩, ⟨rfl, rfl⟩, st', fun b hb => (hf b hb).1⟩⟩
    rw [Int.mul_one]
  done := by
    intro X hP hw hK hc i pins s σ H E I hf st hg
    subst hP hw hK
    obtain ⟨f0, f1, f2, f3, f4, f5⟩ := hf it (by simp)
    exact wpAny_pyNext_range_end (I.ok.hd hc) st (by have : n ≤ i := hg; omega) fun h' eb => ⟨rfl, I.turned (t' := s.toks) (fun b o hb e => eb b o hb e) f0 f1 f3 f4 f5⟩
  self := fun _ _ _ _ _ st h => wpAny_pyIter_rangeiter st h
end L2
namespace L2
open PySem PySem.Spec PyProof.Rows
section
variable {X : Cx} {tg : Expr}
def iList (K : PySem.W.Frag) (tl : TE) : TI := fun σ H R => tl σ H fun x H1 => ∃ a, x = .ref a ∧ (∃ xs, SqL K H1 a xs) ∧ R (Itl K a) H1
theorem pi_list {l : Expr} {tl : TE} (hl : PE X l tl) : PI X tg l (iList X.K tl) := by
  intro pins s σ H R I h
  refine thn (hl pins s σ H _ I h) fun v s1 ⟨x, H1, I1, r1, q1⟩ => ?_
  obtain ⟨a, e, ⟨xs, hq⟩, q⟩ := q1
  subst e
  cases r1
  obtain ⟨its, rv, p, hz⟩ := I1.list hq
  refine wpAny_pyIter_list p.isList ?_
  refine ⟨s1.heap.objs.size, [s1.heap.objs.size], _, _, H1, rfl, I1.kept (t' := s1.toks) fun b o e => Heap.get?_push_of_some _ e, turn_list a _, ⟨_, Heap.get?_push_size _ rfl, rfl, rfl⟩, fun b hb => ?_, q⟩
  have e : b = s1.heap.objs.size := by simpa using hb
  subst e
  exact I1.fpOk (Nat.le_refl _) (I1.hok.fresh (Nat.le_refl _))
theorem range_it {pins : List (Addr × Obj)} {σ : St} {H : Hp} {s : Shared} {R : It → Hp → Prop} {E : Value → Shared → Prop} {lo hi : Int} {t u v : Tok} {tk : Nat} (I : Inv X pins σ H s) (h1 : -(2 ^ 62) ≤ lo) (h2 : lo < 2 ^ 62) (h3 : -(2 ^ 62) ≤ hi) (h4 : hi < 2 ^ 62)
    (q : R (Itr lo (hi - lo).toNat) H) : wpAny (model X.prog X.w) X.A (pyIter (.ref s.heap.objs.size)) (PIE X pins σ tg R) E { s with heap := s.heap.push { cls := .type "range", data := .fields #[.int lo t, .int hi u, .int 1 v] }, toks := tk } := by
  refine wpAny_pyIter_range (IsRange.new ..) (small_one h1 h2 h3 h4) ?_
  have I1 : Inv X pins σ H { s with heap := s.heap.push { cls := .type "range", data := .fields #[.int lo t, .int hi u, .int 1 v] }, toks := tk } := I.kept fun b o e => Heap.get?_push_of_some _ e
  refine ⟨(s.heap.push { cls := .type "range", data := .fields #[.int lo t, .int hi u, .int 1 v] }).objs.size, [(s.heap.push { cls := .type "range", data := .fields #[.int lo t, .int hi u, .int 1 v] }).objs.size], _, _, H, rfl,
    I1.kept (t' := tk) fun b o e => Heap.get?_push_of_some _ e, turn_range _ lo (hi - lo).toNat, ?_, fun b hb => ?_, q⟩
  · have e1 : lo + ((0 : Nat) : Int) * 1 = lo := by simp
    have e2 : (((hi - lo).toNat : Nat) : Int) - ((0 : Nat) : Int) = Builtin.Range.rangeSize lo hi 1 := by rw [rangeSize_one]; split <;> omega
    show IsRangeIter _ _ (lo + ((0 : Nat) : Int) * 1) ((((hi - lo).toNat : Nat) : Int) - ((0 : Nat) : Int)) 1
    rw [e1, e2]
    exact Heap.get?_push_size _ rfl
  · have e : b = (s.heap.push { cls := .type "range", data := .fields #[.int lo t, .int hi u, .int 1 v] }).objs.size := by simpa using hb
    subst e
    exact I1.fpOk (Nat.le_refl _) (I1.hok.fresh (Nat.le_refl _))
def iRng1 (ta : TA) : TI := fun σ H R => ta σ H fun vs H1 => ∃ j : Int, vs = [.int j] ∧ -(2 ^ 62) ≤ j ∧ j < 2 ^ 62 ∧ R (Itr 0 j.toNat) H1
def iRng2 (ta : TA) : TI := fun σ H R => ta σ H fun vs H1 => ∃ i j : Int, vs = [.int i, .int j] ∧ (-(2 ^ 62) ≤ i ∧ i < 2 ^ 62 ∧ -(2 ^ 62) ≤ j ∧ j < 2 ^ 62) ∧ R (Itr i (j - i).toNat) H1
theorem pi_range1 {a : Expr} {ta : TA} {p pos : Pos} (hg : Gl X "range") (hm : X.mg "range" = none) (ha : PA X [a] ta) (hs : starEach [a] X.env = [(false, eval a X.env)] := by rfl) : PI X tg (.Call (.Name "range" p) [a] [] pos) (iRng1 ta) := by
  intro pins s σ H R I h
  refine Call_ (ld_blt I hg hm boot_range (PyProof.Rows.callWith_type1 (thn (ha pos pins s σ H _ I h) fun us s1 ⟨vs, H1, I1, r1, q1⟩ => ?_) hs rfl))
  obtain ⟨j, e, q1, q2, q⟩ := q1
  subst e
  cases r1 with
  | cons r rr =>
    cases rr
    obtain ⟨t, rfl⟩ := r
    exact call_range_1 (range_it I1 (by omega) (by omega) q1 q2 (by simpa using q))
theorem pi_range2 {a b : Expr} {ta : TA} {p pos : Pos} (hg : Gl X "range") (hm : X.mg "range" = none) (ha : PA X [a, b] ta) (hs : starEach [a, b] X.env = [(false, eval a X.env), (false, eval b X.env)] := by rfl) (hs2 : starEach [b] X.env = [(false, eval b X.env)] := by rfl) :
    PI X tg (.Call (.Name "range" p) [a, b] [] pos) (iRng2 ta) := by
  intro pins s σ H R I h
  refine Call_ (ld_blt I hg hm boot_range (PyProof.Rows.callWith_type1 (thn (ha pos pins s σ H _ I h) fun us s1 ⟨vs, H1, I1, r1, q1⟩ => ?_) (by rw [hs, hs2]) (by rw [hs2]; rfl)))
  obtain ⟨i, j, e, ⟨q1, q2, q3, q4⟩, q⟩ := q1
  subst e
  cases r1 with
  | cons r rr =>
    cases rr with
    | cons r' rr =>
      cases rr
      obtain ⟨t, rfl⟩ := r
      obtain ⟨t', rfl⟩ := r'
      exact call_range_2 (range_it I1 q1 q2 q3 q4 q)
def tFor (wi : TI) (g : TG) (tb : TS) : TS := fun D σ H => wi σ H fun J H1 => ∃ W : Nat → Nat → St → Hp → Prop, (∃ m, W 0 m σ H1) ∧ ∀ i m σ H, W i m σ H →
  (J.stop i H ∧ D.nx σ H) ∨ (J.go i H ∧ ∃ N : St → Hp → Prop, (∀ σ' H', N σ' H' → ∃ m', m' < m ∧ W (i + 1) m' σ' H') ∧ ∀ x H', J.yld i H x H' → g x σ H' fun σ2 H2 => tb { D with nx := N, ct := N, bk := D.nx } σ2 H2)
def pinsAt (fp : List Addr) (h : Heap) : List (Addr × Obj) := fp.filterMap fun b => (h.get? b).map fun o => (b, o)
theorem mem_pinsAt {fp : List Addr} {h : Heap} {b : Addr} {o : Obj} (hb : b ∈ fp) (e : h.get? b = some o) : (b, o) ∈ pinsAt fp h := List.mem_filterMap.mpr ⟨b, hb, by rw [e]; rfl⟩
theorem of_pinsAt {fp : List Addr} {h : Heap} {p : Addr × Obj} (hp : p ∈ pinsAt fp h) : p.1 ∈ fp ∧ h.get? p.1 = some p.2 := by
  obtain ⟨b, hb, e⟩ := List.mem_filterMap.mp hp
  cases q : h.get? b with
  | none => rw [q] at e; cases e
  | some o =>
    rw [q] at e
    have e' : (b, o) = p := Option.some.inj e
    subst e'
    exact ⟨hb, q⟩
theorem Inv.pinned {pins : List (Addr × Obj)} {σ : St} {H : Hp} {s : Shared} {fp : List Addr} (I : Inv X pins σ H s) (hf : ∀ b ∈ fp, FpOk X pins H b) (ho : ∀ b ∈ fp, ∃ o, s.heap.get? b = some o ∧ ∀ v, o.data ≠ .cell v) : Inv X (pins ++ pinsAt fp s.heap) σ H s :=
  I.pins_of fun p hp => (List.mem_append.mp hp).elim (fun z => I.pin p (List.mem_append_right _ z)) fun z => by
    obtain ⟨hb, e⟩ := of_pinsAt z
    obtain ⟨f0, f1, f2, _⟩ := hf p.1 hb
    obtain ⟨o, e', d⟩ := ho p.1 hb
    rw [e] at e'; cases e'
    exact ⟨e, f0, f1, f2, d⟩
theorem Inv.unpinned {pins pl : List (Addr × Obj)} {σ : St} {H : Hp} {s : Shared} (I : Inv X (pins ++ pl) σ H s) : Inv X pins σ H s := I.pins_of fun p hp => I.pin p (List.mem_append_right _ (List.mem_append_left _ hp))
theorem ps_for {iter : Expr} {body : List Stmt} {wi : TI} {g : TG} {tb : TS} {pos : Pos} (hp : PassesOwn (model X.prog X.w) X.A X.env X.xe) (hc : X.calm = true) (hi : PI X tg iter wi) (hg : PG X tg g) (hb : PSs X body tb)
    (hs : ∀ x, foldedSetIterable iter X.env x = pure x := by intro _; rfl) : PS X (.For tg iter body [] pos) (tFor wi g tb) := by
  intro pins s σ H D I h
  refine wpAny_For (thn (hi pins s σ H _ I h) fun v s1 h1 => thn h1 fun itv s2 h2 => ?_) hs
  obtain ⟨it, fp, tn, J, H2, e, I2, T, st2, f2, W, ⟨m0, w0⟩, turn⟩ := h2
  subst e
  have stat : ∀ {H' : Hp}, (∀ b ∈ fp, H' b = none) → ∀ b ∈ fp, FpOk X pins H' b := fun hn b hb => ⟨hn b hb, (f2 b hb).2⟩
  refine codeAny_forLoop_any (fun n s' => ∃ i σ' H', Inv X pins σ' H' s' ∧ tn i s'.heap ∧ (∀ b ∈ fp, H' b = none) ∧ W i n σ' H') ?_ m0 ⟨0, σ, H2, I2, st2, fun b hb => (f2 b hb).1, w0⟩
  rintro n s3 ⟨i, σ3, H3, I3, st3, fr3, w3⟩
  rcases turn i n σ3 H3 w3 with ⟨stop, qn⟩ | ⟨go, N, hN, step⟩
  · refine wpAny_passesOwn hp (thn (T.done X rfl rfl rfl hc i pins s3 σ3 H3 X.xe I3 (stat fr3) st3 stop) fun r s4 ⟨hr, I4⟩ => ?_)
    subst hr
    exact wpAny_execs_nil ⟨σ3, H3, I4, qn⟩
  · refine wpAny_passesOwn hp (thn (T.item X rfl rfl rfl hc i pins s3 σ3 H3 X.xe I3 (stat fr3) st3 go) fun r s4 ⟨u, hr, h4⟩ => ?_)
    subst hr
    refine wpAny_passesOwn hp (thn h4 fun _ s5 ⟨x, H5, I5, r5, y5, st5, fr5⟩ => ?_)
    have I5' := I5.pinned (stat fr5) (T.obj _ _ st5)
    refine wpAny_passesOwn hp (thn (hg _ s5 σ3 H5 x u _ I5' r5 (step x H5 y5)) fun _ s6 ⟨σ6, H6, I6, q6⟩ => ?_)
    refine wpAny_passesOwn hp (thn (hb _ s6 σ6 H6 _ I6 q6) fun f s7 q7 => ?_)
    have again : ∀ {σ7 : St} {H7 : Hp}, Inv X (pins ++ pinsAt fp s5.heap) σ7 H7 s7 → N σ7 H7 → ∃ m, m < n ∧ ∃ i σ' H', Inv X pins σ' H' s7 ∧ tn i s7.heap ∧ (∀ b ∈ fp, H' b = none) ∧ W i m σ' H' := fun {σ7 H7} I7 n7 => by
      obtain ⟨m', hm, w7⟩ := hN σ7 H7 n7
      refine ⟨m', hm, i + 1, σ7, H7, I7.unpinned, T.keep _ _ _ st5 fun b hb o e => (I7.pin (b, o) (List.mem_append_right _ (List.mem_append_right _ (mem_pinsAt hb e)))).1, fun b hb => ?_, w7⟩
      obtain ⟨o, e, d⟩ := T.obj _ _ st5 b hb
      exact (I7.pin (b, o) (List.mem_append_right _ (List.mem_append_right _ (mem_pinsAt hb e)))).2.1
    cases f with
    | next => obtain ⟨σ7, H7, I7, n7⟩ := q7; exact again I7 n7
    | cont => obtain ⟨σ7, H7, I7, n7⟩ := q7; exact again I7 n7
    | brk => obtain ⟨σ7, H7, I7, q7⟩ := q7; exact ⟨σ7, H7, I7.unpinned, q7⟩
    | ret v => obtain ⟨x7, σ7, H7, I7, r7, q7⟩ := q7; exact ⟨x7, σ7, H7, I7.unpinned, r7, q7⟩
end
theorem for_list {K : PySem.W.Frag} {a : Addr} {xs : List V} {g : TG} {tb : TS} {D : Ends} {σ : St} {H : Hp} (Pv : Nat → St → Hp → Prop) (h0 : Pv 0 σ H) (hl : ∀ i σ H, i ≤ xs.length → Pv i σ H → SqL K H a xs)
    (hs : ∀ i x σ H, xs[i]? = some x → Pv i σ H → g x σ H fun σ2 H2 => tb { D with nx := Pv (i + 1), ct := Pv (i + 1), bk := D.nx } σ2 H2) (hd : ∀ σ H, Pv xs.length σ H → D.nx σ H) :
    ∃ W : Nat → Nat → St → Hp → Prop, (∃ m, W 0 m σ H) ∧ ∀ i m σ H, W i m σ H →
      ((Itl K a).stop i H ∧ D.nx σ H) ∨ ((Itl K a).go i H ∧ ∃ N : St → Hp → Prop, (∀ σ' H', N σ' H' → ∃ m', m' < m ∧ W (i + 1) m' σ' H') ∧ ∀ x H', (Itl K a).yld i H x H' → g x σ H' fun σ2 H2 => tb { D with nx := N, ct := N, bk := D.nx } σ2 H2) := by
  refine ⟨fun i m σ H => m = xs.length - i ∧ i ≤ xs.length ∧ Pv i σ H, ⟨xs.length, by simp, Nat.zero_le _, h0⟩, ?_⟩
  rintro i m σ H ⟨rfl, hi, p⟩
  have q := hl i σ H hi p
  by_cases hlt : i < xs.length
  · refine .inr ⟨⟨xs, xs[i], q, by simp [hlt]⟩, Pv (i + 1), fun σ' H' p' => ⟨xs.length - (i + 1), by omega, rfl, hlt, p'⟩, fun x H' y => ?_⟩
    obtain ⟨e, y⟩ := y
    subst e
    exact hs i x σ _ (y xs q) p
  · have e : i = xs.length := by omega
    subst e
    exact .inl ⟨⟨xs, q, Nat.le_refl _⟩, hd σ H p⟩
theorem for_range {lo : Int} {n : Nat} {g : TG} {tb : TS} {D : Ends} {σ : St} {H : Hp} (Pv : Nat → St → Hp → Prop) (h0 : Pv 0 σ H)
    (hs : ∀ i σ H, i < n → Pv i σ H → g (.int (lo + i)) σ H fun σ2 H2 => tb { D with nx := Pv (i + 1), ct := Pv (i + 1), bk := D.nx } σ2 H2) (hd : ∀ σ H, Pv n σ H → D.nx σ H) :
    ∃ W : Nat → Nat → St → Hp → Prop, (∃ m, W 0 m σ H) ∧ ∀ i m σ H, W i m σ H →
      ((Itr lo n).stop i H ∧ D.nx σ H) ∨ ((Itr lo n).go i H ∧ ∃ N : St → Hp → Prop, (∀ σ' H', N σ' H' → ∃ m', m' < m ∧ W (i + 1) m' σ' H') ∧ ∀ x H', (Itr lo n).yld i H x H' → g x σ H' fun σ2 H2 => tb { D with nx := N, ct := N, bk := D.nx } σ2 H2) := by
  refine ⟨fun i m σ H => m = n - i ∧ i ≤ n ∧ Pv i σ H, ⟨n, by simp, Nat.zero_le _, h0⟩, ?_⟩
  rintro i m σ H ⟨rfl, hi, p⟩
  by_cases hlt : i < n
  · refine .inr ⟨hlt, Pv (i + 1), fun σ' H' p' => ⟨n - (i + 1), by omega, rfl, hlt, p'⟩, fun x H' y => ?_⟩
    obtain ⟨e, y⟩ := y
    subst e y
    exact hs i σ _ hlt p
  · have e : i = n := by omega
    subst e
    exact .inl ⟨Nat.le_refl _, hd σ H p⟩
theorem while_by {c : TT} {tb : TS} {D : Ends} {σ : St} {H : Hp} (Pv : St → Hp → Prop) (μ : St → Hp → Nat) (h0 : Pv σ H)
    (hs : ∀ σ H, Pv σ H → c σ H fun b H1 => if b = true then tb { D with nx := fun σ' H' => Pv σ' H' ∧ μ σ' H' < μ σ H, ct := fun σ' H' => Pv σ' H' ∧ μ σ' H' < μ σ H, bk := D.nx } σ H1 else D.nx σ H1)
    (mono : ∀ σ H Q Q', (∀ b H1, Q b H1 → Q' b H1) → c σ H Q → c σ H Q') : tWhile c tb D σ H := by
  refine ⟨fun m σ H => m = μ σ H ∧ Pv σ H, ⟨_, rfl, h0⟩, ?_⟩
  rintro m σ H ⟨rfl, p⟩
  refine mono σ H _ _ (fun b H1 q => ?_) (hs σ H p)
  cases b with
  | true => exact ⟨_, fun σ' H' ⟨p', l⟩ => ⟨_, l, rfl, p'⟩, q⟩
  | false => exact q
end L2
namespace L2
open PySem PySem.Spec PyProof.Rows
abbrev R2 := V → V → Hp → VK → Prop
def OpR (X : Cx) (f : Value → Value → Sem Value) (r : R2) : Prop :=
  ∀ (pins : List (Addr × Obj)) (s : Shared) (σ : St) (H : Hp) (x y : V) (v u : Value) (Q : VK), Inv X pins σ H s → RelV x v → RelV y u → r x y H Q →
    wpAny (model X.prog X.w) X.A (f v u) (EP X pins σ Q) X.xe s
def UnR (X : Cx) (f : Value → Sem Value) (r : V → Hp → VK → Prop) : Prop :=
  ∀ (pins : List (Addr × Obj)) (s : Shared) (σ : St) (H : Hp) (x : V) (v : Value) (Q : VK), Inv X pins σ H s → RelV x v → r x H Q →
    wpAny (model X.prog X.w) X.A (f v) (EP X pins σ Q) X.xe s
def CallR (X : Cx) (f : Value) (r : List V → Hp → VK → Prop) : Prop :=
  ∀ (pins : List (Addr × Obj)) (s : Shared) (σ : St) (H : Hp) (xs : List V) (us : List Value) (Q : VK), Inv X pins σ H s → Vals xs us → r xs H Q →
    wpAny (model X.prog X.w) X.A (call f us) (EP X pins σ Q) X.xe s
def TruR (X : Cx) (r : V → Hp → (Bool → Hp → Prop) → Prop) : Prop :=
  ∀ (pins : List (Addr × Obj)) (s : Shared) (σ : St) (H : Hp) (x : V) (v : Value) (Q : Bool → Hp → Prop), Inv X pins σ H s → RelV x v → r x H Q →
    wpAny (model X.prog X.w) X.A (truthy v) (TP X pins σ Q) X.xe s
def tOp (r : R2) (ta tb : TE) : TE := fun σ H Q => ta σ H fun x H1 => tb σ H1 fun y H2 => r x y H2 Q
def tUn (r : V → Hp → VK → Prop) (ta : TE) : TE := fun σ H Q => ta σ H fun x H1 => r x H1 Q
def rI (C : Int → Int → Prop) (g : Int → Int → V) : R2 := fun x y H Q => ∃ i j, x = .int i ∧ y = .int j ∧ C i j ∧ Q (g i j) H
def rI0 (g : Int → Int → V) : R2 := fun x y H Q => ∃ i j, x = .int i ∧ y = .int j ∧ Q (g i j) H
def rU (g : Int → V) : V → Hp → VK → Prop := fun x H Q => ∃ i, x = .int i ∧ Q (g i) H
section
variable {X : Cx} {a b c : Expr} {ta tb tc : TE} {pos : Pos}
theorem binT (ha : PE X a ta) (hb : PE X b tb) {pins : List (Addr × Obj)} {s : Shared} {σ : St} {H : Hp} {R : V → V → Hp → Prop} (I : Inv X pins σ H s)
    (h : ta σ H fun x H1 => tb σ H1 fun y H2 => R x y H2) {Q : Value → Shared → Prop} {f : Value → Value → Sem Value}
    (hf : ∀ v u s2 x y H2, Inv X pins σ H2 s2 → RelV x v → RelV y u → R x y H2 → wpAny (model X.prog X.w) X.A (f v u) Q X.xe s2) :
    wpAny (model X.prog X.w) X.A (eval a X.env) (fun v s₁ => wpAny (model X.prog X.w) X.A (eval b X.env) (fun u s₂ => wpAny (model X.prog X.w) X.A (f v u) Q X.xe s₂) X.xe s₁) X.xe s := by
  refine thn (ha pins s σ H _ I h) fun v s1 ⟨x, H1, I1, r1, q1⟩ => ?_
  refine thn (hb pins s1 σ H1 _ I1 q1) fun u s2 ⟨y, H2, I2, r2, q2⟩ => ?_
  exact hf v u s2 x y H2 I2 r1 r2 q2
theorem pe_op {op : Operator} {r : R2} (ho : OpR X (binaryOp op) r) (ha : PE X a ta) (hb : PE X b tb) : PE X (.BinOp a op b pos) (tOp r ta tb) := by
  intro pins s σ H Q I h
  exact wpAny_BinOp (binT ha hb I h fun v u s2 x y H2 I2 rx ry q => ho pins s2 σ H2 x y v u Q I2 rx ry q)
theorem pe_un {op : UnaryOp} {r : V → Hp → VK → Prop} (ho : UnR X (unaryOp op) r) (ha : PE X a ta) : PE X (.UnaryOp op a pos) (tUn r ta) := by
  intro pins s σ H Q I h
  exact UnaryOp_ (thn (ha pins s σ H _ I h) fun v s1 ⟨x, H1, I1, r1, q1⟩ => ho pins s1 σ H1 x v Q I1 r1 q1)
theorem opI {f : Value → Value → Sem Value} {C : Int → Int → Prop} {g : Int → Int → Int}
    (rule : ∀ (i j : Int) (t u : Tok) (s : Shared) (Q : Value → Shared → Prop) (E : Value → Shared → Prop), C i j → Q (.int (g i j) s.toks) { s with toks := s.toks + 1 } → wpAny (model X.prog X.w) X.A (f (.int i t) (.int j u)) Q E s) :
    OpR X f (rI C fun i j => .int (g i j)) := by
  intro pins s σ H x y v u Q I rx ry h
  obtain ⟨i, j, rfl, rfl, hc, q⟩ := h
  obtain ⟨t, rfl⟩ := rx
  obtain ⟨t', rfl⟩ := ry
  exact rule i j t t' s _ _ hc ⟨.int (g i j), H, I.tok _, ⟨_, rfl⟩, q⟩
theorem opI0 {f : Value → Value → Sem Value} {g : Int → Int → Int}
    (rule : ∀ (i j : Int) (t u : Tok) (s : Shared) (Q : Value → Shared → Prop) (E : Value → Shared → Prop), Q (.int (g i j) s.toks) { s with toks := s.toks + 1 } → wpAny (model X.prog X.w) X.A (f (.int i t) (.int j u)) Q E s) :
    OpR X f (rI0 fun i j => .int (g i j)) := by
  intro pins s σ H x y v u Q I rx ry h
  obtain ⟨i, j, rfl, rfl, q⟩ := h
  obtain ⟨t, rfl⟩ := rx
  obtain ⟨t', rfl⟩ := ry
  exact rule i j t t' s _ _ ⟨.int (g i j), H, I.tok _, ⟨_, rfl⟩, q⟩
theorem opB0 {f : Value → Value → Sem Value} {g : Int → Int → Bool}
    (rule : ∀ (i j : Int) (t u : Tok) (s : Shared) (Q : Value → Shared → Prop) (E : Value → Shared → Prop), Q (.bool (g i j)) s → wpAny (model X.prog X.w) X.A (f (.int i t) (.int j u)) Q E s) :
    OpR X f (rI0 fun i j => .bl (g i j)) := by
  intro pins s σ H x y v u Q I rx ry h
  obtain ⟨i, j, rfl, rfl, q⟩ := h
  obtain ⟨t, rfl⟩ := rx
  obtain ⟨t', rfl⟩ := ry
  exact rule i j t t' s _ _ ⟨.bl (g i j), H, I, rfl, q⟩
def CDiv (i j : Int) : Prop := 0 < j ∧ j < 1073741824
def CPow (i j : Int) : Prop := 0 ≤ j ∧ j ≤ 1000000 ∧ i.natAbs < 2 ^ 64
def CMul (i j : Int) : Prop := (-(2 ^ 64) < i ∧ i < 2 ^ 64) ∨ (-(2 ^ 64) < j ∧ j < 2 ^ 64)
theorem CMul.ok {i j : Int} (h : CMul i j) : IntMulOk i j := by
  rcases h with ⟨h1, h2⟩ | ⟨h1, h2⟩
  · exact .of_left (intBits_le_64 h1 h2)
  · exact .of_right (intBits_le_64 h1 h2)
theorem op_add : OpR X (binaryOp .Add) (rI0 fun i j => .int (i + j)) := opI0 fun _ _ _ _ _ _ _ q => add_int q
theorem op_sub : OpR X (binaryOp .Sub) (rI0 fun i j => .int (i - j)) := opI0 fun _ _ _ _ _ _ _ q => sub_int q
theorem op_mul : OpR X (binaryOp .Mult) (rI CMul fun i j => .int (i * j)) := opI fun _ _ _ _ _ _ _ hc q => mul_int q hc.ok
theorem op_fdiv : OpR X (binaryOp .FloorDiv) (rI CDiv fun i j => .int (i / j)) := opI fun i j _ _ _ _ _ hc q => by
  have h1 : (0 : Int) < j := hc.1
  have h2 : j < 1073741824 := hc.2
  exact floordiv_int (by omega) (by rw [Int.fdiv_eq_ediv_of_nonneg i (by omega)]; exact q) (.inl (PyProof.noPylong_small (by omega)))
theorem op_mod : OpR X (binaryOp .Mod) (rI (fun _ j => 0 < j) fun i j => .int (i % j)) := opI fun i j _ _ _ _ _ hc q => by
  have h1 : (0 : Int) < j := hc
  exact mod_int' (by omega) (by rw [Int.fmod_eq_emod_of_nonneg i (by omega)]; exact q)
theorem op_modN : OpR X (binaryOp .Mod) (rI (fun _ j => j ≠ 0) fun i j => .int (i.fmod j)) := opI fun _ _ _ _ _ _ _ hc q => mod_int' hc q
theorem op_pow : OpR X (binaryOp .Pow) (rI CPow fun i j => .int (i ^ j.toNat)) := opI fun _ _ _ _ _ _ _ hc q => pow_int_small hc.1 hc.2.1 hc.2.2 q
theorem unI {f : Value → Sem Value} {g : Int → Int}
    (rule : ∀ (i : Int) (t : Tok) (s : Shared) (Q : Value → Shared → Prop) (E : Value → Shared → Prop), Q (.int (g i) s.toks) { s with toks := s.toks + 1 } → wpAny (model X.prog X.w) X.A (f (.int i t)) Q E s) :
    UnR X f (rU fun i => .int (g i)) := by
  intro pins s σ H x v Q I rx h
  obtain ⟨i, rfl, q⟩ := h
  obtain ⟨t, rfl⟩ := rx
  exact rule i t s _ _ ⟨.int (g i), H, I.tok _, ⟨_, rfl⟩, q⟩
theorem un_neg : UnR X (unaryOp .USub) (rU fun i => .int (-i)) := unI fun _ _ _ _ _ q => neg_int q
end
def scal : V → V → Bool
  | .non, .non => true | .non, .int _ => true | .int _, .non => true | .non, .bl _ => true | .bl _, .non => true | .non, .str _ => true | .str _, .non => true
  | .int _, .int _ => true | .bl _, .bl _ => true | .str _, .str _ => true | .byt _, .byt _ => true
  | .int _, .str _ => true | .str _, .int _ => true | .bl _, .str _ => true | .str _, .bl _ => true
  | _, _ => false
def rEq : R2 := fun x y H Q => scal x y = true ∧ Q (.bl (decide (x = y))) H
def rNe : R2 := fun x y H Q => scal x y = true ∧ Q (.bl (!decide (x = y))) H
theorem dec_int {i j : Int} : decide (V.int i = V.int j) = (i == j) := by
  rw [Bool.eq_iff_iff]
  simp
theorem dec_bl {i j : Bool} : decide (V.bl i = V.bl j) = (i == j) := by
  rw [Bool.eq_iff_iff]
  simp
theorem dec_str {i j : Str} : decide (V.str i = V.str j) = (i == j) := by
  rw [Bool.eq_iff_iff]
  simp
theorem dec_byt {i j : Array UInt8} : decide (V.byt i = V.byt j) = (i.toList == j.toList) := by
  rw [Bool.eq_iff_iff]
  cases i
  cases j
  simp
section
variable {X : Cx} {a b c : Expr} {ta tb tc : TE} {pos : Pos}
theorem fin_bl {pins : List (Addr × Obj)} {σ : St} {H : Hp} {s : Shared} {Q : VK} {k k' : Bool} (I : Inv X pins σ H s) (q : Q (.bl k) H) (e : k = k') : EP X pins σ Q (.bool k') s := by
  subst e
  exact ⟨.bl k, H, I, rfl, q⟩
theorem op_eq : OpR X (compareOp .Eq) rEq := by
  intro pins s σ H x y v u Q I rx ry h
  obtain ⟨hs, q⟩ := h
  cases x with
  | non =>
    cases rx
    cases y with
    | non => cases ry; exact PySem.EqNone.eq_none_none (fin_bl I q (by simp))
    | bl j => cases ry; exact PySem.EqNone.eq_none_bool (fin_bl I q (by simp))
    | int j => obtain ⟨t', rfl⟩ := ry; exact PySem.EqNone.eq_none_int (fin_bl I q (by simp))
    | str j => obtain ⟨t', rfl⟩ := ry; exact PySem.EqNone.eq_none_str (fin_bl I q (by simp))
    | _ => exact absurd (show false = true from hs) Bool.false_ne_true
  | bl i =>
    cases rx
    cases y with
    | non => cases ry; exact PySem.EqNone.eq_bool_none (fin_bl I q (by simp))
    | bl j => cases ry; exact eq_bool (fin_bl I q dec_bl)
    | str j => obtain ⟨t', rfl⟩ := ry; exact PySem.EqMixed.eq_bool_str (fin_bl I q (by simp))
    | _ => exact absurd (show false = true from hs) Bool.false_ne_true
  | int i =>
    obtain ⟨t, rfl⟩ := rx
    cases y with
    | non => cases ry; exact PySem.EqNone.eq_int_none (fin_bl I q (by simp))
    | int j => obtain ⟨t', rfl⟩ := ry; exact eq_int (fin_bl I q dec_int)
    | str j => obtain ⟨t', rfl⟩ := ry; exact PySem.EqMixed.eq_int_str (fin_bl I q (by simp))
    | _ => exact absurd (show false = true from hs) Bool.false_ne_true
  | str i =>
    obtain ⟨t, rfl⟩ := rx
    cases y with
    | non => cases ry; exact PySem.EqNone.eq_str_none (fin_bl I q (by simp))
    | bl j => cases ry; exact PySem.EqMixed.eq_str_bool (fin_bl I q (by simp))
    | int j => obtain ⟨t', rfl⟩ := ry; exact PySem.EqMixed.eq_str_int (fin_bl I q (by simp))
    | str j => obtain ⟨t', rfl⟩ := ry; exact eq_str (fin_bl I q dec_str)
    | _ => exact absurd (show false = true from hs) Bool.false_ne_true
  | byt i =>
    obtain ⟨t, rfl⟩ := rx
    cases y with
    | byt j => obtain ⟨t', rfl⟩ := ry; exact PySem.W.eq_bytes (fin_bl I q dec_byt)
    | _ => exact absurd (show false = true from hs) Bool.false_ne_true
  | _ => cases y <;> exact absurd (show false = true from hs) Bool.false_ne_true
theorem op_ne : OpR X (compareOp .NotEq) rNe := by
  intro pins s σ H x y v u Q I rx ry h
  obtain ⟨hs, q⟩ := h
  cases x with
  | non =>
    cases rx
    cases y with
    | non => cases ry; exact PySem.EqNone.ne_none_none (fin_bl I q (by simp))
    | bl j => cases ry; exact PySem.EqNone.ne_none_bool (fin_bl I q (by simp))
    | int j => obtain ⟨t', rfl⟩ := ry; exact PySem.EqNone.ne_none_int (fin_bl I q (by simp))
    | str j => obtain ⟨t', rfl⟩ := ry; exact PySem.EqNone.ne_none_str (fin_bl I q (by simp))
    | _ => exact absurd (show false = true from hs) Bool.false_ne_true
  | bl i =>
    cases rx
    cases y with
    | non => cases ry; exact PySem.EqNone.ne_bool_none (fin_bl I q (by simp))
    | bl j => cases ry; exact ne_bool (fin_bl I q (congrArg not dec_bl))
    | str j => obtain ⟨t', rfl⟩ := ry; exact PySem.EqMixed.ne_bool_str (fin_bl I q (by simp))
    | _ => exact absurd (show false = true from hs) Bool.false_ne_true
  | int i =>
    obtain ⟨t, rfl⟩ := rx
    cases y with
    | non => cases ry; exact PySem.EqNone.ne_int_none (fin_bl I q (by simp))
    | int j => obtain ⟨t', rfl⟩ := ry; exact ne_int (fin_bl I q (congrArg not dec_int))
    | str j => obtain ⟨t', rfl⟩ := ry; exact PySem.EqMixed.ne_int_str (fin_bl I q (by simp))
    | _ => exact absurd (show false = true from hs) Bool.false_ne_true
  | str i =>
    obtain ⟨t, rfl⟩ := rx
    cases y with
    | non => cases ry; exact PySem.EqNone.ne_str_none (fin_bl I q (by simp))
    | bl j => cases ry; exact PySem.EqMixed.ne_str_bool (fin_bl I q (by simp))
    | int j => obtain ⟨t', rfl⟩ := ry; exact PySem.EqMixed.ne_str_int (fin_bl I q (by simp))
    | str j => obtain ⟨t', rfl⟩ := ry; exact ne_str (fin_bl I q (congrArg not dec_str))
    | _ => exact absurd (show false = true from hs) Bool.false_ne_true
  | byt i =>
    obtain ⟨t, rfl⟩ := rx
    cases y with
    | byt j => obtain ⟨t', rfl⟩ := ry; exact PySem.W.ne_bytes (fin_bl I q (congrArg not dec_byt))
    | _ => exact absurd (show false = true from hs) Bool.false_ne_true
  | _ => cases y <;> exact absurd (show false = true from hs) Bool.false_ne_true
theorem op_lt : OpR X (compareOp .Lt) (rI0 fun i j => .bl (decide (i < j))) := opB0 fun _ _ _ _ _ _ _ q => lt_int q
theorem op_gt : OpR X (compareOp .Gt) (rI0 fun i j => .bl (decide (j < i))) := opB0 fun _ _ _ _ _ _ _ q => gt_int q
theorem op_isN : OpR X (compareOp .Is) (fun x y H Q => y = .non ∧ Q (.bl (decide (x = .non))) H) := by
  intro pins s σ H x y v u Q I rx ry h
  obtain ⟨rfl, q⟩ := h
  cases ry
  refine is_none_gen (fin_bl I q ?_)
  cases x <;> first
    | (cases rx; rfl)
    | (obtain ⟨t, rfl⟩ := rx; rfl)
theorem nomark (b : Expr) {op : CmpOp} (h : op ≠ .In := by decide) (h2 : op ≠ .NotIn := by decide) : behindInMarks op b = false := by
  have e1 : (op == CmpOp.In) = false := by cases op <;> first | rfl | exact absurd rfl h
  have e2 : (op == CmpOp.NotIn) = false := by cases op <;> first | rfl | exact absurd rfl h2
  cases b <;> simp [behindInMarks, e1, e2]
theorem pe_cmpR {op : CmpOp} {r : R2} (ho : OpR X (compareOp op) r) (ha : PE X a ta) (hb : PE X b tb) (hm : behindInMarks op b = false) : PE X (.Compare a [op] [b] pos) (tOp r ta tb) := by
  intro pins s σ H Q I h
  exact wpAny_Compare1 (binT ha hb I h fun v u s2 x y H2 I2 rx ry q => ho pins s2 σ H2 x y v u Q I2 rx ry q) hm
def tTest (t : TE) : TT := fun σ H Q => t σ H fun x H' => ∃ k, x = .bl k ∧ Q k H'
theorem pt_cmpR {op : CmpOp} {r : R2} (ho : OpR X (compareOp op) r) (ha : PE X a ta) (hb : PE X b tb) (hm : behindInMarks op b = false) : PT X (.Compare a [op] [b] pos) (tTest (tOp r ta tb)) := by
  intro pins s σ H Q I h
  refine wpAny_isTrue_Compare1 (thn (ha pins s σ H _ I h) fun v s1 ⟨x, H1, I1, r1, q1⟩ => thn (hb pins s1 σ H1 _ I1 q1) fun u s2 ⟨y, H2, I2, r2, q2⟩ =>
    thn (ho pins s2 σ H2 x y v u _ I2 r1 r2 q2) fun c s3 ⟨z, H3, I3, r3, k, e, q3⟩ => ?_) hm
  subst e
  cases r3
  exact wpAny_truthy_bool ⟨H3, I3, q3⟩
def TruV (K : PySem.W.Frag) (x : V) (H : Hp) (k : Bool) : Prop :=
  match x with
  | .non => k = false
  | .bl b => k = b
  | .int i => k = (i != 0)
  | .str y => y.length ≤ sizeLine ∧ k = ((y.length : Int) != 0)
  | .byt y => y.size ≤ sizeLine ∧ k = ((y.size : Int) != 0)
  | .ref p => (∃ xs, SqL K H p xs ∧ k = !xs.isEmpty) ∨ (∃ xs, SqT K H p xs ∧ k = !xs.isEmpty) ∨ ∃ kvs, H p = some (.dK kvs) ∧ k = !kvs.isEmpty
  | _ => False
theorem isEmpty_kv {κ : Type} {kvs : List (κ × V)} {vs : List (κ × Value)} (r : KV kvs vs) : (!vs.isEmpty) = !kvs.isEmpty := by
  cases r <;> rfl
theorem isEmpty_of {xs : List V} {its : List Value} (r : Vals xs its) : (!its.toArray.isEmpty) = !xs.isEmpty := by
  cases r <;> simp
theorem line63 : (sizeLine : Nat) < 2 ^ 63 := by rw [sizeLine_eq]; decide
theorem tru_ok : TruR X (fun x H Q => ∃ k, TruV X.K x H k ∧ Q k H) := by
  intro pins s σ H x v Q I rx h
  obtain ⟨k, e, q⟩ := h
  have hl := line63
  have hs : sizeLine = 16777216 := sizeLine_eq
  cases x with
  | non =>
    cases rx
    have e' : k = false := e
    subst e'
    exact truthy_none ⟨H, I, q⟩
  | bl b =>
    cases rx
    have e' : k = b := e
    subst e'
    exact wpAny_truthy_bool ⟨H, I, q⟩
  | int i =>
    obtain ⟨t, rfl⟩ := rx
    have e' : k = (i != 0) := e
    subst e'
    exact PySem.P.truthy_int ⟨H, I, q⟩
  | str y =>
    obtain ⟨t, rfl⟩ := rx
    obtain ⟨hy, e'⟩ : y.length ≤ sizeLine ∧ k = ((y.length : Int) != 0) := e
    subst e'
    exact PySem.P.truthy_str (by omega) ⟨H, I.tok _, q⟩
  | byt y =>
    obtain ⟨t, rfl⟩ := rx
    obtain ⟨hy, e'⟩ : y.size ≤ sizeLine ∧ k = ((y.size : Int) != 0) := e
    subst e'
    exact PySem.W.truthy_bytes (by omega) ⟨H, I.tok _, q⟩
  | ref p =>
    cases rx
    have e' : (∃ xs, SqL X.K H p xs ∧ k = !xs.isEmpty) ∨ (∃ xs, SqT X.K H p xs ∧ k = !xs.isEmpty) ∨ ∃ kvs, H p = some (.dK kvs) ∧ k = !kvs.isEmpty := e
    rcases e' with ⟨xs, hx, e'⟩ | ⟨xs, hx, e'⟩ | ⟨kvs, hx, e'⟩
    · subst e'
      obtain ⟨its, r, pl, hz⟩ := I.list hx
      have hlen := r.length
      exact wpAny_truthy_list pl.isList (by simp only [List.size_toArray]; omega) ⟨H, I.tok _, by rw [isEmpty_of r]; exact q⟩
    · subst e'
      obtain ⟨its, r, pl, hz⟩ := I.tuple hx
      have hlen := r.length
      exact truthy_tuple pl (by simp only [List.size_toArray]; omega) ⟨H, I.tok _, by rw [isEmpty_of r]; exact q⟩
    · subst e'
      obtain ⟨hz, hS, vs, r, m⟩ : kvs.length ≤ sizeLine ∧ (p == sysModules) = false ∧ ∃ vs, KV kvs vs ∧ s.heap.DictOf (mixKind X.prog X.w) p vs := I.hok p _ hx
      have hlen : kvs.length = vs.length := Paired.length r
      exact wpAny_truthy_dict hS m (by omega) ⟨H, I.tok _, by rw [isEmpty_kv r]; exact q⟩
  | _ => exact (show False from e).elim
theorem pt_truth (ha : PE X a ta) (he : ∀ whole, isTrue a X.env whole = (do let v ← whole; standAt a.pos; holding [v] (truthy v))) :
    PT X a (fun σ H Q => ta σ H fun x H' => ∃ k, TruV X.K x H' k ∧ Q k H') := by
  intro pins s σ H Q I h
  exact isTrue_plain (thn (ha pins s σ H _ I h) fun v s1 ⟨x, H1, I1, r1, q1⟩ => tru_ok pins s1 σ H1 x v Q I1 r1 q1) (he _)
theorem vals1 {x : V} {us : List Value} (r : Vals [x] us) : ∃ u, us = [u] ∧ RelV x u := by
  cases r with
  | cons r1 r2 => cases r2; exact ⟨_, rfl, r1⟩
theorem vals2 {x y : V} {us : List Value} (r : Vals [x, y] us) : ∃ u w', us = [u, w'] ∧ RelV x u ∧ RelV y w' := by
  cases r with
  | cons r1 r2 =>
    cases r2 with
    | cons r3 r4 => cases r4; exact ⟨_, _, rfl, r1, r3⟩
theorem call_abs : CallR X (.builtin "abs") (fun xs H Q => ∃ i, xs = [.int i] ∧ Q (.int (if i < 0 then -i else i)) H) := by
  intro pins s σ H xs us Q I r h
  obtain ⟨i, rfl, q⟩ := h
  obtain ⟨u, rfl, t, rfl⟩ := vals1 r
  exact call_abs_int fun u tk => ⟨.int (if i < 0 then -i else i), H, I.tok _, ⟨_, rfl⟩, q⟩
theorem call_max2 (hc : X.calm = true) : CallR X (.builtin "max") (fun xs H Q => ∃ i j, xs = [.int i, .int j] ∧ Q (.int (if j > i then j else i)) H) := by
  intro pins s σ H xs us Q I r h
  obtain ⟨i, j, rfl, q⟩ := h
  obtain ⟨u, w', rfl, ⟨t, rfl⟩, ⟨t', rfl⟩⟩ := vals2 r
  refine max_two_ints (I.ok.hd hc) fun h' tk k => ⟨_, H, I.kept k, ?_, q⟩
  by_cases hj : j > i
  · rw [if_pos hj, if_pos hj]; exact ⟨_, rfl⟩
  · rw [if_neg hj, if_neg hj]; exact ⟨_, rfl⟩
theorem call_int1 : CallR X (.type "int") (fun xs H Q => (∃ i, xs = [.int i] ∧ Q (.int i) H) ∨ ∃ k, xs = [.bl k] ∧ Q (.int (if k then 1 else 0)) H) := by
  intro pins s σ H xs us Q I r h
  rcases h with ⟨i, rfl, q⟩ | ⟨k, rfl, q⟩
  · obtain ⟨u, rfl, t, rfl⟩ := vals1 r
    exact call_int_int ⟨.int i, H, I, ⟨_, rfl⟩, q⟩
  · obtain ⟨u, rfl, r1⟩ := vals1 r
    cases r1
    exact call_int_bool ⟨.int (if k then 1 else 0), H, I.tok _, ⟨_, rfl⟩, q⟩
end
end L2
namespace L2
open PySem PySem.Spec PyProof.Rows
structure ObjM (h : Heap) (x dx C : Addr) (mA : Str → Option Value) : Prop where
  obj : h.get? x = some (PySem.W.instObj C dx)
  ns : h.Ns1 dx mA
  ne : dx ≠ x
theorem lookIn_ns {h : Heap} {dx : Addr} {mA : Str → Option Value} (n : h.Ns1 dx mA) : ∃ od, h.get? dx = some od ∧ ∀ name, PySem.W.lookIn name od = some (mA name) := by
  obtain ⟨o, es, ep, ho, hd, hk, _, hm⟩ := n
  refine ⟨o, ho, fun name => ?_⟩
  have e := hm name
  unfold nsFind findBy at e
  rw [← Array.find?_toList] at e
  unfold PySem.W.lookIn
  rw [hd]
  dsimp only
  split
  · rename_i y q
    rw [q] at e
    exact congrArg some e
  · rename_i q
    rw [q] at e
    have a : es.toList.any (·.refKey) = false := by
      rw [List.any_eq_false]
      intro y hy
      obtain ⟨z, t, hkey⟩ := hk y (Array.mem_toList_iff.mp hy)
      simp [DictEntry.refKey, hkey]
    have a' : ¬ es.toList.any (·.refKey) = true := by rw [a]; exact Bool.false_ne_true
    rw [if_neg a']
    exact congrArg some e
theorem ObjM.look {h : Heap} {x dx C : Addr} {mA : Str → Option Value} (I : ObjM h x dx C mA) : ∃ od, PySem.W.InstAt h x (PySem.W.instObj C dx) C (some od) ∧ ∀ name, PySem.W.lookIn name od = some (mA name) :=
  let ⟨od, ho, hl⟩ := lookIn_ns I.ns
  ⟨od, ⟨I.obj, rfl, rfl, ho⟩, hl⟩
section
variable {prog : Program} {w : World} {A : Around} {E : Value → Shared → Prop} {s : Shared} {K : PySem.W.Frag} {x dx C f : Addr} {mA : Str → Option Value} {name : Str} {v : Value}
end
section
variable {P : Program} {w : World} {H H' : Hp} {h h' : Heap} {a C dx : Addr} {fs fs' : List (Str × V)}
theorem ins_get (hok : HOk P w H h) (e : H a = some (.ins C dx fs)) : ∃ mA, ObjM h a dx C mA ∧ (∀ f, RelO (fs.lookup f) (mA f)) ∧ PySem.Within mA (fs.map (·.1)) ∧ fs.length ≤ 1000 ∧ H dx = some (.own a) := by
  obtain ⟨d, z, ne, ob, mA, n, r, q⟩ := (show ObjOk P w H h a (.ins C dx fs) from hok a _ e)
  exact ⟨mA, ⟨ob, n, ne⟩, r, q, z, d⟩
end
structure Cls (K : PySem.W.Frag) (C : Addr) : Prop where
  pg : PySem.W.plainGet K C Str.empty = true
  hd : PySem.W.hasDictIn K C = true
  po : PySem.W.plainOver K C = true
  sa : PySem.W.findIn K (.ref C) "__setattr__" = some (some (.builtin "object.__setattr__"))
theorem Cls.get {K : PySem.W.Frag} {C : Addr} (c : Cls K C) (f : Str) : PySem.W.plainGet K C f = true := c.pg
section
variable {X : Cx} {pins : List (Addr × Obj)} {σ : St} {H : Hp} {s : Shared} {a C dx : Addr} {fs : List (Str × V)} {f : Str} {v : V} {A : Around} {E : Value → Shared → Prop}
end
section
variable {X : Cx} {o e value : Expr} {f : Str} {pos pos' tpos : Pos} {ta tv : TE}
end
section
variable {X : Cx} {pins : List (Addr × Obj)} {σ : St} {H : Hp} {s : Shared} {A : Around} {E : Value → Shared → Prop} {Q : Value → Shared → Prop} {c : Value} {b : Bool}
inductive TyOf (K : PySem.W.Frag) (H : Hp) : V → Value → Prop where
  | non : TyOf K H .non (.type "NoneType")
  | bl (x : Bool) : TyOf K H (.bl x) (.type "bool")
  | int (i : Int) : TyOf K H (.int i) (.type "int")
  | str (x : Str) : TyOf K H (.str x) (.type "str")
  | flt (x : UInt64) : TyOf K H (.flt x) (.type "float")
  | lst {a : Addr} {xs : List V} (e : H a = some (.lst xs)) : TyOf K H (.ref a) (.type "list")
  | frz {a : Addr} {o : Obj} {xs : List V} (e : H a = some (.frz o (.lst xs))) : TyOf K H (.ref a) (.type "list")
  | tup {a : Addr} {xs : List V} (e : H a = some (.tup xs)) : TyOf K H (.ref a) (.type "tuple")
  | dK {a : Addr} {kvs : List (Key × V)} (e : H a = some (.dK kvs)) : TyOf K H (.ref a) (.type "dict")
  | dT {a : Addr} {kvs : List (List Key × V)} (e : H a = some (.dT kvs)) : TyOf K H (.ref a) (.type "dict")
  | ins {a C dx : Addr} {fs : List (Str × V)} (e : H a = some (.ins C dx fs)) (cl : Cls K C) (ha : PySem.W.findIn K (.ref C) "__class__" = some (some (.builtin "object.__class__")))
      (hn : PySem.W.specialIn K (.builtin "object.__class__") "__get__" = some (some (.builtin "getset_descriptor.__get__"))) (htk : PySem.W.takesIn K (.builtin "object.__class__") = some true)
      (hm : PySem.W.mroIn K C (.type "object") = some true) : TyOf K H (.ref a) (.ref C)
theorem isinst_ok {x : V} {u t : Value} (I : Inv X pins σ H s) (rx : RelV x u) (ty : TyOf X.K H x t) (e : PySem.W.kitOne X.K t c = some b) (h : ∀ tk, Q (.bool b) { s with toks := tk }) :
    wpAny (model X.prog X.w) A (call (.builtin "isinstance") [u, c]) Q E s := by
  cases ty with
  | non => cases (show u = Value.none from rx); exact PySem.W.kia_one PySem.W.kitx_none I.kIn True.intro e (fun z => nomatch z) h
  | bl y => cases (show u = Value.bool y from rx); exact PySem.W.kia_one PySem.W.kitx_bool I.kIn True.intro e (fun z => nomatch z) h
  | int i => obtain ⟨t, q⟩ := (show ∃ t, u = Value.int i t from rx); cases q; exact PySem.W.kia_one PySem.W.kitx_int I.kIn True.intro e (fun z => nomatch z) h
  | str y => obtain ⟨t, q⟩ := (show ∃ t, u = Value.str y t from rx); cases q; exact PySem.W.kia_one PySem.W.kitx_str I.kIn True.intro e (fun z => nomatch z) h
  | flt y => obtain ⟨t, q⟩ := (show ∃ t, u = Value.float y t from rx); cases q; exact PySem.W.kia_one PySem.W.kitx_float I.kIn True.intro e (fun z => nomatch z) h
  | @lst a xs ea =>
    cases (show u = Value.ref a from rx)
    obtain ⟨_, _, n, _, h1⟩ := (show ObjOk X.prog X.w H s.heap a (.lst xs) from I.hok a _ ea)
    exact PySem.W.kia_one PySem.W.kitx_list I.kIn ⟨_, h1, rfl⟩ e (fun z => nomatch z) h
  | @frz a ob xs ea =>
    cases (show u = Value.ref a from rx)
    obtain ⟨_, _, _, n, _, h1⟩ := (show ObjOk X.prog X.w H s.heap a (.frz ob (.lst xs)) from I.hok a _ ea)
    exact PySem.W.kia_one PySem.W.kitx_list I.kIn ⟨_, h1, rfl⟩ e (fun z => nomatch z) h
  | @tup a xs ea =>
    cases (show u = Value.ref a from rx)
    obtain ⟨_, _, _, p⟩ := (show ObjOk X.prog X.w H s.heap a (.tup xs) from I.hok a _ ea)
    obtain ⟨o, h1, h2, _⟩ := p
    exact PySem.W.kia_one PySem.W.kitx_tuple I.kIn ⟨o, h1, h2⟩ e (fun z => nomatch z) h
  | @dK a kvs ea =>
    cases (show u = Value.ref a from rx)
    obtain ⟨_, _, vs, _, p⟩ := (show ObjOk X.prog X.w H s.heap a (.dK kvs) from I.hok a _ ea)
    obtain ⟨o, es, ep, h1, h2, _⟩ := p
    exact PySem.W.kia_one PySem.W.kitx_dict I.kIn ⟨o, h1, h2.1⟩ e (fun z => nomatch z) h
  | @dT a kvs ea =>
    cases (show u = Value.ref a from rx)
    obtain ⟨_, _, xs, _, o, es, ep, h1, h2, _⟩ := (show ObjOk X.prog X.w H s.heap a (.dT kvs) from I.hok a _ ea)
    exact PySem.W.kia_one PySem.W.kitx_dict I.kIn ⟨o, h1, h2.1⟩ e (fun z => nomatch z) h
  | @ins a C dx fs ea cl ha hn htk hm =>
    cases (show u = Value.ref a from rx)
    obtain ⟨mA, O, _⟩ := ins_get I.hok ea
    obtain ⟨od, J, _⟩ := O.look
    exact PySem.W.kia_one (PySem.W.kitx_own (cl.get _) cl.hd ha hn htk hm) I.kIn J e (fun z => nomatch z) h
end
end L2
namespace L2
open PySem PySem.Spec PyProof.Rows
structure Room (k : Nat) (A : Around) : Prop where
  hd : A.handled = none
  dp : A.depth + 3 * k + 5 < recursionLimit
  un : A.units + 16 * k + 200 < cLine
  gd : A.guards = some []
theorem Room.mono {j k : Nat} {A : Around} (r : Room k A) (h : j ≤ k) : Room j A := ⟨r.hd, by have := r.dp; omega, by have := r.un; omega, r.gd⟩
theorem Room.deeper {k : Nat} {A : Around} (r : Room (k + 1) A) (env : Env) : Room k (A.deeper env) :=
  ⟨r.hd, by have := r.dp; show A.depth + 1 + 3 * k + 5 < _; omega, by have := r.un; show A.units + 3 + 16 * k + 200 < _; omega, r.gd⟩
theorem Room.depth {k : Nat} {A : Around} (r : Room k A) : A.depth < recursionLimit := by have := r.dp; omega
theorem Room.units {k : Nat} {A : Around} (r : Room k A) : A.units + 64 < cLine := by have := r.un; omega
def tNil : TA := fun _ H Q => Q [] H
def tCons (ta : TE) (tr : TA) : TA := fun σ H Q => ta σ H fun x H1 => tr σ H1 fun xs H2 => Q (x :: xs) H2
section
variable {X : Cx} {e : Expr} {es : List Expr} {te : TE} {t : TA} {pos : Pos}
theorem pa_nil : PA X [] tNil := fun _ _ _ _ H Q I h => Calls.spliced_nil ⟨[], H, I, .nil, h⟩
theorem pa_cons (ha : PE X e te) (hr : PA X es t) (hs : starEach (e :: es) X.env = (false, eval e X.env) :: starEach es X.env := by rfl) : PA X (e :: es) (tCons te t) := by
  intro pos pins s σ H Q I h
  rw [hs]
  show wpAny _ _ (spliced ((false, eval e X.env) :: backTo pos (starEach es X.env))) _ _ s
  refine Calls.spliced_cons (thn (ha pins s σ H _ I h) fun u s1 ⟨x, H1, I1, r1, q1⟩ => ?_)
  exact thn (hr pos pins s1 σ H1 _ I1 q1) fun us s2 ⟨xs, H2, I2, r2, q2⟩ => ⟨x :: xs, H2, I2, .cons r1 r2, q2⟩
def tTup (t : TA) : TE := fun σ H Q => t σ H fun xs H1 => xs.length ≤ sizeLine ∧ ∀ p, H1 p = none → Q (.ref p) (upd H1 p (.tup xs))
def tLst (t : TA) : TE := fun σ H Q => t σ H fun xs H1 => xs.length ≤ sizeLine ∧ ∀ p, H1 p = none → Q (.ref p) (upd H1 p (.lst xs))
theorem pe_tup {x1} (h : PA X es t) : PE X (.Tuple es x1 pos) (tTup t) := by
  intro pins s σ H Q I hq
  refine wpAny_Tuple_spliced (thn (h pos pins s σ H _ I hq) fun us s1 ⟨xs, H1, I1, r, z, q⟩ => ⟨by rw [← r.length]; exact z, ?_⟩)
  have hf : H1 s1.heap.objs.size = none := I1.hok.fresh (Nat.le_refl _)
  refine ⟨.ref s1.heap.objs.size, upd H1 s1.heap.objs.size (.tup xs), I1.laid (t' := s1.toks) (fun b u e => Heap.get?_push_of_some _ e) (Nat.le_refl _) ?_, rfl, q _ hf⟩
  exact ⟨z, us, r, ⟨_, Heap.get?_push_size _ rfl, rfl, _, rfl⟩⟩
theorem pe_lst (h : PA X es t) : PE X (.List es pos) (tLst t) := by
  intro pins s σ H Q I hq
  refine wpAny_List_spliced (thn (h pos pins s σ H _ I hq) fun us s1 ⟨xs, H1, I1, r, z, q⟩ => ⟨by rw [← r.length]; exact z, ?_⟩)
  have hf : H1 s1.heap.objs.size = none := I1.hok.fresh (Nat.le_refl _)
  refine ⟨.ref s1.heap.objs.size, upd H1 s1.heap.objs.size (.lst xs), I1.laid (t' := s1.toks) (fun b u e => Heap.get?_push_of_some _ e) (Nat.le_refl _) ?_, rfl, q _ hf⟩
  exact ⟨z, us, 0, r, Heap.get?_push_size _ rfl⟩
end
abbrev Sp := List V → Hp → VK → XK → Prop
abbrev CXT := List Env → Hp → Shared → XK → Value → Shared → Prop
structure Env0 (P : Program) (w : World) (K : PySem.W.Frag) (mg : Str → Option Value) (base : Heap) (A : Around) (outer : List Env) (s : Shared) (H : Hp) : Prop where
  frames : A.frames = some outer
  mod : Mod K mg base
  bs : ∀ b o, base.get? b = some o → s.heap.get? b = some o ∧ H b = none
  bsz : base.objs.size ≤ s.heap.objs.size
  funs : s.heap.FunFrames base outer
  frf : ∀ b ∈ frs outer, H b = none
  hok : HOk P w H s.heap
  bare : AllBare s.gens
def CE (outer : List Env) (P : Program) (w : World) (H : Hp) (s : Shared) (Q : VK) (u : Value) (s' : Shared) : Prop :=
  ∃ v H', s'.os = s.os ∧ AllBare s'.gens ∧ Un (frs outer) [] H H' s.heap s'.heap ∧ HOk P w H' s'.heap ∧ RelV v u ∧ Q v H'
def CR (CX : CXT) (outer : List Env) (P : Program) (w : World) (H : Hp) (s : Shared) (Q : VK) (E : XK) (r : Result) (s' : Shared) : Prop :=
  match r with
  | .ok (.ret u) => CE outer P w H s Q u s'
  | .ok _ => False
  | .error e => CX outer H s E e s'
structure FnOk (P : Program) (w : World) (K : PySem.W.Frag) (mg : Str → Option Value) (base : Heap) (CX : CXT) (k : Nat) (f : Addr) (fd : FuncData) (ps : List Str) (sp : Sp) : Prop where
  len : ∀ vs H Q E, sp vs H Q E → vs.length = ps.length
  run : ∀ (A : Around) (outer : List Env) (s : Shared) (H : Hp) (args : Args) (us : List Value) (vs : List V) (Q : VK) (E : XK), Room k A → Env0 P w K mg base A outer s H → BindsTo s fd args (ps.zip us) → Vals vs us → sp vs H Q E →
    codeAny (model P w) A (.call (.ref f) args) (CR CX outer P w H s Q E) s
section
variable {X : Cx} {pins : List (Addr × Obj)} {σ : St} {H : Hp} {s s' : Shared}
theorem Inv.env0 (I : Inv X pins σ H s) : Env0 X.prog X.w X.K X.mg X.base X.A X.stack s H :=
  ⟨I.ok.frames, I.ok.mod, I.bs, Nat.le_trans I.ok.bsz I.sz, I.stack, I.stkFree, I.hok, I.bare⟩
theorem Inv.after {Q : VK} {u : Value} (I : Inv X pins σ H s) (h : CE X.stack X.prog X.w H s Q u s') : EP X pins σ Q u s' := by
  obtain ⟨v, H', os, bare, un, hok, r, q⟩ := h
  obtain ⟨hh, g, d, t, os'⟩ := s'
  obtain rfl : os' = s.os := os
  exact ⟨v, H', I.call (h' := hh) (g' := g) (d' := d) (t' := t) (ch := []) un hok bare (fun b z => absurd z (by simp)), r, q⟩
end
def tCall (sp : Sp) (dvs : List V) (E : XK) (t : TA) : TE := fun σ H Q => t σ H fun vs H1 => sp (vs ++ dvs) H1 Q E
def Binds (K : PySem.W.Frag) (fd : FuncData) (ps : List Str) (ds : List Value) : Prop :=
  ∀ (s : Shared) (us : List Value), K.In s.heap → (us ++ ds).length = ps.length → BindsTo s fd ⟨us, []⟩ (ps.zip (us ++ ds))
theorem Binds.all {K : PySem.W.Frag} {fd : FuncData} {ps : List Str} (h : ∀ us : List Value, us.length = ps.length → bindArgs fd ⟨us, []⟩ = pure (ps.zip us)) : Binds K fd ps [] := fun s us _ hl => by
  rw [List.append_nil] at hl ⊢
  exact .of_eq (h us hl)
def Passes (CX : CXT) (X : Cx) (E : XK) : Prop := ∀ (pins : List (Addr × Obj)) (σ : St) (H : Hp) (s : Shared) (e : Value) (s' : Shared), Inv X pins σ H s → CX X.stack H s E e s' → X.xe e s'
section
variable {X : Cx} {CX : CXT} {k : Nat} {f C : Addr} {fd : FuncData} {ps : List Str} {sp : Sp} {dvs : List V} {ds : List Value} {E : XK} {x m : Str} {p pos apos : Pos} {e o : Expr} {es : List Expr} {ta : TE} {t : TA}
theorem run_fn {pins : List (Addr × Obj)} {σ : St} {H : Hp} {s : Shared} {Q : VK} {us : List Value} {vs : List V} (F : FnOk X.prog X.w X.K X.mg X.base CX k f fd ps sp) (hr : Room k X.A) (hb : Binds X.K fd ps ds) (hd : Vals dvs ds) (hx : Passes CX X E)
    (I : Inv X pins σ H s) (r : Vals vs us) (h : sp (vs ++ dvs) H Q E) : wpAny (model X.prog X.w) X.A (call (.ref f) us) (EP X pins σ Q) X.xe s := by
  have r2 : Vals (vs ++ dvs) (us ++ ds) := r.append hd
  have hl : (us ++ ds).length = ps.length := by rw [← r2.length]; exact F.len _ _ _ _ h
  refine wpAny_call (codeAny_mono (F.run X.A X.stack s H ⟨us, []⟩ (us ++ ds) (vs ++ dvs) Q E hr I.env0 (hb s us I.kIn hl) r2 h) fun r s' hq => ?_)
  cases r with
  | error e => exact hx pins σ H s e s' I hq
  | ok fl =>
    cases fl with
    | ret u => exact I.after hq
    | next => exact False.elim hq
    | brk => exact False.elim hq
    | cont => exact False.elim hq
theorem pe_call (F : FnOk X.prog X.w X.K X.mg X.base CX k f fd ps sp) (hr : Room k X.A) (hg : Gl X x) (hm : X.mg x = some (.ref f)) (hk : PySem.W.keepIn X.K (.ref f) = true) (hb : Binds X.K fd ps ds) (hd : Vals dvs ds) (hx : Passes CX X E)
    (ha : PA X (e :: es) t) (hdb : (x == ("__debug__" : Str)) = false := by decide) (he : starEach (e :: es) X.env = (false, eval e X.env) :: starEach es X.env := by rfl) (hpl : (backTo pos (starEach es X.env)).any (·.1) = false := by rfl) :
    PE X (.Call (.Name x p) (e :: es) [] pos) (tCall sp dvs E t) := by
  intro pins s σ H Q I h
  refine wpAny_Call_Name_kw (ld_glob I hg hm ?_ hdb)
  refine PySem.W.callWith_K (h₀ := X.base) I.ok.mod.kin hk (thn (ha pos pins s σ H _ I h) fun us s1 ⟨vs, H1, I1, r, q⟩ => ⟨I1.kIn, ?_⟩) he hpl
  exact run_fn F hr hb hd hx I1 r q
end
section
variable {X : Cx} {CX : CXT} {k : Nat} {f C : Addr} {fd : FuncData} {ps ks : List Str} {sp : Sp} {E : XK} {x m : Str} {p pos apos kpos : Pos} {e o : Expr} {es : List Expr} {kws : List Keyword} {te ta : TE} {t tk : TA} {nm : Option Str}
variable {g : List Value → List Value → List Value} {gV : List V → List V → List V}
end
structure FnScope (N P : List Str) (sc : Scope) : Prop where
  kind : sc.kind = .function
  co : sc.isCoroutine = false
  gen : sc.isGenerator = false
  nd : N.Nodup
  pre : N.take P.length = P
  par : ∀ x ∈ P, sc.names.lookup x = some .local ∨ sc.names.lookup x = some .cell
  nofree : ∀ y ∈ sc.names, y.2 ≠ .free
theorem bindL_out {kindOf : Str → Option NameKind} {x : Str} : ∀ {binds : List (Str × Value)} {m : Str → Option Value}, (∀ v, (x, v) ∉ binds) → bindL kindOf binds m x = m x
  | [], _, _ => rfl
  | (n, v) :: r, m, h => by
    unfold bindL
    rw [bindL_out fun w hw => h w (List.mem_cons_of_mem _ hw)]
    split
    · have : x ≠ n := by rintro rfl; exact h v List.mem_cons_self
      simp [this]
    · rfl
theorem bindC_out {kindOf : Str → Option NameKind} {x : Str} : ∀ {binds : List (Str × Value)} {m : Str → Option Value}, (∀ v, (x, v) ∉ binds) → bindC kindOf binds m x = m x
  | [], _, _ => rfl
  | (n, v) :: r, m, h => by
    unfold bindC
    rw [bindC_out fun w hw => h w (List.mem_cons_of_mem _ hw)]
    split
    · rfl
    · have : x ≠ n := by rintro rfl; exact h v List.mem_cons_self
      simp [this]
theorem bindL_get {kindOf : Str → Option NameKind} {x : Str} {v : Value} : ∀ {P : List Str} {vs : List Value} {i : Nat} {m : Str → Option Value}, P.Nodup → P[i]? = some x → vs[i]? = some v → kindOf x = some .local →
    bindL kindOf (P.zip vs) m x = some v
  | [], _, _, _, _, h, _, _ => by simp at h
  | _ :: _, [], _, _, _, _, h, _ => by simp at h
  | p :: P, w :: vs, 0, m, nd, h1, h2, hk => by
    simp at h1 h2; subst h1; subst h2
    show bindL kindOf ((p, w) :: P.zip vs) m p = _
    unfold bindL
    rw [bindL_out fun v hv => (List.nodup_cons.mp nd).1 (List.of_mem_zip hv).1, if_pos hk]
    simp
  | p :: P, w :: vs, i + 1, m, nd, h1, h2, hk => by
    show bindL kindOf ((p, w) :: P.zip vs) m x = _
    unfold bindL
    exact bindL_get (i := i) (List.nodup_cons.mp nd).2 (by simpa using h1) (by simpa using h2) hk
theorem bindC_get {kindOf : Str → Option NameKind} {x : Str} {v : Value} : ∀ {P : List Str} {vs : List Value} {i : Nat} {m : Str → Option Value}, P.Nodup → P[i]? = some x → vs[i]? = some v → kindOf x ≠ some .local →
    bindC kindOf (P.zip vs) m x = some v
  | [], _, _, _, _, h, _, _ => by simp at h
  | _ :: _, [], _, _, _, _, h, _ => by simp at h
  | p :: P, w :: vs, 0, m, nd, h1, h2, hk => by
    simp at h1 h2; subst h1; subst h2
    show bindC kindOf ((p, w) :: P.zip vs) m p = _
    unfold bindC
    rw [bindC_out fun v hv => (List.nodup_cons.mp nd).1 (List.of_mem_zip hv).1, if_neg hk]
    simp
  | p :: P, w :: vs, i + 1, m, nd, h1, h2, hk => by
    show bindC kindOf ((p, w) :: P.zip vs) m x = _
    unfold bindC
    exact bindC_get (i := i) (List.nodup_cons.mp nd).2 (by simpa using h1) (by simpa using h2) hk
def start (N : List Str) (vs : List V) : St := vs.map some ++ List.replicate (N.length - vs.length) none
def cxOf (CX : CXT) (P : Program) (w : World) (K : PySem.W.Frag) (mg : Str → Option Value) (base : Heap) (N : List Str) (qual : Str) (scope : Scope) (f : Addr) (cd : Value) (A : Around) (outer : List Env) (s : Shared) (H : Hp) (E : XK) : Cx where
  prog := P
  w := w
  K := K
  mg := mg
  base := base
  A := A.deeper (envOfC qual scope s.heap.objs.size f cd)
  N := N
  s₀ := s
  H₀ := H
  env := envOfC qual scope s.heap.objs.size f cd
  outer := outer
  stack := envOfC qual scope s.heap.objs.size f cd :: outer
  ex := []
  calm := true
  fn := fun _ => true
  pn := []
  xe := fun e s' => wpAny (model P w) (A.deeper (envOfC qual scope s.heap.objs.size f cd)) (leaving (envOfC qual scope s.heap.objs.size f cd) e) (fun _ s'' => CX outer H s E e s'') (fun e' s'' => CX outer H s E e' s'') s'
theorem cell_has {sc : Scope} {n : Nat} {x : Str} (h : sc.names.lookup x = some .cell) : ∃ c, (cellsFrom n sc.names []).lookup x = some c := by
  have q := PySem.W.cellsFrom_some sc.names n [] (.inl h)
  exact Option.isSome_iff_exists.mp q
theorem inv_start {CX : CXT} {P : Program} {w : World} {K : PySem.W.Frag} {mg : Str → Option Value} {base : Heap} {N ps : List Str} {qual : Str} {scope : Scope} {f : Addr} {cd : Value} {A : Around} {outer : List Env} {s s1 : Shared} {H : Hp} {E : XK} {us : List Value} {vs : List V}
    (S : FnScope N ps scope) (hd : A.handled = none) (e0 : Env0 P w K mg base A outer s H) (hl : vs.length = ps.length) (r : Vals vs us)
    (x : InCallC s s.heap.objs.size (bindL (envOfC qual scope s.heap.objs.size f cd).kindOf (ps.zip us) fun _ => none) (cellsFrom (s.heap.objs.size + 1) scope.names []) (bindC (envOfC qual scope s.heap.objs.size f cd).kindOf (ps.zip us) fun _ => none) s1) :
    Inv (cxOf CX P w K mg base N qual scope f cd A outer s H E) [] (start N vs) H s1 := by
  have hpl : ps.length ≤ N.length := by have := congrArg List.length S.pre; rw [List.length_take] at this; omega
  obtain ⟨h1, tk, rfl, hk⟩ := x.done
  have noA : ∀ b : Addr, b ∉ (cxOf CX P w K mg base N qual scope f cd A outer s H E).ex := fun b z => absurd (show b ∈ ([] : List Addr) from z) (by simp)
  refine ⟨⟨e0.mod, S.kind, rfl, rfl, Nat.le_refl _, fun y z c h1 h2 => ?_, fun y hy => ?_, fun y c _ h => ?_, fun _ => hd, Around.frames_deeper e0.frames, .inr ⟨rfl, rfl⟩, fun b z => absurd z (noA b), e0.bs, e0.bsz, fun b _ _ => noA b, fun b z => absurd z (noA b), e0.funs, e0.frf⟩,
    rfl, e0.bare, Un.kept hk, ⟨_, x.toInCall.ns, fun i y v h1 h2 h3 => ?_⟩, fun y c h => ⟨_, x.cell y c h⟩, e0.hok.fresh (Nat.le_refl _), fun y c h => ?_, fun p hp => absurd (show p ∈ ([] : List (Addr × Obj)) from hp) (by simp), e0.hok.kept hk, ?_⟩
  · exact name_of_addr x.apart (PySem.mem_of_lookup h1) (PySem.mem_of_lookup h2)
  · have hy : scope.names.lookup y = some .cell ∨ scope.names.lookup y = some .free := hy
    rcases hy with hy | hy
    · exact cell_has hy
    · exact absurd rfl (S.nofree _ (PySem.mem_of_lookup hy))
  · exact Nat.le_of_lt (x.above y c (PySem.mem_of_lookup h))
  · have hi : i < vs.length := by
      unfold start at h2
      by_cases hi : i < vs.length
      · exact hi
      · rw [List.getElem?_append_right (by simpa using hi)] at h2
        rw [List.getElem?_replicate] at h2
        split at h2 <;> cases h2
    have ha : vs[i]? = some v := by
      unfold start at h2
      rw [List.getElem?_append_left (by simpa using hi), List.getElem?_map] at h2
      cases e : vs[i]? with
      | none => rw [e] at h2; cases h2
      | some a => rw [e] at h2; cases h2; rfl
    obtain ⟨u, hu, rv⟩ := r.get ha
    have hp : ps[i]? = some y := by
      rw [← S.pre, List.getElem?_take_of_lt (by omega)]; exact h1
    have ndP : ps.Nodup := by rw [← S.pre]; exact S.nd.sublist (List.take_sublist _ _)
    refine ⟨u, rv, ?_⟩
    rcases S.par y (List.mem_of_getElem? hp) with k | k
    · exact .inl ⟨k, bindL_get ndP hp hu k⟩
    · obtain ⟨c, e⟩ := cell_has (n := s.heap.objs.size + 1) k
      refine .inr ⟨.inl k, c, e, ?_⟩
      have q := x.cell y c e
      rw [bindC_get ndP hp hu (by show scope.names.lookup y ≠ _; rw [k]; decide)] at q
      exact q
  · exact e0.hok.fresh (Nat.le_of_lt (x.above y c (PySem.mem_of_lookup h)))
  · unfold start
    show _ = N.length
    rw [List.length_append, List.length_map, List.length_replicate]
    omega
theorem fn_of {CX : CXT} {P : Program} {w : World} {K : PySem.W.Frag} {mg : Str → Option Value} {base : Heap} {k : Nat} {f : Addr} {name qual : Str} {params : Arguments} {body : List Stmt} {scope : Scope} {dV kV doc pm cdv ct oc : Value} {an od : Option Addr}
    {osl : Array (Option Value)} {N ps : List Str} {sp : Sp} (lk : K.lookup f = some ⟨oc, od, .func (PySem.W.fnOf name qual params body scope dV kV doc pm an cdv ct), osl⟩) (hcd : PySem.W.codeIn K cdv qual = true) (S : FnScope N ps scope)
    (len : ∀ vs H Q E, sp vs H Q E → vs.length = ps.length)
    (hbody : ∀ (A : Around) (outer : List Env) (s : Shared) (H : Hp) (vs : List V) (Q : VK) (E : XK), Room k (A.deeper (envOfC qual scope s.heap.objs.size f cdv)) → sp vs H Q E →
      ∃ t, PSs (cxOf CX P w K mg base N qual scope f cdv A outer s H E) body t ∧ t { nx := fun _ H' => Q .non H', rt := Q } (start N vs) H) :
    FnOk P w K mg base CX (k + 1) f (PySem.W.fnOf name qual params body scope dV kV doc pm an cdv ct) ps sp := by
  refine ⟨len, fun A outer s H args us vs Q E hr e0 hb r hsp => ?_⟩
  have hl := len _ _ _ _ hsp
  have KX : K.In s.heap := e0.mod.kin.keeps fun b o e => (e0.bs b o e).1
  have lim : s.heap.NoLimit := e0.mod.nolimit.keeps fun b o e => (e0.bs b o e).1
  have hkind : ∀ y ∈ ps.zip us, scope.names.lookup y.1 = some .local ∨ (scope.names.lookup y.1 = some .cell ∧ ((cellsFrom (s.heap.objs.size + 1) scope.names []).lookup y.1).isSome = true) := fun ⟨n, v⟩ hy => by
    rcases S.par n (List.of_mem_zip hy).1 with q | q
    · exact .inl q
    · exact .inr ⟨q, PySem.W.cellsFrom_some _ _ _ (.inl q)⟩
  refine codeAny_call_function hr.depth (KX _ _ lk) rfl S.co S.gen rfl (PySem.W.codeRec_of KX hcd) (hb _ _ _ _ ?_)
  refine wpAny_newFunctionEnv_cells S.kind hkind fun env he s1 x => ?_
  subst he
  refine ⟨lim.keeps x.toInCall.keep, codeAny_func ?_⟩
  obtain ⟨t, ht, hq⟩ := hbody A outer s H vs Q E (hr.deeper _) hsp
  have I : Inv (cxOf CX P w K mg base N qual scope f cdv A outer s H E) [] (start N vs) H s1 := inv_start S hr.hd e0 hl r x
  refine wpAny_mono (ht [] s1 (start N vs) H _ I hq) (fun fl s' hs => ?_) fun e s' hs => hs
  have fin : ∀ {σ' : St} {H' : Hp} {v : V} {u : Value}, Inv (cxOf CX P w K mg base N qual scope f cdv A outer s H E) [] σ' H' s' → RelV v u → Q v H' → CE outer P w H s Q u s' :=
    fun {σ' H' v u} J rv q => ⟨v, H', J.os, J.bare, J.base, J.hok, rv, q⟩
  cases fl with
  | ret u =>
    obtain ⟨v, σ', H', J, rv, q⟩ := hs
    exact fin J rv q
  | next =>
    obtain ⟨σ', H', J, q⟩ := hs
    exact fin (v := V.non) (u := Value.none) J rfl q
  | brk =>
    obtain ⟨_, _, _, q⟩ := hs
    exact False.elim q
  | cont =>
    obtain ⟨_, _, _, q⟩ := hs
    exact False.elim q
end L2
namespace L2
open PySem PySem.Spec PyProof.Rows
section
variable {X : Cx} {x : Str} {p pos : Pos} {e : Expr} {es : List Expr} {t : TA} {id T : String} {r : List V → Hp → VK → Prop}
def tCB (r : List V → Hp → VK → Prop) (t : TA) : TE := fun σ H Q => t σ H fun vs H1 => r vs H1 Q
theorem pe_callB (hc : CallR X (.builtin id) r) (hg : Gl X x) (hm : X.mg x = none) (hv : bootBuiltins x = some (.builtin id)) (ha : PA X (e :: es) t) (hn : x ≠ "__name__" := by decide) (hdb : (x == ("__debug__" : Str)) = false := by decide)
    (he : starEach (e :: es) X.env = (false, eval e X.env) :: starEach es X.env := by rfl) (hpl : (backTo pos (starEach es X.env)).any (·.1) = false := by rfl) : PE X (.Call (.Name x p) (e :: es) [] pos) (tCB r t) := by
  intro pins s σ H Q I h
  refine wpAny_Call_Name_kw (ld_blt I hg hm hv ?_ hn hdb)
  exact PyProof.Rows.callWith_builtin1 (thn (ha pos pins s σ H _ I h) fun us s1 ⟨vs, H1, I1, r1, q1⟩ => hc pins s1 σ H1 vs us Q I1 r1 q1) he hpl
theorem pe_callTy (hc : CallR X (.type T) r) (hg : Gl X x) (hm : X.mg x = none) (hv : bootBuiltins x = some (.type T)) (ha : PA X (e :: es) t) (hn : x ≠ "__name__" := by decide) (hdb : (x == ("__debug__" : Str)) = false := by decide)
    (he : starEach (e :: es) X.env = (false, eval e X.env) :: starEach es X.env := by rfl) (hpl : (backTo pos (starEach es X.env)).any (·.1) = false := by rfl) : PE X (.Call (.Name x p) (e :: es) [] pos) (tCB r t) := by
  intro pins s σ H Q I h
  refine wpAny_Call_Name_kw (ld_blt I hg hm hv ?_ hn hdb)
  exact PyProof.Rows.callWith_type1 (thn (ha pos pins s σ H _ I h) fun us s1 ⟨vs, H1, I1, r1, q1⟩ => hc pins s1 σ H1 vs us Q I1 r1 q1) he hpl
end
end L2
namespace HT
open PySem PyProof.Rows
section
open PySem.SeqAt
open PySem.AutoSeq1 (wpAny_loadPart')
open PySem.MeetsSeq PySem.MeetsSeq2 PySem.MeetsSeq3
end
section
variable {prog : Program} {w : World} {A : Around} {E : Value → Shared → Prop} {s : Shared}
def sIx (n d : Nat) : Option Int → Nat
  | none => d
  | some v => if v < 0 then (v + (n : Int)).toNat else min v.toNat n
theorem sIx_none (n d : Nat) : sIx n d none = d := rfl
theorem sIx_nat (n d k : Nat) : sIx n d (some (k : Int)) = min k n := by
  show (if (k : Int) < 0 then ((k : Int) + (n : Int)).toNat else min (k : Int).toNat n) = min k n
  rw [if_neg (by omega), Int.toNat_natCast]
theorem sIx_le (n d : Nat) (hd : d ≤ n) (o : Option Int) : sIx n d o ≤ n := by
  cases o with
  | none => exact hd
  | some v =>
    show (if v < 0 then (v + (n : Int)).toNat else min v.toNat n) ≤ n
    by_cases hv : v < 0
    · rw [if_pos hv]; omega
    · rw [if_neg hv]; exact Nat.min_le_right _ _
theorem clip_eq (v : Int) (n d : Nat) : (if v < 0 then max (v + (n : Int)) 0 else min v (n : Int)) = ((sIx n d (some v) : Nat) : Int) := by
  show (if v < 0 then max (v + (n : Int)) 0 else min v (n : Int)) = (((if v < 0 then (v + (n : Int)).toNat else min v.toNat n) : Nat) : Int)
  by_cases hv : v < 0
  · simp only [if_pos hv]; omega
  · simp only [if_neg hv]; omega
theorem adjust_gen (lo hi : Option Int) (n : Nat) : Builtin.Slice.sliceAdjust lo hi 1 (n : Int) = (((sIx n 0 lo : Nat) : Int), ((sIx n n hi : Nat) : Int)) := by
  have h1 : ¬ ((1 : Int) < 0) := by omega
  unfold Builtin.Slice.sliceAdjust
  simp only [h1, if_false]
  refine Prod.ext ?_ ?_
  · cases lo with
    | none => rfl
    | some v => exact clip_eq v n 0
  · cases hi with
    | none => rfl
    | some v => exact clip_eq v n n
theorem places_gen (i j : Nat) : Builtin.Slice.slicePlaces (i : Int) (j : Int) 1 = j - i := by
  unfold Builtin.Slice.slicePlaces
  have h1 : (1 : Int) > 0 := by omega
  simp only [h1, if_true, Int.ediv_one]
  split <;> omega
theorem slicePart_ {v : Value} {o : Option Int} {Q : Option Int → Shared → Prop} (p : IsPart v o) (h : Q o s) : wpAny (model prog w) A (Builtin.Slice.slicePartIndex v) Q E s := by
  cases p with
  | none => exact slicePart_none h
  | int i t => exact slicePart_int h
theorem sliceApplied_gen {sl : Addr} {vl vu : Value} {lo hi : Option Int} {n : Nat} {Q : Int × Int × Nat → Shared → Prop} (hs : s.heap.IsSliceOf sl vl vu .none) (pl : IsPart vl lo) (pu : IsPart vu hi)
    (h : Q (((sIx n 0 lo : Nat) : Int), 1, sIx n n hi - sIx n 0 lo) s) : wpAny (model prog w) A (Builtin.Slice.sliceApplied (.ref sl) (pure (n : Int))) Q E s := by
  obtain ⟨os, hos, hcs, hds⟩ := id hs
  unfold Builtin.Slice.sliceApplied Builtin.Slice.sliceFields
  refine wpAny_bind (wpAny_bind (wpAny_field hos hds (x := vl) rfl (wpAny_bind (wpAny_field hos hds (x := vu) rfl (wpAny_bind (wpAny_field hos hds (x := .none) rfl (wpAny_pure ?_)))))))
  refine wpAny_bind (slicePart_none ?_)
  show wpAny _ _ (if ((1 : Int) == 0) = true then _ else _) _ _ s
  rw [if_neg (by decide)]
  refine wpAny_bind (slicePart_ pl (wpAny_bind (slicePart_ pu (wpAny_bind (wpAny_pure ?_)))))
  show wpAny _ _ (match Builtin.Slice.sliceAdjust lo hi 1 (n : Int) with | (lo, hi) => pure (lo, (1 : Int), Builtin.Slice.slicePlaces lo hi 1)) _ _ s
  rw [adjust_gen lo hi n]
  show wpAny _ _ (pure (((sIx n 0 lo : Nat) : Int), (1 : Int), Builtin.Slice.slicePlaces ((sIx n 0 lo : Nat) : Int) ((sIx n n hi : Nat) : Int) 1)) _ _ s
  rw [places_gen]
  exact wpAny_pure h
theorem pick_gen (xs : Array Value) (i k : Nat) : ((List.range k).filterMap fun (m : Nat) => xs[((i : Int) + (m : Int) * 1).toNat]?).toArray = ((xs.toList.drop i).take k).toArray := by
  have e : (fun (m : Nat) => xs[((i : Int) + (m : Int) * 1).toNat]?) = fun m => xs[i + m]? := by
    funext m
    have : ((i : Int) + (m : Int) * 1).toNat = i + m := by omega
    rw [this]
  rw [e]
  have := pick_run xs i k
  rw [List.filterMap_map] at this
  have e2 : ((fun x => xs[x]?) ∘ fun x => i + x) = fun m => xs[i + m]? := rfl
  rw [e2] at this
  rw [this]
theorem getItem_tuple_cut {t sl : Addr} {items : Array Value} {vl vu : Value} {lo hi : Option Int} {Q : Value → Shared → Prop} (ht : IsTup s.heap t items) (hs : s.heap.IsSliceOf sl vl vu .none) (pl : IsPart vl lo) (pu : IsPart vu hi)
    (hw : ¬ (sIx items.size 0 lo = 0 ∧ sIx items.size items.size hi = items.size))
    (h : Q (.ref s.heap.objs.size) { s with heap := s.heap.push { cls := .type "tuple", data := .seq ((items.toList.drop (sIx items.size 0 lo)).take (sIx items.size items.size hi - sIx items.size 0 lo)).toArray } })
    (hsz : items.size ≤ sizeLine) : wpAny (model prog w) A (getItem (.ref t) (.ref sl)) Q E s := by
  have htake : sizeOk (.seq ((items.toList.drop (sIx items.size 0 lo)).take (sIx items.size items.size hi - sIx items.size 0 lo)).toArray) := by
    show ((items.toList.drop (sIx items.size 0 lo)).take (sIx items.size items.size hi - sIx items.size 0 lo)).toArray.size ≤ sizeLine
    rw [List.size_toArray, List.length_take, List.length_drop, Array.length_toList]
    omega
  have hj : sIx items.size items.size hi ≤ items.size := sIx_le _ _ (Nat.le_refl _) hi
  obtain ⟨os, hos, hcs, hds⟩ := id hs
  have hTs : s.TypeIs (.ref sl) "slice" := ⟨os, hos, hcs⟩
  unfold getItem
  try with_reducible refine wpAny_holding ?_
  first | refine wpAny_bind (wpAny_pure ?_) | skip
  refine wpAny_bind (wpAny_sequenceKey ht.typeIs (by decide) ?_)
  refine wpAny_bind (wpAny_callSpecial?_slot (name := Str.ofString "__getitem__") ht.typeIs PyProof.Rows.slot_tuple_getitem
    (wpAny_call_entry PyProof.Rows.slot_tuple_getitem ht.typeIs entry_tuple_getitem ?_ (args_tuple_getitem _ _)))
  show wpAny _ _ (Builtin.Tuple.tupleItemsOf (.ref t) >>= _) _ _ s
  refine wpAny_bind (tupleItemsOf_ ht ?_)
  refine wpAny_bind (wpAny_typeOf hTs ?_)
  rw [if_pos (by decide)]
  refine wpAny_bind (sliceApplied_gen hs pl pu ?_)
  have hno : ¬ ((((sIx items.size 0 lo : Nat) : Int) == 0 && (1 : Int) == 1 && (sIx items.size items.size hi - sIx items.size 0 lo) == items.size) = true) := by
    intro q
    rw [Bool.and_eq_true, Bool.and_eq_true] at q
    have q1 : ((sIx items.size 0 lo : Nat) : Int) = 0 := eq_of_beq q.1.1
    have q2 : sIx items.size items.size hi - sIx items.size 0 lo = items.size := eq_of_beq q.2
    exact hw ⟨by omega, by omega⟩
  show wpAny _ _ (if (((sIx items.size 0 lo : Nat) : Int) == 0 && (1 : Int) == 1 && (sIx items.size items.size hi - sIx items.size 0 lo) == items.size) = true then _ else _) _ _ s
  rw [if_neg hno, pick_gen]
  first
    | exact wpAny_bind (m := Builtin.Tuple.tupleExact _) (wpAny_newObj_type (wpAny_pure ⟨_, rfl, wpAny_pure h⟩) htake)
    | exact wpAny_bind (m := Builtin.Tuple.tupleExact _) (wpAny_newObj_type (wpAny_bind (wpAny_pure (wpAny_pure ⟨_, rfl, wpAny_pure h⟩))) htake)
    | exact wpAny_bind (wpAny_bind (m := Builtin.Tuple.tupleExact _) (wpAny_newObj_type (wpAny_pure (wpAny_pure ⟨_, rfl, wpAny_pure h⟩)) htake))
    | exact wpAny_bind (wpAny_bind (m := Builtin.Tuple.tupleExact _) (wpAny_newObj_type (wpAny_pure ⟨_, rfl, wpAny_pure h⟩) htake))
end
end HT
namespace L2
open PySem PySem.Spec PyProof.Rows
abbrev TO := St → Hp → (Option Int → Hp → Prop) → Prop
def PO (X : Cx) (e : Option Expr) (t : TO) : Prop :=
  ∀ (pins : List (Addr × Obj)) (s : Shared) (σ : St) (H : Hp) (Q : Option Int → Hp → Prop), Inv X pins σ H s → t σ H Q →
    wpAny (model X.prog X.w) X.A (evalPart e X.env) (fun u s' => ∃ o H', Inv X pins σ H' s' ∧ IsPart u o ∧ Q o H') X.xe s
def tNoPart : TO := fun _ H Q => Q none H
def tPart (t : TE) : TO := fun σ H Q => t σ H fun x H1 => ∃ i, x = .int i ∧ Q (some i) H1
theorem intsAre_of {ns : List Int} : ∀ {us : List Value}, Vals (ns.map V.int) us → IntsAre us ns := by
  induction ns with
  | nil => intro us r; rw [List.map_nil] at r; cases r; exact .nil
  | cons n ns ih =>
    intro us r
    rw [List.map_cons] at r
    cases r with
    | cons r1 r2 =>
      obtain ⟨t, e⟩ := r1
      subst e
      exact .cons n t (ih r2)
section
variable {X : Cx} {e : Expr} {te : TE} {lo hi : Option Expr} {tl th : TO} {pos p2 : Pos}
theorem po_none : PO X none tNoPart := by
  intro pins s σ H Q I h
  rw [evalPart_none]
  exact wpAny_pure ⟨none, H, I, .none, h⟩
theorem po_some (h : PE X e te) : PO X (some e) (tPart te) := by
  intro pins s σ H Q I hw
  rw [evalPart_some]
  refine thn (h pins s σ H _ I hw) fun u s1 ⟨x, H1, I1, r1, q1⟩ => ?_
  obtain ⟨i, rfl, q⟩ := q1
  obtain ⟨t, rfl⟩ := r1
  exact ⟨some i, H1, I1, .int i t, q⟩
def SlR (X : Cx) (r : V → Option Int → Option Int → Hp → VK → Prop) : Prop :=
  ∀ (pins : List (Addr × Obj)) (s : Shared) (σ : St) (H : Hp) (x : V) (v vl vu : Value) (lo hi : Option Int) (sl : Addr) (Q : VK), Inv X pins σ H s → RelV x v → s.heap.IsSliceOf sl vl vu .none → IsPart vl lo → IsPart vu hi → r x lo hi H Q →
    ∃ T id, typeLookup (.type T) "__getitem__" = pure (some (.builtin id)) ∧ s.TypeIs v T ∧ wpAny (model X.prog X.w) X.A (getItem v (.ref sl)) (EP X pins σ Q) X.xe s
def tSl (r : V → Option Int → Option Int → Hp → VK → Prop) (te : TE) (tl th : TO) : TE := fun σ H Q => te σ H fun x H1 => tl σ H1 fun l H2 => th σ H2 fun u H3 => r x l u H3 Q
theorem pe_slice {r : V → Option Int → Option Int → Hp → VK → Prop} (hr : SlR X r) (he : PE X e te) (hl : PO X lo tl) (hu : PO X hi th) : PE X (.Subscript e (.Slice lo hi none p2) pos) (tSl r te tl th) := by
  intro pins s σ H Q I h
  refine Subscript_ (thn (he pins s σ H _ I h) fun v s1 ⟨x, H1, I1, r1, q1⟩ => ?_)
  refine wpAny_Slice (thn (hl pins s1 σ H1 _ I1 q1) fun vl s2 ⟨l, H2, I2, pl, q2⟩ => thn (hu pins s2 σ H2 _ I2 q2) fun vu s3 ⟨u, H3, I3, pu, q3⟩ => ?_)
  rw [evalPart_none]
  refine wpAny_pure ?_
  have I4 : Inv X pins σ H3 { s3 with heap := s3.heap.push { cls := .type "slice", data := .fields #[vl, vu, .none] } } := I3.kept (t' := s3.toks) fun b ob q => Heap.get?_push_of_some _ q
  obtain ⟨T, id, hT, ht, hg⟩ := hr pins { s3 with heap := s3.heap.push { cls := .type "slice", data := .fields #[vl, vu, .none] } } σ H3 x v vl vu l u s3.heap.objs.size Q I4 r1 (Heap.IsSliceOf.new ..) pl pu q3
  show wpAny (model X.prog X.w) X.A (subscriptTail e (.Slice lo hi none p2) v (.ref s3.heap.objs.size)) (EP X pins σ Q) X.xe { s3 with heap := s3.heap.push { cls := .type "slice", data := .fields #[vl, vu, .none] } }
  exact tail_any (ops := [.ref s3.heap.objs.size, v]) ht hT hg (by with_unfolding_all rfl)
def cutV (xs : List V) (lo hi : Option Int) : List V := (xs.drop (HT.sIx xs.length 0 lo)).take (HT.sIx xs.length xs.length hi - HT.sIx xs.length 0 lo)
theorem cutV_length (xs : List V) (lo hi : Option Int) : (cutV xs lo hi).length ≤ xs.length := by
  unfold cutV
  rw [List.length_take, List.length_drop]
  omega
def rSlT (K : PySem.W.Frag) : V → Option Int → Option Int → Hp → VK → Prop := fun x lo hi H Q => ∃ a xs, x = .ref a ∧ SqT K H a xs ∧
  ¬ (HT.sIx xs.length 0 lo = 0 ∧ HT.sIx xs.length xs.length hi = xs.length) ∧ ∀ p, H p = none → Q (.ref p) (upd H p (.tup (cutV xs lo hi)))
theorem sl_tup : SlR X (rSlT X.K) := by
  intro pins s σ H x v vl vu lo hi sl Q I rx hs pl pu h
  obtain ⟨a, xs, rfl, hx, hw, q⟩ := h
  cases rx
  obtain ⟨its, r, ht, hz⟩ := I.tuple hx
  have hlen : its.toArray.size = xs.length := by rw [List.size_toArray]; exact r.length.symm
  refine ⟨"tuple", _, PyProof.Rows.slot_tuple_getitem.lookup, ht.typeIs, ?_⟩
  refine HT.getItem_tuple_cut ht hs pl pu (by rw [hlen]; exact hw) ?_ (by rw [hlen]; exact hz)
  rw [hlen]
  refine ⟨.ref s.heap.objs.size, _, I.laid (t' := s.toks) (o := .tup (cutV xs lo hi)) (fun b ob q => Heap.get?_push_of_some _ q) (Nat.le_refl _) ?_, rfl, q _ (I.hok.fresh (Nat.le_refl _))⟩
  exact ⟨Nat.le_trans (cutV_length xs lo hi) hz, _, (r.drop (HT.sIx xs.length 0 lo)).take (HT.sIx xs.length xs.length hi - HT.sIx xs.length 0 lo), IsTup.new _ _⟩
end
end L2
namespace L2
open PySem PySem.Spec PyProof.Rows
def ixN (n : Nat) (i : Int) : Option Nat := if 0 ≤ i then (if i < n then some i.toNat else none) else if -(n : Int) ≤ i then some (i + n).toNat else none
def atI {α : Type} (xs : List α) (i : Int) : Option α := (ixN xs.length i).bind fun j => xs[j]?
theorem ixN_seq {n : Nat} {i : Int} {j : Nat} (h : ixN n i = some j) : seqIndex? i n = some j ∧ j < n ∧ -(n : Int) ≤ i ∧ i < n := by
  unfold ixN at h
  by_cases h0 : 0 ≤ i
  · rw [if_pos h0] at h
    by_cases h1 : i < n
    · rw [if_pos h1] at h
      have e : i.toNat = j := Option.some.inj h
      exact ⟨by rw [seqIndex_of h0 h1, e], by omega, by omega, h1⟩
    · rw [if_neg h1] at h; cases h
  · rw [if_neg h0] at h
    by_cases h1 : -(n : Int) ≤ i
    · rw [if_pos h1] at h
      have e : (i + n).toNat = j := Option.some.inj h
      exact ⟨by rw [seqIndex_neg (by omega) h1, e], by omega, h1, by omega⟩
    · rw [if_neg h1] at h; cases h
theorem atI_get {α : Type} {xs : List α} {i : Int} {v : α} (h : atI xs i = some v) : ∃ j, seqIndex? i xs.length = some j ∧ xs[j]? = some v ∧ j < xs.length ∧ -(xs.length : Int) ≤ i ∧ i < xs.length := by
  unfold atI at h
  cases e : ixN xs.length i with
  | none => rw [e] at h; cases h
  | some j =>
    rw [e] at h
    obtain ⟨h1, h2, h3, h4⟩ := ixN_seq e
    exact ⟨j, h1, h, h2, h3, h4⟩
theorem atI_nat {α : Type} {xs : List α} {j : Nat} {v : α} (h : xs[j]? = some v) : atI xs (j : Int) = some v := by
  have hj : j < xs.length := (List.getElem?_eq_some_iff.mp h).1
  have e : ixN xs.length (j : Int) = some j := by
    unfold ixN
    rw [if_pos (by omega), if_pos (by omega)]; simp
  unfold atI; rw [e]; exact h
def PlainIx (b : Expr) : Prop := ∀ o i, subscripted b false o i = operate [o, i] (getItem o i)
def IxR (X : Cx) (r : R2) : Prop :=
  ∀ (value slice : Expr) (pins : List (Addr × Obj)) (s : Shared) (σ : St) (H : Hp) (x y : V) (v u : Value) (Q : VK), Inv X pins σ H s → RelV x v → RelV y u → r x y H Q →
    subscripted slice false v u = operate [v, u] (getItem v u) → wpAny (model X.prog X.w) X.A (subscriptTail value slice v u) (EP X pins σ Q) X.xe s
def MtR (X : Cx) (id : String) (r : V → List V → Hp → VK → Prop) : Prop :=
  ∀ (pins : List (Addr × Obj)) (s : Shared) (σ : St) (H : Hp) (x : V) (xs : List V) (v : Value) (us : List Value) (Q : VK), Inv X pins σ H s → RelV x v → Vals xs us → r x xs H Q →
    wpAny (model X.prog X.w) X.A (call (.builtin id) (v :: us)) (EP X pins σ Q) X.xe s
section
variable {X : Cx} {a b : Expr} {ta tb : TE} {pos : Pos}
theorem pe_ix {r : R2} (hr : IxR X r) (ha : PE X a ta) (hb : PE X b tb) (hs : PlainIx b) : PE X (.Subscript a b pos) (tOp r ta tb) := by
  intro pins s σ H Q I h
  exact Subscript_ (binT ha hb I h fun v u s2 x y H2 I2 rx ry q => hr a b pins s2 σ H2 x y v u Q I2 rx ry q (hs _ _))
def rIxL (K : PySem.W.Frag) : R2 := fun x y H Q => ∃ p xs i v, x = .ref p ∧ y = .int i ∧ SqL K H p xs ∧ atI xs i = some v ∧ Q v H
def rIxT (K : PySem.W.Frag) : R2 := fun x y H Q => ∃ p xs i v, x = .ref p ∧ y = .int i ∧ SqT K H p xs ∧ atI xs i = some v ∧ Q v H
theorem ix_list : IxR X (rIxL X.K) := by
  intro value slice pins s σ H x y v u Q I rx ry h hs
  obtain ⟨p, xs, i, z, rfl, rfl, hq, he, q⟩ := h
  cases rx
  obtain ⟨t, rfl⟩ := ry
  obtain ⟨its, r, pl, hz⟩ := I.list hq
  obtain ⟨j, h1, h2, h3, h4, h5⟩ := atI_get he
  obtain ⟨w, ew, rw'⟩ := r.get h2
  have hl := r.length
  have hn := line63
  have fin : EP X pins σ Q w s := ⟨z, H, I, rw', q⟩
  by_cases h0 : 0 ≤ i
  · have hj : i.toNat = j := by
      rw [seqIndex_of h0 h5] at h1
      exact Option.some.inj h1
    exact item_listR pl.isList h0 (by omega) (by rw [hj]; simpa using ew) fin hs
  · have hj : (i + (its.toArray.size : Int)).toNat = j := by
      rw [seqIndex_neg (by omega) h4] at h1
      rw [List.size_toArray, ← hl]
      exact Option.some.inj h1
    exact subscriptTail_builtinR (x := w) pl.isList.typeIs slot_list_getitem.lookup
      (wpAny_getItem_list_neg (Q := fun r s' => r = w ∧ EP X pins σ Q r s') pl.isList (by omega) (by rw [List.size_toArray] <;> omega) (by omega) (by rw [hj]; simpa using ew) ⟨rfl, fin⟩) hs
theorem ix_tup : IxR X (rIxT X.K) := by
  intro value slice pins s σ H x y v u Q I rx ry h hs
  obtain ⟨p, xs, i, z, rfl, rfl, hq, he, q⟩ := h
  cases rx
  obtain ⟨t, rfl⟩ := ry
  obtain ⟨its, r, pl, hz⟩ := I.tuple hq
  obtain ⟨j, h1, h2, h3, h4, h5⟩ := atI_get he
  obtain ⟨w, ew, rw'⟩ := r.get h2
  have hl := r.length
  have hn := line63
  have fin : EP X pins σ Q w s := ⟨z, H, I, rw', q⟩
  exact subscriptTail_builtinR (x := w) pl.typeIs slot_tuple_getitem.lookup
    (getItem_tuple (j := j) (Q := fun r s' => r = w ∧ EP X pins σ Q r s') pl (by omega) (by omega) (by rw [List.size_toArray, ← hl]; exact h1) (by simpa using ew) ⟨rfl, fin⟩) hs
theorem mapSeq_set (its : List Value) (n j : Nat) (u : Value) : Obj.mapSeq (·.setIfInBounds j u) { cls := .type "list", data := .seq its.toArray n } = { cls := .type "list", data := .seq (its.set j u).toArray n } := by
  simp [Obj.mapSeq]
theorem Inv.lst {pins : List (Addr × Obj)} {σ : St} {H : Hp} {s : Shared} {p : Addr} {xs : List V} (I : Inv X pins σ H s) (h : H p = some (.lst xs)) :
    ∃ (its : List Value) (n : Nat), Vals xs its ∧ s.heap.get? p = some { cls := .type "list", data := .seq its.toArray n } ∧ xs.length ≤ sizeLine := by
  obtain ⟨z, its, n, r, e⟩ := I.hok p _ h
  exact ⟨its, n, r, e, z⟩
theorem Inv.lstUpd {pins : List (Addr × Obj)} {σ : St} {H : Hp} {s : Shared} {p : Addr} {xs ys : List V} {its its' : List Value} {n n' : Nat} {f : Obj → Obj} (I : Inv X pins σ H s) (h : H p = some (.lst xs))
    (ho : s.heap.get? p = some { cls := .type "list", data := .seq its.toArray n }) (hf : f { cls := .type "list", data := .seq its.toArray n } = { cls := .type "list", data := .seq its'.toArray n' }) (r : Vals ys its') (hz : ys.length ≤ sizeLine) (t : Nat) :
    Inv X pins σ (upd H p (.lst ys)) { s with heap := s.heap.update p f, toks := t } := by
  have e : (s.heap.update p f).get? p = some { cls := .type "list", data := .seq its'.toArray n' } := by
    rw [Heap.get?_update_self f ho (by rw [hf] <;> rfl), hf]
  refine I.write (x := p) (e := p) (by rw [h]; trivial) (.inl rfl) (fun b u hb q => (Heap.get?_update_other _ _ (Ne.symm hb)).trans q) ⟨_, e⟩ ?_
  exact ⟨hz, its', n', r, e⟩
def rSetL : V → V → V → Hp → (Hp → Prop) → Prop := fun o i v H Q => ∃ p xs k j, o = .ref p ∧ i = .int k ∧ H p = some (.lst xs) ∧ ixN xs.length k = some j ∧ Q (upd H p (.lst (xs.set j v)))
theorem set_list : PSet X rSetL := by
  intro pins s σ H o i v ov iv u Q I ro ri rv h
  obtain ⟨p, xs, k, j, rfl, rfl, hp, hj, q⟩ := h
  cases ro
  obtain ⟨t, rfl⟩ := ri
  obtain ⟨its, n, r, ho, hz⟩ := I.lst hp
  obtain ⟨h1, h2, h3, h4⟩ := ixN_seq hj
  have hl := r.length
  have hn := line63
  have I' : Inv X pins σ (upd H p (.lst (xs.set j v))) { s with heap := s.heap.update p (Obj.mapSeq (·.setIfInBounds j u)) } :=
    I.lstUpd hp ho (mapSeq_set its n j u) (r.set rv j) (by rw [List.length_set]; exact hz) s.toks
  by_cases h0 : 0 ≤ k
  · have hk : k.toNat = j := by
      rw [seqIndex_of h0 h4] at h1
      exact Option.some.inj h1
    exact PySem.W.ki_setAt ho h0 (by omega) (by rw [List.size_toArray, ← hl]; exact h4) (by rw [hk]; exact ⟨_, I', q⟩)
  · have hk : (k + (its.toArray.size : Int)).toNat = j := by
      rw [seqIndex_neg (by omega) h3] at h1
      rw [List.size_toArray, ← hl]
      exact Option.some.inj h1
    exact PySem.W.ki_setBack ho (by omega) (by rw [List.size_toArray, ← hl]; exact h3) (by omega) (by rw [hk]; exact ⟨_, I', q⟩)
theorem slice_bounds (lo hi : Option Int) (n : Nat) : (sliceBounds lo hi none n).1 = ((HT.sIx n 0 lo : Nat) : Int) ∧ (sliceBounds lo hi none n).2.1 = ((HT.sIx n n hi : Nat) : Int) ∧ (sliceBounds lo hi none n).2.2 = 1 := by
  refine ⟨?_, ?_, rfl⟩
  · cases lo with
    | none => simp [sliceBounds, HT.sIx]
    | some i =>
      simp only [sliceBounds, HT.sIx, Option.getD_none, show (1 : Int) > 0 by decide, if_true]
      by_cases h : i < 0
      · simp only [h, if_true] <;> omega
      · simp only [h, if_false] <;> omega
  · cases hi with
    | none => simp [sliceBounds, HT.sIx]
    | some i =>
      simp only [sliceBounds, HT.sIx, Option.getD_none, show (1 : Int) > 0 by decide, if_true]
      by_cases h : i < 0
      · simp only [h, if_true] <;> omega
      · simp only [h, if_false] <;> omega
theorem slicePick_cut (its : List Value) (lo hi : Option Int) : slicePick its.toArray lo hi none = ((its.drop (HT.sIx its.length 0 lo)).take (HT.sIx its.length its.length hi - HT.sIx its.length 0 lo)).toArray := by
  obtain ⟨h1, h2, h3⟩ := slice_bounds lo hi its.toArray.size
  unfold slicePick
  rw [h1, h2, h3]
  simp only [sliceRange_one, pick_run, List.size_toArray] <;> rfl
def rSlL (K : PySem.W.Frag) : V → Option Int → Option Int → Hp → VK → Prop := fun x lo hi H Q => ∃ a xs, x = .ref a ∧ SqL K H a xs ∧ ∀ p, H p = none → Q (.ref p) (upd H p (.lst (cutV xs lo hi)))
theorem sl_list : SlR X (rSlL X.K) := by
  intro pins s σ H x v vl vu lo hi sl Q I rx hs pl pu h
  obtain ⟨a, xs, rfl, hx, q⟩ := h
  cases rx
  obtain ⟨its, r, ht, hz⟩ := I.list hx
  have hlen := r.length
  refine ⟨"list", _, slot_list_getitem.lookup, ht.isList.typeIs, ?_⟩
  refine wpAny_getItem_list_slice ht.isList hs pl pu .none (by simp) ?_ (by rw [List.size_toArray] <;> omega)
  rw [slicePick_cut, ← hlen]
  refine ⟨.ref s.heap.objs.size, _, I.laid (t' := s.toks) (o := .lst (cutV xs lo hi)) (fun b ob q => Heap.get?_push_of_some _ q) (Nat.le_refl _) ?_, rfl, q _ (I.hok.fresh (Nat.le_refl _))⟩
  exact ⟨Nat.le_trans (cutV_length xs lo hi) hz, _, 0, (r.drop (HT.sIx xs.length 0 lo)).take (HT.sIx xs.length xs.length hi - HT.sIx xs.length 0 lo), Heap.get?_push_size _ rfl⟩
theorem call_len_seq : CallR X (.builtin "len") (fun xs H Q => ∃ p ys, xs = [.ref p] ∧ (SqL X.K H p ys ∨ SqT X.K H p ys) ∧ Q (.int ys.length) H) := by
  intro pins s σ H xs us Q I r h
  obtain ⟨p, ys, rfl, hq, q⟩ := h
  obtain ⟨u, rfl, rx⟩ := vals1 r
  cases rx
  have hn := line63
  rcases hq with hq | hq
  · obtain ⟨its, r', pl, hz⟩ := I.list hq
    have hlen := r'.length
    exact Calls.call_len_list pl.isList (by simp only [List.size_toArray] <;> omega) ⟨.int ys.length, H, I.tok _, ⟨s.toks + 1, by rw [List.size_toArray, hlen]⟩, q⟩
  · obtain ⟨its, r', pl, hz⟩ := I.tuple hq
    have hlen := r'.length
    exact len_tuple pl (by simp only [List.size_toArray] <;> omega) ⟨.int ys.length, H, I.tok _, ⟨s.toks + 1, by rw [List.size_toArray, hlen]⟩, q⟩
theorem call_list_of : CallR X (.type "list") (fun xs H Q => ∃ p ys, xs = [.ref p] ∧ (SqL X.K H p ys ∨ SqT X.K H p ys) ∧ ∀ l, H l = none → Q (.ref l) (upd H l (.lst ys))) := by
  intro pins s σ H xs us Q I r h
  obtain ⟨p, ys, rfl, hq, q⟩ := h
  obtain ⟨u, rfl, rx⟩ := vals1 r
  cases rx
  have fin : ∀ (its : List Value), Vals ys its → ys.length ≤ sizeLine → ∀ (h' : Heap) (c' : Nat), (∀ b o', s.heap.get? b = some o' → h'.get? b = some o') →
      h'.get? s.heap.objs.size = some { cls := .type "list", dict := none, data := .seq its.toArray c', slots := #[] } → EP X pins σ Q (.ref s.heap.objs.size) { s with heap := h' } := fun its r' hz h' c' kp e =>
    ⟨.ref s.heap.objs.size, _, I.laid (t' := s.toks) kp (Nat.le_refl _) (show ObjOk X.prog X.w _ h' _ (.lst ys) from ⟨hz, its, c', r', e⟩), rfl, q _ (I.hok.fresh (Nat.le_refl _))⟩
  rcases hq with hq | hq
  · obtain ⟨its, r', pl, hz⟩ := I.list hq
    have hlen := r'.length
    obtain ⟨o, ho, hc, n, hd⟩ := pl.isList
    exact call_list_seq p (.inl rfl) ho hc hd (fun h' c' kp e => fin its r' hz h' c' kp e) (by simp only [List.size_toArray] <;> omega)
  · obtain ⟨its, r', pl, hz⟩ := I.tuple hq
    have hlen := r'.length
    obtain ⟨o, ho, hc, n, hd⟩ := pl
    exact call_list_seq p (.inr rfl) ho hc hd (fun h' c' kp e => fin its r' hz h' c' kp e) (by simp only [List.size_toArray] <;> omega)
def tyV (K : PySem.W.Frag) (T : String) (x : V) (H : Hp) : Prop := match x with
  | .str _ => T = "str"
  | .int _ => T = "int"
  | .ref p => (T = "list" ∧ ∃ xs, SqL K H p xs) ∨ (T = "tuple" ∧ ∃ o, K.lookup p = some o ∧ o.cls = .type "tuple" ∧ o.dict = none) ∨
      (T = "dict" ∧ ((∃ kvs, H p = some (.dK kvs)) ∨ ∃ kvs, H p = some (.dT kvs))) ∨ (T = "set" ∧ ∃ S n, H p = some (.set S n))
  | _ => False
theorem tyV_is {pins : List (Addr × Obj)} {σ : St} {H : Hp} {s : Shared} {T : String} {x : V} {v : Value} (I : Inv X pins σ H s) (r : RelV x v) (ty : tyV X.K T x H) :
    s.TypeIs v T ∧ ∀ a, v = .ref a → ∃ ob, s.heap.get? a = some ob ∧ ob.dict = none := by
  cases x with
  | str z =>
    obtain ⟨t, rfl⟩ := r
    cases (show T = "str" from ty)
    exact ⟨typeIs_str s z t, fun _ e => nomatch e⟩
  | int i =>
    obtain ⟨t, rfl⟩ := r
    cases (show T = "int" from ty)
    exact ⟨typeIs_int s i t, fun _ e => nomatch e⟩
  | ref p =>
    cases r
    rcases ty with ⟨rfl, xs, hq⟩ | ⟨rfl, o, hk, hc, hd⟩ | ⟨rfl, hk⟩ | ⟨rfl, S, n, hk⟩
    · obtain ⟨its, _, pl, _⟩ := I.list hq
      refine ⟨pl.isList.typeIs, fun a e => ?_⟩
      cases e
      obtain ⟨o, n, e, c, hd, _⟩ := pl
      exact ⟨o, e, hd⟩
    · refine ⟨⟨o, I.kIn p o hk, hc⟩, fun a e => ?_⟩
      cases e
      exact ⟨o, I.kIn _ o hk, hd⟩
    · have z : ∃ o, s.heap.get? p = some o ∧ o.ExactDict := by
        rcases hk with ⟨kvs, hk⟩ | ⟨kvs, hk⟩
        · obtain ⟨_, _, _, _, o, _, _, e, ex, _⟩ := I.hok p _ hk
          exact ⟨o, e, ex⟩
        · obtain ⟨_, _, _, _, o, _, _, e, ex, _⟩ := I.hok p _ hk
          exact ⟨o, e, ex⟩
      obtain ⟨o, e, ex⟩ := z
      refine ⟨⟨o, e, ex.1⟩, fun a e2 => ?_⟩
      cases e2
      exact ⟨o, e, ex.2.1⟩
    · obtain ⟨o, _, _, _, e, ex, _⟩ := I.hok p _ hk
      refine ⟨⟨o, e, ex.1⟩, fun a e2 => ?_⟩
      cases e2
      exact ⟨o, e, ex.2.1⟩
  | _ => exact False.elim ty
def tBM0 (K : PySem.W.Frag) (T : String) (r : V → List V → Hp → VK → Prop) (to : TE) : TE := fun σ H Q => to σ H fun x H1 => tyV K T x H1 ∧ r x [] H1 Q
def tBM (K : PySem.W.Frag) (T : String) (r : V → List V → Hp → VK → Prop) (to : TE) (t : TA) : TE := fun σ H Q => to σ H fun x H1 => tyV K T x H1 ∧ t σ H1 fun xs H2 => r x xs H2 Q
variable {o e : Expr} {es : List Expr} {to : TE} {t : TA} {name : Str} {apos cpos : Pos} {T id : String} {r : V → List V → Hp → VK → Prop}
theorem pe_bm0 (pa : PlainAttrs T) (slot : Slot T name id) (hty : typeOf (.builtin id) = pure (.type "method_descriptor")) (hm : MtR X id r) (ho : PE X o to)
    (hbase : attributeBase o name X.env (eval o X.env) = eval o X.env := by rfl) (hline : (apos.endLine == cpos.line) = true := by rfl) : PE X (.Call (.Attribute o name apos) [] [] cpos) (tBM0 X.K T r to) := by
  intro pins s σ H Q I h
  refine wpAny_Call_method0_late hbase hline (thn (ho pins s σ H _ I h) fun v s1 ⟨x, H1, I1, r1, ty, q1⟩ => ?_)
  obtain ⟨h1, h2⟩ := tyV_is I1 r1 ty
  exact ⟨T, id, pa, slot, hty, h1, h2, Calls.callWith_builtin rfl (PySem.evalArgs_none (hm pins s1 σ H1 x [] v [] Q I1 r1 .nil q1))⟩
theorem pe_bm (pa : PlainAttrs T) (slot : Slot T name id) (hty : typeOf (.builtin id) = pure (.type "method_descriptor")) (hm : MtR X id r) (ho : PE X o to) (ha : PA X (e :: es) t)
    (hbase : attributeBase o name X.env (eval o X.env) = eval o X.env := by rfl)
    (hfew : ((backTo cpos (starEach (e :: es) X.env)).all (fun x => !x.1) && (backToKw cpos (keywordEach [] X.env)).all (fun x => x.1.isSome)
      && decide ((e :: es).length + ([] : List Keyword).length + (if ([] : List Keyword).isEmpty then 0 else 1) < 30)) = true := by rfl)
    (hline : (apos.endLine == cpos.line) = true := by rfl) (hs : starEach (e :: es) X.env = (false, eval e X.env) :: starEach es X.env := by rfl) (hplain : (backTo cpos (starEach es X.env)).any (·.1) = false := by rfl) :
    PE X (.Call (.Attribute o name apos) (e :: es) [] cpos) (tBM X.K T r to t) := by
  intro pins s σ H Q I h
  refine wpAny_Call_method_late hbase hfew hline rfl (thn (ho pins s σ H _ I h) fun v s1 ⟨x, H1, I1, r1, ty, q1⟩ => ?_)
  obtain ⟨h1, h2⟩ := tyV_is I1 r1 ty
  refine ⟨T, id, pa, slot, hty, h1, h2, ?_⟩
  have hA := ha cpos pins s1 σ H1 _ I1 q1
  rw [hs] at hA ⊢
  refine Calls.callWith_builtin (by show (false || (backTo cpos (starEach es X.env)).any (·.1)) = false; rw [hplain] <;> rfl) (Calls.evalArgs_plain ?_)
  exact thn hA fun us s2 ⟨vs, H2, I2, r2, q2⟩ => hm pins s2 σ H2 x vs v us Q I2 r1 r2 q2
end
end L2
namespace L2
open PySem PySem.Spec PyProof.Rows
def MtM (X : Cx) (id : String) (r : V → List V → Hp → VK → Prop) : Prop :=
  ∀ (pins : List (Addr × Obj)) (s : Shared) (σ : St) (H : Hp) (x : V) (xs : List V) (v : Value) (us : List Value) (Q : VK), Inv X pins σ H s → RelV x v → Vals xs us → r x xs H Q →
    wpAny (model X.prog X.w) X.A (call (.builtin id) (v :: us)) (EP X pins σ Q) X.xe s
theorem Vals.one : ∀ {x : V} {us : List Value}, Vals [x] us → ∃ u, us = [u] ∧ RelV x u
  | _, _, .cons r .nil => ⟨_, rfl, r⟩
theorem Vals.two : ∀ {x y : V} {us : List Value}, Vals [x, y] us → ∃ u v, us = [u, v] ∧ RelV x u ∧ RelV y v
  | _, _, _, .cons r (.cons q .nil) => ⟨_, _, rfl, r, q⟩
theorem Vals.zero : ∀ {us : List Value}, Vals [] us → us = []
  | _, .nil => rfl
theorem Vals.dropLast {xs : List V} {us : List Value} (h : Vals xs us) : Vals xs.dropLast us.dropLast := by
  induction h with
  | nil => exact .nil
  | cons r t ih =>
    cases t with
    | nil => exact .nil
    | cons q t' => exact .cons r ih
theorem Vals.reverse {xs : List V} {us : List Value} (h : Vals xs us) : Vals xs.reverse us.reverse := by
  induction h with
  | nil => exact .nil
  | cons r t ih => rw [List.reverse_cons, List.reverse_cons]; exact Vals.append ih (.cons r .nil)
theorem Vals.rep {xs : List V} {us : List Value} (h : Vals xs us) : ∀ k : Nat, Vals (List.replicate k xs).flatten (List.replicate k us).flatten
  | 0 => .nil
  | k + 1 => by
    rw [List.replicate_succ, List.replicate_succ, List.flatten_cons, List.flatten_cons]
    exact Vals.append h (Vals.rep h k)
theorem erase_last {α : Type} (l : List α) : l.eraseIdx (l.length - 1) = l.dropLast := by
  induction l with
  | nil => rfl
  | cons a r ih =>
    cases r with
    | nil => rfl
    | cons b r =>
      have e : (a :: b :: r).length - 1 = ((b :: r).length - 1) + 1 := by
        have h1 : (a :: b :: r).length = r.length + 2 := rfl
        have h2 : (b :: r).length = r.length + 1 := rfl
        omega
      rw [e, List.eraseIdx_cons_succ, ih]
      all_goals rfl
theorem foldl_rep (its : List Value) : ∀ (k : Nat) (acc : List Value),
    List.foldl (fun x1 x2 => x1 ++ x2) acc.toArray (List.replicate k its.toArray) = (acc ++ (List.replicate k its).flatten).toArray
  | 0, acc => by simp
  | k + 1, acc => by
    have e : acc.toArray ++ its.toArray = (acc ++ its).toArray := by simp
    have e2 : (acc ++ its) ++ (List.replicate k its).flatten = acc ++ (List.replicate (k + 1) its).flatten := by
      rw [List.replicate_succ, List.flatten_cons, List.append_assoc]
    rw [← e2, ← foldl_rep its k (acc ++ its), ← e, List.replicate_succ, List.foldl_cons]
section
variable {X : Cx} {pins : List (Addr × Obj)} {σ : St} {H : Hp} {s : Shared} {l b : Addr} {xs ys zs : List V}
theorem Inv.lset {its its' : List Value} {n : Nat} {f : Array Value → Array Value} {t' : Nat} (I : Inv X pins σ H s) (hH : H l = some (.lst xs))
    (e : s.heap.get? l = some { cls := .type "list", data := .seq its.toArray n }) (hf : f its.toArray = its'.toArray) (hv : Vals ys its') (hz : ys.length ≤ sizeLine) :
    Inv X pins σ (upd H l (.lst ys)) { s with heap := s.heap.update l (Obj.mapSeq f), toks := t' } := by
  have q := PySem.IsL.update e f
  rw [hf] at q
  refine I.write (x := l) (e := l) (by rw [hH]; exact trivial) (.inl rfl) (fun b' u hb hu => (Heap.get?_update_other s.heap (Obj.mapSeq f) (Ne.symm hb)).trans hu) ⟨_, q⟩ ?_
  exact ⟨hz, its', _, hv, q⟩
theorem Inv.lnew {its : List Value} {t' : Nat} (I : Inv X pins σ H s) (hv : Vals ys its) (hz : ys.length ≤ sizeLine) :
    Inv X pins σ (upd H s.heap.objs.size (.lst ys)) { s with heap := s.heap.push { cls := .type "list", data := .seq its.toArray }, toks := t' } :=
  I.laid (fun _ _ q => Heap.get?_push_of_some _ q) (Nat.le_refl _) ⟨hz, its, 0, hv, Heap.get?_push_size _ rfl⟩
theorem Inv.fresh (I : Inv X pins σ H s) : H s.heap.objs.size = none := I.hok.fresh (Nat.le_refl _)
theorem Inv.lstM (I : Inv X pins σ H s) (hH : H l = some (.lst xs)) : xs.length ≤ sizeLine ∧ ∃ (its : List Value) (n : Nat), Vals xs its ∧ xs.length = its.length ∧ s.heap.get? l = some { cls := .type "list", data := .seq its.toArray n } := by
  obtain ⟨z, its, n, r, e⟩ := I.hok l _ hH
  exact ⟨z, its, n, r, r.length, e⟩
theorem notLongL {n : Nat} (h : n ≤ sizeLine) : Builtin.List.listTooLong n = false := by
  unfold Builtin.List.listTooLong
  exact decide_eq_false (by omega)
end
section
variable {X : Cx}
def rAppend : V → List V → Hp → VK → Prop := fun x vs H Q => ∃ l xs y, x = .ref l ∧ vs = [y] ∧ H l = some (.lst xs) ∧ xs.length < sizeLine ∧ Q .non (upd H l (.lst (xs ++ [y])))
theorem mt_append : MtM X "list.append" rAppend := by
  intro pins s σ H x vs v us Q I rx rv h
  obtain ⟨l, xs, y, rfl, rfl, hH, hz, q⟩ := h
  cases rx
  obtain ⟨u, rfl, ru⟩ := rv.one
  obtain ⟨z, its, n, r, hl, e⟩ := I.lstM hH
  refine call_meets F.slot_list_append ⟨_, e, rfl⟩ F.entry_list_append (F.args_list_append_2 _ _) (PySem.list_append l its.toArray n u (by rw [List.size_toArray]; omega)) ⟨e, ?_⟩
  refine ⟨.non, _, I.lset (its' := its ++ [u]) hH e (by simp) (r.append (.cons ru .nil)) ?_, rfl, q⟩
  rw [List.length_append, List.length_singleton]
  omega
def rExtend : V → List V → Hp → VK → Prop := fun x vs H Q => ∃ l b xs zs, x = .ref l ∧ vs = [.ref b] ∧ H l = some (.lst xs) ∧ H b = some (.lst zs) ∧ xs.length + zs.length ≤ sizeLine ∧ Q .non (upd H l (.lst (xs ++ zs)))
theorem mt_extend : MtM X "list.extend" rExtend := by
  intro pins s σ H x vs v us Q I rx rv h
  obtain ⟨l, b, xs, zs, rfl, rfl, hH, hB, hz, q⟩ := h
  cases rx
  obtain ⟨u, rfl, ru⟩ := rv.one
  cases ru
  obtain ⟨z, its, n, r, hl, e⟩ := I.lstM hH
  obtain ⟨z2, its2, n2, r2, hl2, e2⟩ := I.lstM hB
  have hsz : its.toArray.size + its2.toArray.size ≤ sizeLine := by rw [List.size_toArray, List.size_toArray]; omega
  have hlong : ¬ (!its.toArray.isEmpty && Builtin.List.listTooLong (its.toArray.size + its2.toArray.size)) = true := by
    rw [notLongL hsz, Bool.and_false]
    exact Bool.false_ne_true
  refine call_meets F.slot_list_extend ⟨_, e, rfl⟩ F.entry_list_extend (F.args_list_extend_2 _ _)
    (AutoSeq1.list_extend_list_list_0 l its.toArray n b its2.toArray n2 hlong (by rw [List.size_toArray]; omega) (by omega)) ⟨e, e2, ?_⟩
  refine ⟨.non, _, I.lset (its' := its ++ its2) hH e (by simp) (r.append r2) ?_, rfl, q⟩
  rw [List.length_append]
  omega
def rPop : V → List V → Hp → VK → Prop := fun x vs H Q => ∃ l xs y, x = .ref l ∧ vs = [] ∧ H l = some (.lst xs) ∧ xs[xs.length - 1]? = some y ∧ Q y (upd H l (.lst xs.dropLast))
theorem mt_pop : MtM X "list.pop" rPop := by
  intro pins s σ H x vs v us Q I rx rv h
  obtain ⟨l, xs, y, rfl, rfl, hH, hy, q⟩ := h
  cases rx
  have hus := rv.zero
  subst hus
  obtain ⟨z, its, n, r, hl, e⟩ := I.lstM hH
  obtain ⟨u, hu, ru⟩ := r.get hy
  have hy' : its.toArray[its.toArray.size - 1]? = some u := by
    show its.toArray[its.length - 1]? = some u
    rw [← Array.getElem?_toList, ← hl]
    exact hu
  refine call_meets F.slot_list_pop ⟨_, e, rfl⟩ F.entry_list_pop (F.args_list_pop_1 _) (MeetsSeq.list_pop_last l its.toArray n u hy' (by rw [List.size_toArray]; omega)) ⟨e, ?_⟩
  refine ⟨y, _, I.lset (its' := its.dropLast) hH e ?_ r.dropLast ?_, ru, q⟩
  · show its.toArray.eraseIdxIfInBounds (its.toArray.size - 1) = its.dropLast.toArray
    rw [List.size_toArray, List.eraseIdxIfInBounds_toArray, erase_last]
  · rw [List.length_dropLast]
    omega
def rReverse : V → List V → Hp → VK → Prop := fun x vs H Q => ∃ l xs, x = .ref l ∧ vs = [] ∧ H l = some (.lst xs) ∧ Q .non (upd H l (.lst xs.reverse))
theorem mt_reverse : MtM X "list.reverse" rReverse := by
  intro pins s σ H x vs v us Q I rx rv h
  obtain ⟨l, xs, rfl, rfl, hH, q⟩ := h
  cases rx
  have hus := rv.zero
  subst hus
  obtain ⟨z, its, n, r, hl, e⟩ := I.lstM hH
  refine call_meets F.slot_list_reverse ⟨_, e, rfl⟩ F.entry_list_reverse (F.args_list_reverse_1 _) (AutoSeq1.list_reverse_list_0 l its.toArray n (by rw [List.size_toArray]; omega)) ⟨e, ?_⟩
  refine ⟨.non, _, I.lset (its' := its.reverse) hH e (by simp) r.reverse ?_, rfl, q⟩
  rw [List.length_reverse]
  omega
def rCat : R2 := fun x y H Q => ∃ l b xs zs, x = .ref l ∧ y = .ref b ∧ H l = some (.lst xs) ∧ H b = some (.lst zs) ∧ xs.length + zs.length ≤ sizeLine ∧ ∀ p, H p = none → Q (.ref p) (upd H p (.lst (xs ++ zs)))
theorem op_cat : OpR X (binaryOp .Add) rCat := by
  intro pins s σ H x y v u Q I rx ry h
  obtain ⟨l, b, xs, zs, rfl, rfl, hH, hB, hz, q⟩ := h
  cases rx
  cases ry
  obtain ⟨z, its, n, r, hl, e⟩ := I.lstM hH
  obtain ⟨z2, its2, n2, r2, hl2, e2⟩ := I.lstM hB
  refine PySem.P.add_list e e2 ?_ (by rw [List.size_toArray, List.size_toArray]; omega)
  have ea : its.toArray ++ its2.toArray = (its ++ its2).toArray := by simp
  rw [ea]
  exact ⟨.ref _, _, I.lnew (t' := s.toks) (r.append r2) (by rw [List.length_append]; omega), rfl, q _ I.fresh⟩
def rRep : R2 := fun x y H Q => ∃ l k xs, x = .ref l ∧ y = .int k ∧ H l = some (.lst xs) ∧ -(2 ^ 63) ≤ k ∧ k < 2 ^ 63 ∧ xs.length * k.toNat ≤ sizeLine ∧
  ∀ p, H p = none → Q (.ref p) (upd H p (.lst (List.replicate k.toNat xs).flatten))
theorem len_rep {α : Type} (xs : List α) (k : Nat) : (List.replicate k xs).flatten.length = k * xs.length := by
  induction k with
  | zero => simp
  | succ k ih => rw [List.replicate_succ, List.flatten_cons, List.length_append, ih, Nat.succ_mul, Nat.add_comm]
theorem op_rep : OpR X (binaryOp .Mult) rRep := by
  intro pins s σ H x y v u Q I rx ry h
  obtain ⟨l, k, xs, rfl, rfl, hH, h1, h2, hz, q⟩ := h
  cases rx
  obtain ⟨t, rfl⟩ := ry
  obtain ⟨z, its, n, r, hl, e⟩ := I.lstM hH
  have hlen : its.toArray.size * k.toNat ≤ sizeLine := by rw [List.size_toArray, ← hl]; exact hz
  have hcap : ¬ its.toArray.size * k.toNat > (2 ^ 63 - 1) / 8 := by
    have : (sizeLine : Nat) ≤ (2 ^ 63 - 1) / 8 := by decide
    omega
  have hfit : ¬ (!Builtin.List.listFitsIndex k) = true := by
    rw [fitsIndex_both h1 h2]
    exact Bool.false_ne_true
  have hlong : ¬ Builtin.List.listTooLong (its.toArray.size * k.toNat) = true := by
    rw [notLongL hlen]
    exact Bool.false_ne_true
  have hnew : List.foldl (fun x1 x2 => x1 ++ x2) #[] (List.replicate (if its.toArray.isEmpty = true then 0 else k.toNat) its.toArray) = (List.replicate k.toNat its).flatten.toArray := by
    have f0 : ∀ m : Nat, List.foldl (fun x1 x2 => x1 ++ x2) #[] (List.replicate m its.toArray) = (List.replicate m its).flatten.toArray := fun m => by
      have := foldl_rep its m []
      rw [List.nil_append] at this
      exact this
    rw [f0]
    cases its with
    | nil => simp
    | cons a r' => rw [if_neg (by simp)]
  refine wpAny_binaryOp_repeat_ref (T := "list") (U := "int") (by decide) ⟨_, e, rfl⟩ (fun s' => typeIs_int s' k t) noFill_list_mul F.fills_int_mul F.slot_int_rmul repeat_list F.slot_int_index.lookup
    (call_meets F.slot_int_rmul (typeIs_int s k t) F.entry_int_rmul (F.args_int_rmul_2 _ _) (int___rmul___int_list k t l its.toArray n)
      ⟨e, rfl, ⟨_, e, rfl⟩, call_meets F.slot_list_mul ⟨_, e, rfl⟩ F.entry_list_mul (F.args_list_mul_2 _ _) (AutoListH.list___mul___list_int_3 l its.toArray n k t hfit hcap hlong) ⟨e, ?_⟩⟩)
  rw [hnew]
  exact ⟨.ref _, _, I.lnew (t' := s.toks) (r.rep k.toNat) (by rw [len_rep, Nat.mul_comm]; exact hz), rfl, q _ I.fresh⟩
end
section
variable {prog : Program} {w : World} {A : Around} {E : Value → Shared → Prop} {s : Shared}
end
section
variable {X : Cx}
end
end L2
namespace Att
open PySem PySem.W PySem.Calls PyProof.Rows
theorem ints_of_wellAll {P : Params} {h : Heap} : ∀ (ns : List Int) (vs : List Value), WellAll P h vs (ns.map WData.int) → IntsAre vs ns := by
  intro ns
  induction ns with
  | nil =>
    intro vs w
    rw [List.map_nil] at w
    cases w
    exact .nil
  | cons n ns ih =>
    intro vs w
    rw [List.map_cons] at w
    cases w with
    | cons a b =>
      cases a
      exact .cons _ _ (ih _ b)
theorem script_of {l : OpenLaw} {n : Nat} (hn : l.most = some n) {P : Params} {h : Heap} {args : List WData} {vals : List Value}
    (hpre : l.row.toRowW.claim.pre args = true) (hwl : WellAll P h vals args) :
    ∃ a vs ns, vals = [Value.ref a] ∧ args = [WData.list (ns.map WData.int)] ∧ h.get? a = some { cls := .type "list", data := .seq vs.toArray } ∧ IntsAre vs ns ∧ ns.length ≤ n := by
  have hsh : WShape.hasAll [] args [.list .int] = true := (pre_splitW hpre).1
  have hc : l.pre.holds [] { args := args } = true := (pre_splitW hpre).2
  obtain ⟨d, r, rfl, h1, h2⟩ := hasAllW_cons hsh
  obtain rfl := hasAllW_nil h2
  obtain ⟨xs, rfl, h3⟩ := hasW_list h1
  obtain ⟨ns, rfl⟩ := items_int h3
  have hlen : ns.length ≤ n := by
    unfold OpenLaw.pre at hc
    have h4 : (WTm.not (.lt (.lit (.int (n : Int))) (.len (.arg 0)))).holds [] { args := [.list (ns.map .int)] } = true := by
      have h4 := (holds_andW hc).1
      rw [hn] at h4
      exact h4
    have h5 := condW_of h4 (w_not (w_lt w_lit (w_len_list (w_arg rfl))))
    rw [List.length_map] at h5
    refine Nat.le_of_not_lt fun q => ?_
    have q' : (n : Int) < ((ns.length : Nat) : Int) := by omega
    first
      | (rw [decide_eq_true q'] at h5; exact absurd h5 (by decide))
      | (simp at h5; omega)
  cases hwl with
  | cons w1 w2 =>
    cases w2
    cases w1 with
    | list ho hall => exact ⟨_, _, ns, rfl, rfl, ho, ints_of_wellAll ns _ hall, hlen⟩
theorem post_true (l : OpenLaw) (args : List WData) : l.row.toRowW.claim.post args (.bool true) args = true :=
  postW_of (r := l.row.toRowW) (X := (true == true))
    (show WShape.has [] (.bool true) .bool = true by first | rfl | decide | simp [WShape.has, WShape.arms, WShape.armsAll])
    (show (WTm.eq .res (.lit (.bool true))).value [] { args := args, res := some (.bool true), after := args } = some (.bool (true == true)) from w_eq_bool (w_res rfl) w_lit) rfl
theorem attach_call {l : OpenLaw} {n : Nat} {q : Program} {loose : List Str} {XP : (Str → Option Value) → Heap → Prop} {YP : World → Heap → Prop} {d : DefRec}
    (hn : l.most = some n) (hdf : d.params.defaults = [])
    (call : ∀ (w : World) (s₀ s₁ : Shared) (mg mb : Str → Option Value) (fa : Addr) (o : Obj) (pm cd doc : Value) (a : Addr) (vs : List Value) (ns : List Int),
      Ground q loose [] XP w s₀ mg mb s₁.heap → YP w s₁.heap →
      s₁.heap.get? fa = some o → o.data = .func (docDef d.name d.params d.body d.scope pm cd doc) → s₁.heap.CodeRec cd d.name → mg d.name = some (.ref fa) →
      s₁.heap.get? a = some { cls := .type "list", data := .seq vs.toArray } → IntsAre vs ns → ns.length ≤ n → s₁.gens = #[] →
      codeAny (model l.prog w) callerA (.call (.ref fa) ⟨[.ref a], []⟩) (fun r s' => r = .ok (.ret (.bool true)) ∧ OldK s₁.heap s'.heap ∧ s'.os = s₁.os ∧ AllBare s'.gens) s₁) :
    WalkO q loose XP YP l.row.toRowW d [] (fun f vs => PySem.call f vs) := by
  intro w s₀ s₁ mg mb G Y fa o pm cd doc dV kV ho hd hcd hD hmg hg args vals as hpre hlay hrd hwl hlo
  obtain rfl : dV = .none := Dflts.none hD hdf
  obtain rfl : kV = .none := Dflts.noKw hD
  obtain ⟨a, vs, ns, rfl, rfl, hobj, hints, hlen⟩ := script_of hn hpre hwl
  refine enter_call (codeAny_mono (call w s₀ s₁ mg mb fa o pm cd doc a vs ns G Y ho (fd_plain hd) hcd hmg hobj hints hlen hg) fun r s' hq => ?_)
  obtain ⟨rfl, h2, h3, h4⟩ := hq
  exact ⟨.inl ⟨.bool true, .bool true, [], rfl, fun _ => rfl, .bool true, post_true l _, fun _ => ⟨List.Pairwise.nil, fun _ hm => (nomatch hm)⟩⟩, h2, h3, h4⟩
section
variable {prog : Program} {w : World} {A : Around} {E : Value → Shared → Prop} {s : Shared} {K : Frag}
end
end Att
namespace L2
open PySem PySem.Spec PyProof.Rows
theorem vals_ints : ∀ {vs : List Value} {ns : List Int}, IntsAre vs ns → Vals (ns.map V.int) vs
  | _, _, .nil => .nil
  | _, _, .cons n t h => .cons ⟨t, rfl⟩ (vals_ints h)
def Only (H : Hp) : Prop := ∀ b, H b = none ∨ ∃ o xs, H b = some (.frz o (.lst xs))
theorem law_call {P : Program} {w : World} {K : PySem.W.Frag} {mg mb : Str → Option Value} {CX : CXT} {k : Nat} {fa a : Addr} {fd : FuncData} {x : Str} {sp : Sp} {s₁ : Shared} {vs : List Value} {ns : List Int}
    (KX : K.In s₁.heap) (hns : s₁.heap.Ns mainGlobals mg) (hb : s₁.heap.Ns builtinsNs mb) (hbb : ∀ x : Str, x ≠ "__name__" → mb x = bootBuiltins x) (hlim : s₁.heap.NoLimit) (hg : s₁.gens = #[])
    (ha : s₁.heap.get? a = some { cls := .type "list", data := .seq vs.toArray }) (hi : IntsAre vs ns) (hl : ns.length ≤ sizeLine) (hr : Room k callerA)
    (F : ∀ base : Heap, K.In base → base.Ns mainGlobals mg → FnOk P w K mg base CX k fa fd [x] sp) (hbind : ∀ (s : Shared) (u : Value), BindsTo s fd ⟨[u], []⟩ [(x, u)])
    (hsp : ∀ H : Hp, Only H → SqL K H a (ns.map V.int) → sp [.ref a] H (fun v _ => v = .bl true) fun _ _ _ => False)
    (hCX : ∀ H e s', CX [] H s₁ (fun _ _ _ => False) e s' → False) :
    codeAny (model P w) callerA (.call (.ref fa) ⟨[.ref a], []⟩) (fun r s' => r = .ok (.ret (.bool true)) ∧ OldK s₁.heap s'.heap ∧ s'.os = s₁.os ∧ AllBare s'.gens) s₁ := by
  have rv := vals_ints hi
  have lenV := hi.length
  have core : ∀ H : Hp, Only H → SqL K H a (ns.map V.int) → HOk P w H s₁.heap → (∀ b, H b ≠ none → b = a) → (H a ≠ none → K.lookup a = none) →
      codeAny (model P w) callerA (.call (.ref fa) ⟨[.ref a], []⟩) (fun r s' => r = .ok (.ret (.bool true)) ∧ OldK s₁.heap s'.heap ∧ s'.os = s₁.os ∧ AllBare s'.gens) s₁ := by
    intro H hO hS hok hA hK
    have base_of : ∀ {b : Addr} {o : Obj}, s₁.heap.get? b = some o → H b = none → (hidT s₁.heap H).get? b = some o := fun e n => hidT_get e n
    have noA : ∀ {b : Addr} {o : Obj} {es : Array DictEntry} {ep : Nat}, s₁.heap.get? b = some o → o.data = .dict es ep → H b = none := fun {b o es ep} e d => by
      cases q : H b with
      | none => rfl
      | some u =>
        have e' : b = a := hA b (by rw [q]; simp)
        subst e'
        rw [ha] at e; cases e
        have d' : Data.seq vs.toArray _ = Data.dict es ep := d
        cases d'
    have nsK : ∀ {b : Addr} {m : Str → Option Value}, s₁.heap.Ns b m → (hidT s₁.heap H).Ns b m := fun {b m} ⟨o, es, ep, e, d, r⟩ => ⟨o, es, ep, base_of e (noA e d), d, r⟩
    have hKb : K.In (hidT s₁.heap H) := fun b o e => base_of (KX b o e) (by
      cases q : H b with
      | none => rfl
      | some u =>
        have e' : b = a := hA b (by rw [q]; simp)
        subst e'
        rw [hK (by rw [q]; simp)] at e; cases e)
    have hM : Mod K mg (hidT s₁.heap H) := ⟨hKb, nsK hns, ⟨mb, nsK hb, hbb⟩, let ⟨mc, h1, h2⟩ := hlim; ⟨mc, nsK h1, h2⟩⟩
    have e0 : Env0 P w K mg (hidT s₁.heap H) callerA [] s₁ H := ⟨rfl, hM, fun b o e => of_hidT e, Nat.le_of_eq (hidT_size _ _), trivial, fun b hb => absurd (show b ∈ ([] : List Addr) from hb) (by simp), hok, .of_eq hg⟩
    refine codeAny_mono ((F _ hKb (nsK hns)).run callerA [] s₁ H ⟨[.ref a], []⟩ [.ref a] [.ref a] _ _ hr e0 (hbind s₁ (.ref a)) (.cons rfl .nil) (hsp H hO hS)) fun r s' h => ?_
    cases r with
    | error e => exact (hCX H e s' h).elim
    | ok fl =>
      cases fl with
      | next => exact False.elim h
      | brk => exact False.elim h
      | cont => exact False.elim h
      | ret u =>
        obtain ⟨v, H', os, bare, un, hok', r', q⟩ := h
        have q' : v = .bl true := q
        subst q'
        obtain rfl : u = Value.bool true := r'
        refine ⟨rfl, OldK.of_keep fun b o e => ?_, os, bare⟩
        cases q : H b with
        | none => exact un.keep b o e q (by intro z; exact absurd (show b ∈ ([] : List Addr) from z) (by simp)) (by simp)
        | some u =>
          rcases hO b with z | ⟨ob, xs, z⟩
          · rw [q] at z; cases z
          · have z2 := un.frzs b ob _ z
            obtain ⟨e1, _⟩ := hok b _ z
            obtain ⟨e2, _⟩ := hok' b _ z2
            rw [e] at e1; cases e1
            exact e2
  cases hk : K.lookup a with
  | some o =>
    have e := KX a o hk
    rw [ha] at e
    cases e
    refine core (fun _ => none) (fun _ => .inl rfl) (.inr ⟨_, vs.toArray, _, hk, rfl, rfl, rfl, by rw [List.size_toArray, lenV]; exact hl, by simpa using rv⟩) (fun b u z => by have z' : (none : Option HO) = some u := z; cases z') (fun b z => absurd rfl z) fun z => absurd rfl z
  | none =>
    refine core (fun b => if b = a then some (.frz { cls := .type "list", data := .seq vs.toArray } (.lst (ns.map V.int))) else none) (fun b => ?_) (.inl (.inr ⟨{ cls := .type "list", data := .seq vs.toArray }, if_pos rfl⟩)) (fun b u z => ?_) (fun b z => ?_) fun _ => hk
    · by_cases hb : b = a
      · exact .inr ⟨_, _, if_pos hb⟩
      · exact .inl (if_neg hb)
    · by_cases hb : b = a
      · have z' := (if_pos hb).symm.trans z
        cases z'
        subst hb
        exact ⟨ha, by rw [List.length_map]; exact hl, vs, _, rv, ha⟩
      · have z' := (if_neg hb).symm.trans z
        cases z'
    · by_cases hb : b = a
      · exact hb
      · exact absurd (if_neg hb) z
end L2
namespace L2
open PySem PySem.Spec PyProof.Rows
theorem walk_of {l : PySem.W.OpenLaw} {n k : Nat} {q : Program} {loose : List Str} {XP : (Str → Option Value) → Heap → Prop} {YP : World → Heap → Prop} {d : DefRec} {K : Params → PySem.W.Frag} {CX : World → CXT} {sp : World → Sp} {x : Str}
    (hn : l.most = some n) (hn2 : n ≤ sizeLine) (hdf : d.params.defaults = []) (hr : Room k callerA)
    (hY : ∀ (w : World) (h : Heap), YP w h → (K w.params).In h)
    (F : ∀ (w : World) (mg : Str → Option Value) (fa : Addr) (h : Heap), (K w.params).In h → h.Ns mainGlobals mg → mg d.name = some (.ref fa) →
      ∃ fd : FuncData, (∀ (s : Shared) (u : Value), BindsTo s fd ⟨[u], []⟩ [(x, u)]) ∧
        ∀ base : Heap, (K w.params).In base → base.Ns mainGlobals mg → FnOk l.prog w (K w.params) mg base (CX w) k fa fd [x] (sp w))
    (hsp : ∀ (w : World) (H : Hp) (a : Addr) (ns : List Int), ns.length ≤ n → Only H → SqL (K w.params) H a (ns.map V.int) → sp w [.ref a] H (fun v _ => v = .bl true) fun _ _ _ => False)
    (hCX : ∀ (w : World) (H : Hp) (s : Shared) (e : Value) (s' : Shared), CX w [] H s (fun _ _ _ => False) e s' → False) :
    PySem.W.WalkO q loose XP YP l.row.toRowW d [] (fun f vs => PySem.call f vs) := by
  refine Att.attach_call hn hdf fun w s₀ s₁ mg mb fa o pm cd doc a vs ns G Y ho hd hcd hmg hobj hints hlen hg => ?_
  have KX := hY w _ Y
  obtain ⟨fd, hb, hF⟩ := F w mg fa _ KX G.T.g hmg
  exact law_call KX G.T.g G.T.b G.T.builtins G.T.nolimit hg hobj hints (Nat.le_trans hlen hn2) hr hF hb (fun H hO hS => hsp w H a ns hlen hO hS) fun H e s' => hCX w H s₁ e s'
end L2
namespace L2
open PySem PySem.Spec PyProof.Rows
def defArgs (s : Stmt) : Arguments := match s with
  | .FunctionDef _ a _ _ _ _ _ _ _ _ => a
  | _ => { posonlyargs := [], args := [], vararg := none, kwonlyargs := [], kw_defaults := [], kwarg := none, defaults := [] }
def defBody (s : Stmt) : List Stmt := match s with
  | .FunctionDef _ _ b _ _ _ _ _ _ _ => b
  | _ => []
def defScope (s : Stmt) : Scope := match s with
  | .FunctionDef _ _ _ _ _ _ sc _ _ _ => sc
  | _ => { kind := .function, names := [], isGenerator := false, isCoroutine := false }
abbrev CX0 : CXT := fun _ _ _ _ _ _ => False
abbrev E0 : XK := fun _ _ _ => False
theorem pass0 {X : Cx} : Passes CX0 X E0 := fun _ _ _ _ _ _ _ h => h.elim
structure Fun (K : PySem.W.Frag) (x qual : Str) (st : Stmt) (f : Addr) (fd : FuncData) : Prop where
  ex : ∃ (oc : Value) (od : Option Addr) (kV doc pm : Value) (an : Option Addr) (cdv ct : Value) (osl : Array (Option Value)),
    fd = PySem.W.fnOf x qual (defArgs st) (defBody st) (defScope st) .none kV doc pm an cdv ct ∧ K.lookup f = some ⟨oc, od, .func fd, osl⟩ ∧ PySem.W.codeIn K cdv qual = true
  kp : PySem.W.keepIn K (.ref f) = true
section
variable {P : Program} {w : World} {K : PySem.W.Frag} {mg : Str → Option Value} {base : Heap}
theorem Fun.ok {x qual : Str} {st : Stmt} {f : Addr} {fd : FuncData} {N ps : List Str} {k : Nat} {sp : Sp} (F : Fun K x qual st f fd) (S : FnScope N ps (defScope st)) (len : ∀ vs H Q E, sp vs H Q E → vs.length = ps.length)
    (hbody : ∀ (cdv : Value) (A : Around) (outer : List Env) (s : Shared) (H : Hp) (vs : List V) (Q : VK) (E : XK), Room k (A.deeper (envOfC qual (defScope st) s.heap.objs.size f cdv)) → sp vs H Q E →
      ∃ t, PSs (cxOf CX0 P w K mg base N qual (defScope st) f cdv A outer s H E).nox (defBody st) t ∧ t { nx := fun _ H' => Q .non H', rt := Q } (start N vs) H) : FnOk P w K mg base CX0 (k + 1) f fd ps sp := by
  obtain ⟨oc, od, kV, doc, pm, an, cdv, ct, osl, rfl, lk, hcd⟩ := F.ex
  refine fn_of lk hcd S len fun A outer s H vs Q E hr hsp => ?_
  obtain ⟨t, h, q⟩ := hbody cdv A outer s H vs Q E hr hsp
  exact ⟨t, h.nox, q⟩
theorem Fun.binds {x qual : Str} {st : Stmt} {f : Addr} {fd : FuncData} {ps : List Str} (F : Fun K x qual st f fd)
    (h : ∀ (kV doc pm : Value) (an : Option Addr) (cdv ct : Value) (us : List Value), us.length = ps.length → bindArgs (PySem.W.fnOf x qual (defArgs st) (defBody st) (defScope st) .none kV doc pm an cdv ct) ⟨us, []⟩ = pure (ps.zip us)) : Binds K fd ps [] := by
  obtain ⟨oc, od, kV, doc, pm, an, cdv, ct, osl, rfl, lk, hcd⟩ := F.ex
  exact .all (h kV doc pm an cdv ct)
theorem fun_mk {x qual : Str} {st : Stmt} {f : Addr} {oc : Value} {od an : Option Addr} {osl : Array (Option Value)} {kV doc pm cdv ct : Value} (l : K.lookup f = some ⟨oc, od, .func (PySem.W.fnOf x qual (defArgs st) (defBody st) (defScope st) .none kV doc pm an cdv ct), osl⟩)
    (c : PySem.W.codeIn K cdv qual = true) (k : PySem.W.keepIn K (.ref f) = true) : Fun K x qual st f (PySem.W.fnOf x qual (defArgs st) (defBody st) (defScope st) .none kV doc pm an cdv ct) := ⟨⟨oc, od, kV, doc, pm, an, cdv, ct, osl, rfl, l, c⟩, k⟩
end
theorem small1000 {n : Nat} (h : n ≤ 1000) : n < sizeLine := Nat.lt_of_le_of_lt h (by decide)
section
variable {X : Cx}
theorem pv (i : Nat) {x : Str} {pos : Pos} (hN : X.N[i]? = some x := by rfl) (hv : Vis X.env.scope x := by first | exact Or.inl rfl | exact Or.inr (Or.inl rfl) | exact Or.inr (Or.inr rfl)) (hd : (x == ("__debug__" : Str)) = false := by decide)
    (hcd : (x == ("__classdict__" : Str)) = false := by decide) : PE X (.Name x pos) (tVar i) := pe_var hN hv hd hcd
end
theorem iteF {A B : Prop} (h : B) : if false = true then A else B := by
  rw [if_neg Bool.false_ne_true]
  exact h
theorem iteT {A B : Prop} (h : A) : if true = true then A else B := by
  rw [if_pos rfl]
  exact h
theorem iteNS {c A B : Prop} [Decidable c] (hc : c) (h : B) : if (!decide c) = true then A else B := by
  rw [decide_eq_true hc]
  exact iteF h
def Same (H H' : Hp) : Prop := ∀ b o, H b = some o → H' b = some o
theorem Same.refl (H : Hp) : Same H H := fun _ _ h => h
theorem Same.trans {H H1 H2 : Hp} (a : Same H H1) (b : Same H1 H2) : Same H H2 := fun c o h => b c o (a c o h)
theorem Same.free {H H' : Hp} (e : Same H H') {l : Addr} (h : H' l = Option.none) : H l = Option.none := by
  cases q : H l with
  | none => rfl
  | some o =>
    rw [e l o q] at h
    cases h
theorem Same.seq {K : PySem.W.Frag} {H H' : Hp} {a : Addr} {xs : List V} (e : Same H H') (h : SqL K H a xs) : SqL K H' a xs := by
  rcases h with (h | ⟨o, h⟩) | h
  · exact .inl (.inl (e _ _ h))
  · exact .inl (.inr ⟨o, e _ _ h⟩)
  · exact .inr h
end L2
set_option maxHeartbeats 4000000
set_option exponentiation.threshold 2000
namespace L2
open PySem PySem.Spec PyProof.Rows
section
variable {X : Cx}
theorem bits_le {i : Int} {n : Nat} (h : i.natAbs < 2 ^ n) : Builtin.Int.intBits i ≤ n := by
  by_cases hz : i = 0
  · subst hz
    have e : Builtin.Int.intBits 0 = 0 := by decide
    rw [e]
    exact Nat.zero_le _
  · have h0 : i.natAbs ≠ 0 := by omega
    have := (Nat.log2_lt h0).mpr h
    unfold Builtin.Int.intBits
    split
    · exact Nat.zero_le _
    · omega
def CDivB (_ j : Int) : Prop := j ≠ 0 ∧ j.natAbs < 2 ^ 1000
theorem op_fdivB : OpR X (binaryOp .FloorDiv) (rI CDivB fun i j => .int (i.fdiv j)) :=
  opI fun _ _ _ _ _ _ _ hc q => floordiv_int hc.1 q (.inl (PyProof.noPylong_of_log2 (Nat.lt_of_lt_of_le ((Nat.log2_lt (by have := hc.1; omega)).mpr hc.2) (by decide))))
def Itrs (lo st : Int) (n : Nat) : It := ⟨fun i _ => i < n, fun i H x H' => H' = H ∧ x = .int (lo + (i : Nat) * st), fun i _ => n ≤ i⟩
theorem turn_rangeS {P : Program} {w : World} {K : PySem.W.Frag} {tg : Expr} (it : Addr) (lo c : Int) (n : Nat) : Turn P w K tg (Itrs lo c n) [it] it (fun i h => IsRangeIter h it (lo + (i : Nat) * c) ((n : Int) - (i : Nat)) c) where
  mem := by simp
  obj := fun i h st b hb => by
    have e : b = it := by simpa using hb
    subst e
    exact ⟨_, st, fun v z => by
      have z' : Data.fields _ = Data.cell v := z
      cases z'⟩
  keep := fun i h h' st k => k it (by simp) _ st
  item := by
    intro X hP hw hK hc i pins s σ H E I hf st hg
    subst hP hw hK
    obtain ⟨f0, f1, f2, f3, f4, f5⟩ := hf it (by simp)
    have W := Walks.range (prog := X.prog) (w := X.w) (I.ok.hd hc) it lo c n
    refine W.item i s _ _ hg st fun v h' tk hv st' kk => ?_
    obtain ⟨t, rfl⟩ := hv
    have I1 : Inv X pins σ H { s with heap := h', toks := tk } := I.turned (fun b o hb e => kk b o (by simpa using hb) e) f0 f1 f3 f4 f5
    exact ⟨_, rfl, go_of (s := { s with heap := h', toks := tk }) (n := "range_iterator") st' rfl rfl (by decide) ⟨.int (lo + (i : Nat) * c), H, I1, ⟨t, rfl⟩, ⟨rfl, rfl⟩, st', fun b hb => (hf b hb).1⟩⟩
  done := by
    intro X hP hw hK hc i pins s σ H E I hf st hg
    subst hP hw hK
    obtain ⟨f0, f1, f2, f3, f4, f5⟩ := hf it (by simp)
    exact wpAny_pyNext_range_end (I.ok.hd hc) st (by have : n ≤ i := hg; omega) fun h' eb => ⟨rfl, I.turned (t' := s.toks) (fun b o hb e => eb b o hb e) f0 f1 f3 f4 f5⟩
  self := fun _ _ _ _ _ st h => wpAny_pyIter_rangeiter st h
theorem range_itS {tg : Expr} {pins : List (Addr × Obj)} {σ : St} {H : Hp} {s : Shared} {R : It → Hp → Prop} {E : Value → Shared → Prop} {lo hi st : Int} {t u v : Tok} {tk : Nat} (I : Inv X pins σ H s) (hs : Builtin.Range.small lo hi st = true) (hn : 0 ≤ Builtin.Range.rangeSize lo hi st)
    (q : R (Itrs lo st (Builtin.Range.rangeSize lo hi st).toNat) H) : wpAny (model X.prog X.w) X.A (pyIter (.ref s.heap.objs.size)) (PIE X pins σ tg R) E { s with heap := s.heap.push { cls := .type "range", data := .fields #[.int lo t, .int hi u, .int st v] }, toks := tk } := by
  refine wpAny_pyIter_range (IsRange.new ..) hs ?_
  have I1 : Inv X pins σ H { s with heap := s.heap.push { cls := .type "range", data := .fields #[.int lo t, .int hi u, .int st v] }, toks := tk } := I.kept fun b o e => Heap.get?_push_of_some _ e
  refine ⟨(s.heap.push { cls := .type "range", data := .fields #[.int lo t, .int hi u, .int st v] }).objs.size, [(s.heap.push { cls := .type "range", data := .fields #[.int lo t, .int hi u, .int st v] }).objs.size], _, _, H, rfl,
    I1.kept (t' := tk) fun b o e => Heap.get?_push_of_some _ e, turn_rangeS _ lo st (Builtin.Range.rangeSize lo hi st).toNat, ?_, fun b hb => ?_, q⟩
  · have e1 : lo + ((0 : Nat) : Int) * st = lo := by simp
    have e2 : (((Builtin.Range.rangeSize lo hi st).toNat : Nat) : Int) - ((0 : Nat) : Int) = Builtin.Range.rangeSize lo hi st := by omega
    show IsRangeIter _ _ (lo + ((0 : Nat) : Int) * st) ((((Builtin.Range.rangeSize lo hi st).toNat : Nat) : Int) - ((0 : Nat) : Int)) st
    rw [e1, e2]
    exact Heap.get?_push_size _ rfl
  · have e : b = (s.heap.push { cls := .type "range", data := .fields #[.int lo t, .int hi u, .int st v] }).objs.size := by simpa using hb
    subst e
    exact I1.fpOk (Nat.le_refl _) (I1.hok.fresh (Nat.le_refl _))
def iRng3 (ta : TA) : TI := fun σ H R => ta σ H fun vs H1 => ∃ i j st : Int, vs = [.int i, .int j, .int st] ∧ (st ≠ 0 ∧ st.natAbs < 1073741824) ∧ Builtin.Range.small i j st = true ∧ 0 ≤ Builtin.Range.rangeSize i j st ∧ R (Itrs i st (Builtin.Range.rangeSize i j st).toNat) H1
theorem pi_range3 {tg : Expr} {a b c : Expr} {ta : TA} {p pos : Pos} (hg : Gl X "range") (hm : X.mg "range" = none) (ha : PA X [a, b, c] ta) (hs : starEach [a, b, c] X.env = [(false, eval a X.env), (false, eval b X.env), (false, eval c X.env)] := by rfl)
    (hs2 : starEach [b, c] X.env = [(false, eval b X.env), (false, eval c X.env)] := by rfl) : PI X tg (.Call (.Name "range" p) [a, b, c] [] pos) (iRng3 ta) := by
  intro pins s σ H R I h
  refine Call_ (ld_blt I hg hm boot_range (PyProof.Rows.callWith_type1 (thn (ha pos pins s σ H _ I h) fun us s1 ⟨vs, H1, I1, r1, q1⟩ => ?_) (by rw [hs, hs2]) (by rw [hs2]; rfl)))
  obtain ⟨i, j, st, e, ⟨q1, q2⟩, q3, q4, q⟩ := q1
  subst e
  cases r1 with
  | cons r rr =>
    cases rr with
    | cons r' rr =>
      cases rr with
      | cons r'' rr =>
        cases rr
        obtain ⟨t, rfl⟩ := r
        obtain ⟨t', rfl⟩ := r'
        obtain ⟨t'', rfl⟩ := r''
        exact call_range_3 q1 (range_itS I1 q3 q4 q) (.inl (PyProof.noPylong_small q2))
theorem for_rangeS {lo st : Int} {n : Nat} {g : TG} {tb : TS} {D : Ends} {σ : St} {H : Hp} (Pv : Nat → St → Hp → Prop) (h0 : Pv 0 σ H)
    (hs : ∀ i σ H, i < n → Pv i σ H → g (.int (lo + (i : Nat) * st)) σ H fun σ2 H2 => tb { D with nx := Pv (i + 1), ct := Pv (i + 1), bk := D.nx } σ2 H2) (hd : ∀ σ H, Pv n σ H → D.nx σ H) :
    ∃ W : Nat → Nat → St → Hp → Prop, (∃ m, W 0 m σ H) ∧ ∀ i m σ H, W i m σ H →
      ((Itrs lo st n).stop i H ∧ D.nx σ H) ∨ ((Itrs lo st n).go i H ∧ ∃ N : St → Hp → Prop, (∀ σ' H', N σ' H' → ∃ m', m' < m ∧ W (i + 1) m' σ' H') ∧ ∀ x H', (Itrs lo st n).yld i H x H' → g x σ H' fun σ2 H2 => tb { D with nx := N, ct := N, bk := D.nx } σ2 H2) := by
  refine ⟨fun i m σ H => m = n - i ∧ i ≤ n ∧ Pv i σ H, ⟨n, by simp, Nat.zero_le _, h0⟩, ?_⟩
  rintro i m σ H ⟨rfl, hi, p⟩
  by_cases hlt : i < n
  · refine .inr ⟨hlt, Pv (i + 1), fun σ' H' p' => ⟨n - (i + 1), by omega, rfl, hlt, p'⟩, fun x H' y => ?_⟩
    obtain ⟨e, y⟩ := y
    subst e y
    exact hs i σ _ hlt p
  · have e : i = n := by omega
    subst e
    exact .inl ⟨Nat.le_refl _, hd σ H p⟩
theorem call_isinst : CallR X (.builtin "isinstance") (fun xs H Q => ∃ x t n b, xs = [x, .ty n] ∧ TyOf X.K H x t ∧ PySem.W.kitOne X.K t (.type n) = some b ∧ Q (.bl b) H) := by
  intro pins s σ H xs us Q I r h
  obtain ⟨x, t, n, b, rfl, ty, e, q⟩ := h
  obtain ⟨u, w', rfl, ru, rw'⟩ := vals2 r
  cases (show w' = Value.type n from rw')
  exact isinst_ok I ru ty e fun tk => ⟨.bl b, H, I.tok _, rfl, q⟩
mutual
inductive DA (K : PySem.W.Frag) (ok : Addr → Prop) (H : Hp) : V → PyData → Prop
  | non : DA K ok H .non .none
  | bl (b : Bool) : DA K ok H (.bl b) (.bool b)
  | int (i : Int) : DA K ok H (.int i) (.int i)
  | str (x : Str) : DA K ok H (.str x) (.str x)
  | lst {a : Addr} {vs : List V} {ds : List PyData} : ok a → SqL K H a vs → DAs K ok H vs ds → DA K ok H (.ref a) (.list ds)
  | tup {a : Addr} {vs : List V} {ds : List PyData} : ok a → SqT K H a vs → DAs K ok H vs ds → DA K ok H (.ref a) (.tuple ds)
inductive DAs (K : PySem.W.Frag) (ok : Addr → Prop) (H : Hp) : List V → List PyData → Prop
  | nil : DAs K ok H [] []
  | cons {v : V} {d : PyData} {vs : List V} {ds : List PyData} : DA K ok H v d → DAs K ok H vs ds → DAs K ok H (v :: vs) (d :: ds)
end
abbrev any (_ : Addr) : Prop := True
def Keep (ok : Addr → Prop) (H H' : Hp) : Prop := ∀ b o, ok b → H b = some o → H' b = some o
theorem Keep.refl (ok : Addr → Prop) (H : Hp) : Keep ok H H := fun _ _ _ h => h
theorem Same.keep {ok : Addr → Prop} {H H' : Hp} (e : Same H H') : Keep ok H H' := fun b o _ h => e b o h
theorem Keep.seq {K : PySem.W.Frag} {ok : Addr → Prop} {H H' : Hp} {a : Addr} {xs : List V} (e : Keep ok H H') (n : ok a) (h : SqL K H a xs) : SqL K H' a xs := by
  rcases h with (h | ⟨o, h⟩) | h
  · exact .inl (.inl (e _ _ n h))
  · exact .inl (.inr ⟨o, e _ _ n h⟩)
  · exact .inr h
theorem Keep.seqT {K : PySem.W.Frag} {ok : Addr → Prop} {H H' : Hp} {a : Addr} {xs : List V} (e : Keep ok H H') (n : ok a) (h : SqT K H a xs) : SqT K H' a xs := by
  rcases h with (h | ⟨o, h⟩) | h
  · exact .inl (.inl (e _ _ n h))
  · exact .inl (.inr ⟨o, e _ _ n h⟩)
  · exact .inr h
theorem Same.seqT {K : PySem.W.Frag} {H H' : Hp} {a : Addr} {xs : List V} (e : Same H H') (h : SqT K H a xs) : SqT K H' a xs := (e.keep (ok := any)).seqT trivial h
theorem Same.upd {H : Hp} {p : Addr} {o : HO} (h : H p = none) : Same H (upd H p o) := fun b u e => by rw [upd_ne (ne_of_none e h)]; exact e
mutual
theorem DA.mono {K : PySem.W.Frag} {ok ok' : Addr → Prop} {H H' : Hp} (e : Keep ok H H') (m : ∀ a, ok a → ok' a) : ∀ {v : V} {d : PyData}, DA K ok H v d → DA K ok' H' v d
  | _, _, .non => .non
  | _, _, .bl b => .bl b
  | _, _, .int i => .int i
  | _, _, .str x => .str x
  | _, _, .lst n s r => .lst (m _ n) (e.seq n s) (DAs.mono e m r)
  | _, _, .tup n s r => .tup (m _ n) (e.seqT n s) (DAs.mono e m r)
theorem DAs.mono {K : PySem.W.Frag} {ok ok' : Addr → Prop} {H H' : Hp} (e : Keep ok H H') (m : ∀ a, ok a → ok' a) : ∀ {v : List V} {d : List PyData}, DAs K ok H v d → DAs K ok' H' v d
  | _, _, .nil => .nil
  | _, _, .cons a r => .cons (DA.mono e m a) (DAs.mono e m r)
end
mutual
theorem DA.reads {ok : Addr → Prop} {pins : List (Addr × Obj)} {σ : St} {H : Hp} {s : Shared} (I : Inv X pins σ H s) : ∀ {v : V} {d : PyData} {u : Value}, DA X.K ok H v d → RelV v u → ∃ as, Reads s.heap u d as
  | _, _, _, .non, r => by cases r; exact ⟨_, .none⟩
  | _, _, _, .bl b, r => by cases r; exact ⟨_, .bool b⟩
  | _, _, _, .int i, r => by obtain ⟨t, rfl⟩ := r; exact ⟨_, .int i t⟩
  | _, _, _, .str x, r => by obtain ⟨t, rfl⟩ := r; exact ⟨_, .str x t⟩
  | _, _, _, .lst _ h q, r => by
    cases r
    obtain ⟨its, rv, ⟨o, n, e, c, _, d⟩, _⟩ := I.list h
    obtain ⟨as, p⟩ := DAs.reads I q rv
    exact ⟨_, .list e c d (by simpa using p)⟩
  | _, _, _, .tup _ h q, r => by
    cases r
    obtain ⟨its, rv, ⟨o, e, c, n, d⟩, _⟩ := I.tuple h
    obtain ⟨as, p⟩ := DAs.reads I q rv
    exact ⟨_, .tuple e c d (by simpa using p)⟩
theorem DAs.reads {ok : Addr → Prop} {pins : List (Addr × Obj)} {σ : St} {H : Hp} {s : Shared} (I : Inv X pins σ H s) : ∀ {v : List V} {d : List PyData} {u : List Value}, DAs X.K ok H v d → Vals v u → ∃ as, ReadsAll s.heap u d as
  | _, _, _, .nil, r => by cases r; exact ⟨_, .nil⟩
  | _, _, _, .cons a q, r => by
    cases r with
    | cons r1 r2 =>
      obtain ⟨as, p⟩ := DA.reads I a r1
      obtain ⟨bs, p'⟩ := DAs.reads I q r2
      exact ⟨_, .cons p p'⟩
end
def rEqD (K : PySem.W.Frag) : R2 := fun x y H Q => ∃ d e, DA K any H x d ∧ DA K any H y e ∧ (d.canLay0 = true ∧ e.canLay0 = true ∧ d.depth ≤ 64) ∧ Q (.bl (PyData.eqv d e)) H
def rNeD (K : PySem.W.Frag) : R2 := fun x y H Q => ∃ d e, DA K any H x d ∧ DA K any H y e ∧ (d.canLay0 = true ∧ e.canLay0 = true ∧ d.depth ≤ 64) ∧ Q (.bl (!PyData.eqv d e)) H
theorem op_eqD (hu : X.A.units + 64 < cLine) : OpR X (compareOp .Eq) (rEqD X.K) := by
  intro pins s σ H x y v u Q I rx ry h
  obtain ⟨d, e, hd, he, ⟨l1, l2, l3⟩, q⟩ := h
  obtain ⟨as, p1⟩ := hd.reads I rx
  obtain ⟨bs, p2⟩ := he.reads I ry
  exact PySem.SeqAt.compareEq_reads p1 p2 l1 l2 (by omega) ⟨.bl _, H, I, rfl, q⟩
theorem op_neD (hu : X.A.units + 64 < cLine) : OpR X (compareOp .NotEq) (rNeD X.K) := by
  intro pins s σ H x y v u Q I rx ry h
  obtain ⟨d, e, hd, he, ⟨l1, l2, l3⟩, q⟩ := h
  obtain ⟨as, p1⟩ := hd.reads I rx
  obtain ⟨bs, p2⟩ := he.reads I ry
  exact PySem.SeqAt.compareNe_reads p1 p2 l1 l2 (by omega) ⟨.bl _, H, I, rfl, q⟩
end
theorem iteNP {c A B : Prop} [Decidable c] (hc : ¬ c) (h : A) : if (!decide c) = true then A else B := by
  rw [decide_eq_false hc]
  exact iteT h
theorem itDP {c A B : Prop} [Decidable c] (hc : c) (h : A) : if decide c = true then A else B := by
  rw [decide_eq_true hc]
  exact iteT h
theorem itDN {c A B : Prop} [Decidable c] (hc : ¬ c) (h : B) : if decide c = true then A else B := by
  rw [decide_eq_false hc]
  exact iteF h
structure Dn (K : PySem.W.Frag) (mg : Str → Option Value) (x : Str) (st : Stmt) (ps : List Str) (f : Addr) (fd : FuncData) : Prop where
  fn : Fun K x x st f fd
  gl : mg x = some (.ref f)
  bd : Binds K fd ps []
section
variable {X : Cx} {k : Nat} {f : Addr} {fd : FuncData} {x : Str} {st : Stmt} {ps : List Str} {sp : Sp} {e : Expr} {es : List Expr} {p pos : Pos} {t : TA}
theorem pe_fn (D : Dn X.K X.mg x st ps f fd) (G : FnOk X.prog X.w X.K X.mg X.base CX0 k f fd ps sp) (hr : Room k X.A) (hg : Gl X x) (ha : PA X (e :: es) t) (hdb : (x == ("__debug__" : Str)) = false := by decide)
    (hs : starEach (e :: es) X.env = (false, eval e X.env) :: starEach es X.env := by rfl) (hpl : (backTo pos (starEach es X.env)).any (·.1) = false := by rfl) : PE X (.Call (.Name x p) (e :: es) [] pos) (tCall sp [] E0 t) :=
  pe_call G hr hg D.gl D.fn.kp D.bd .nil pass0 ha hdb hs hpl
end
end L2
namespace L2
open PySem PySem.Spec PyProof.Rows
def blkN (N : List Str) (x : Str) : List Str := N.map (fun y => if y = x then Str.empty else y) ++ [x]
def clOf (cells : List (Str × Addr)) : List (Str × NameKind) → List (Str × Addr) → List (Str × Addr)
  | [], acc => acc
  | (n, k) :: r, acc => clOf cells r (if (k == .free) = true then (match cells.lookup n with | some c => (n, c) :: acc | none => acc) else acc)
structure LcScope (S : Scope) (N : List Str) (sc : Scope) (x : Str) : Prop where
  uniq : (sc.names.map (·.1)).Nodup
  kind : sc.kind = .function
  names : ∀ y ∈ sc.names, y.2 = .local → sc.names.lookup y.1 = some .local
  loc : sc.names.lookup x = some .local ∨ sc.names.lookup x = some .cell
  free : ∀ y ∈ sc.names, y.2 = .free → S.names.lookup y.1 = some .cell ∨ S.names.lookup y.1 = some .free
  only : ∀ y ∈ sc.names, y.2 = .local → y.1 = x ∨ y.1 = ".0"
  onlyC : ∀ y ∈ sc.names, y.2 = .cell → y.1 = x
  ne : ∀ y ∈ sc.names, y.1 ≠ Str.empty
  dot : ∀ y ∈ N, y ≠ ".0"
  nd : (blkN N x).Nodup
theorem lookup_relab {c : Str → NameKind → Bool} {y : Str} : ∀ (names : List (Str × NameKind)), (names.map fun (n, k) => if c n k = true then (n, NameKind.cell) else (n, k)).lookup y = (names.lookup y).map fun k => if c y k = true then NameKind.cell else k
  | [] => rfl
  | (n, k) :: r => by
    have ih := lookup_relab (c := c) (y := y) r
    show List.lookup y ((if c n k = true then (n, NameKind.cell) else (n, k)) :: _) = _
    cases hx : y == n with
    | true =>
      have e : y = n := by simpa using hx
      subst e
      by_cases hc : c y k = true
      · rw [if_pos hc]; simp [List.lookup_cons, hc]
      · rw [if_neg hc]; simp [List.lookup_cons, hc]
    | false =>
      by_cases hc : c n k = true
      · rw [if_pos hc]; simp only [List.lookup_cons, hx]; exact ih
      · rw [if_neg hc]; simp only [List.lookup_cons, hx]; exact ih
theorem relab_lookup {sc : Scope} {env : Env} {y : Str} {k : NameKind} (h : (relabel sc env).names.lookup y = some k) : ∃ k0, (y, k0) ∈ sc.names ∧ (k = k0 ∨ (k = .cell ∧ k0 = .free)) := by
  have e := lookup_relab (c := fun n k => k == NameKind.free && env.scope.kind == .function && env.kindOf n == some .cell) (y := y) sc.names
  have h' : (sc.names.map fun (n, k) => if (k == NameKind.free && env.scope.kind == .function && env.kindOf n == some .cell) = true then (n, NameKind.cell) else (n, k)).lookup y = some k := h
  rw [e] at h'
  cases q : sc.names.lookup y with
  | none => rw [q] at h'; cases h'
  | some k0 =>
    rw [q] at h'
    refine ⟨k0, PySem.mem_of_lookup q, ?_⟩
    have h'' : (if (k0 == NameKind.free && env.scope.kind == .function && env.kindOf y == some .cell) = true then NameKind.cell else k0) = k := Option.some.inj h'
    by_cases hc : (k0 == NameKind.free && env.scope.kind == .function && env.kindOf y == some .cell) = true
    · rw [if_pos hc] at h''
      refine .inr ⟨h''.symm, ?_⟩
      have := (Bool.and_eq_true_iff.mp (Bool.and_eq_true_iff.mp hc).1).1
      simpa using this
    · rw [if_neg hc] at h''
      exact .inl h''.symm
theorem clOf_sub {cells : List (Str × Addr)} : ∀ (names : List (Str × NameKind)) (acc : List (Str × Addr)), (∀ y c, acc.lookup y = some c → cells.lookup y = some c) → ∀ y c, (clOf cells names acc).lookup y = some c → cells.lookup y = some c
  | [], _, h => h
  | (n, k) :: r, acc, h => by
    refine clOf_sub r _ fun y c => ?_
    by_cases hk : (k == NameKind.free) = true
    · rw [if_pos hk]
      cases q : cells.lookup n with
      | none => exact h y c
      | some d =>
        intro e
        show cells.lookup y = some c
        have e' : List.lookup y ((n, d) :: acc) = some c := e
        rw [List.lookup_cons] at e'
        cases hx : y == n with
        | true =>
          rw [hx] at e'
          have : y = n := by simpa using hx
          subst this
          rw [q]; exact e'
        | false =>
          rw [hx] at e'
          exact h y c e'
    · rw [if_neg hk]
      exact h y c
theorem clOf_acc {cells : List (Str × Addr)} {y : Str} : ∀ (names : List (Str × NameKind)) (acc : List (Str × Addr)), (acc.lookup y).isSome = true → ((clOf cells names acc).lookup y).isSome = true
  | [], _, h => h
  | (n, k) :: r, acc, h => by
    refine clOf_acc r _ ?_
    by_cases hk : (k == NameKind.free) = true
    · rw [if_pos hk]
      cases q : cells.lookup n with
      | none => exact h
      | some d =>
        show (List.lookup y ((n, d) :: acc)).isSome = true
        rw [List.lookup_cons]
        cases hx : y == n with
        | true => rfl
        | false => exact h
    · rw [if_neg hk]; exact h
theorem clOf_has {cells : List (Str × Addr)} {y : Str} (hc : (cells.lookup y).isSome = true) : ∀ (names : List (Str × NameKind)) (acc : List (Str × Addr)), (y, NameKind.free) ∈ names → ((clOf cells names acc).lookup y).isSome = true
  | (n, k) :: r, acc, h => by
    rcases List.mem_cons.mp h with e | h
    · cases e
      refine clOf_acc r _ ?_
      rw [if_pos (by rfl)]
      obtain ⟨c, q⟩ := Option.isSome_iff_exists.mp hc
      rw [q]
      show (List.lookup y ((y, c) :: acc)).isSome = true
      rw [List.lookup_cons, beq_self_eq_true]
      rfl
    · exact clOf_has hc r _ h
theorem cellOf_some {env : Env} {y : Str} {c : Addr} (h : env.cells.lookup y = some c) : cellOf env y = pure c := by
  unfold cellOf
  rw [h]
theorem closure_of {sc : Scope} {env : Env} (h : ∀ y ∈ sc.names, y.2 = .free → (env.cells.lookup y.1).isSome = true) : closureFor sc env = pure (clOf env.cells sc.names []) := by
  have all : ∀ (names : List (Str × NameKind)) (acc : List (Str × Addr)), (∀ y ∈ names, y.2 = .free → (env.cells.lookup y.1).isSome = true) →
      (forIn names acc fun (x : Str × NameKind) (cs : List (Str × Addr)) => (do
        let (name, kind) := x
        if (kind == .free) = true then let c ← cellOf env name; pure (ForInStep.yield ((name, c) :: cs)) else pure (ForInStep.yield cs) : Sem (ForInStep (List (Str × Addr))))) = pure (clOf env.cells names acc) := by
    intro names
    induction names with
    | nil => intro acc _; rfl
    | cons a r ih =>
      intro acc hh
      obtain ⟨n, k⟩ := a
      rw [List.forIn_cons]
      by_cases hk : (k == NameKind.free) = true
      · obtain ⟨c, q⟩ := Option.isSome_iff_exists.mp (hh (n, k) List.mem_cons_self (by simpa using hk))
        simp only [hk, if_true, cellOf_some q, pure_bind]
        rw [ih _ fun y hy => hh y (List.mem_cons_of_mem _ hy)]
        show pure (clOf env.cells r ((n, c) :: acc)) = pure (clOf env.cells r (if (k == NameKind.free) = true then _ else acc))
        rw [if_pos hk, q]
      · simp only [hk, Bool.false_eq_true, if_false, pure_bind]
        rw [ih _ fun y hy => hh y (List.mem_cons_of_mem _ hy)]
        show pure (clOf env.cells r acc) = pure (clOf env.cells r (if (k == NameKind.free) = true then _ else acc))
        rw [if_neg hk]
  unfold closureFor
  first
    | exact (congrArg (fun z => z >>= pure) (all sc.names [] h)).trans (by simp)
    | (have e := all sc.names [] h
       simp only [bind_pure] at e ⊢
       exact e)
def ownC (sc : Scope) (x : Str) (n : Nat) : List (Str × Addr) := if sc.names.lookup x = some .cell then [(x, n)] else []
def Cx.blk (X : Cx) (N' : List Str) (sc : Scope) (x : Str) (s₀ : Shared) (H₀ : Hp) (fp : List Addr) : Cx :=
  { X with N := N', s₀ := s₀, H₀ := H₀, env := compEnvC sc (ownC sc x (s₀.heap.objs.size + 1) ++ clOf X.env.cells sc.names []) s₀.heap.objs.size X.env, outer := X.stack, stack := X.stack, ex := fp, fn := fun y => decide (y = x ∧ sc.names.lookup x = some .cell), pn := [], xe := fun _ _ => False }
theorem lookup_mem {α : Type} : ∀ {l : List (Str × α)} {y : Str} {k : α}, (l.map (·.1)).Nodup → (y, k) ∈ l → l.lookup y = some k
  | (n, v) :: r, y, k, nd, h => by
    rw [List.lookup_cons]
    have nd' : (n :: r.map (·.1)).Nodup := nd
    obtain ⟨h1, h2⟩ := List.nodup_cons.mp nd'
    rcases List.mem_cons.mp h with e | h
    · cases e
      rw [beq_self_eq_true]
    · have ne : (y == n) = false := by
        rw [beq_eq_false_iff_ne]
        exact fun e => h1 (List.mem_map.mpr ⟨(y, k), h, e⟩)
      rw [ne]
      exact lookup_mem h2 h
theorem cellsFrom_none {acc : List (Str × Addr)} : ∀ {names : List (Str × NameKind)} {n : Nat}, (∀ y ∈ names, y.2 ≠ .cell) → cellsFrom n names acc = acc
  | [], _, _ => rfl
  | (y, k) :: r, n, h => by
    unfold cellsFrom
    rw [if_neg (by simpa using h (y, k) List.mem_cons_self)]
    exact cellsFrom_none fun z hz => h z (List.mem_cons_of_mem _ hz)
theorem pushCells_none : ∀ {names : List (Str × NameKind)} {h : Heap}, (∀ y ∈ names, y.2 ≠ .cell) → pushCells h names = h
  | [], _, _ => rfl
  | (y, k) :: r, h, hn => by
    unfold pushCells
    rw [if_neg (by simpa using hn (y, k) List.mem_cons_self)]
    exact pushCells_none fun z hz => hn z (List.mem_cons_of_mem _ hz)
theorem cellsFrom_one {x : Str} {acc : List (Str × Addr)} : ∀ {names : List (Str × NameKind)} {n : Nat}, (names.map (·.1)).Nodup → (∀ y ∈ names, y.2 = .cell → y.1 = x) → (x, NameKind.cell) ∈ names → cellsFrom n names acc = (x, n) :: acc
  | (y, k) :: r, n, nd, ho, hm => by
    have nd' : (y :: r.map (·.1)).Nodup := nd
    obtain ⟨h1, h2⟩ := List.nodup_cons.mp nd'
    unfold cellsFrom
    by_cases hk : (k == NameKind.cell) = true
    · rw [if_pos hk]
      have e : y = x := ho (y, k) List.mem_cons_self (by simpa using hk)
      subst e
      refine cellsFrom_none fun z hz hc => h1 (List.mem_map.mpr ⟨z, hz, ?_⟩)
      exact ho z (List.mem_cons_of_mem _ hz) hc
    · rw [if_neg hk]
      rcases List.mem_cons.mp hm with e | hm
      · cases e
        exact absurd rfl hk
      · exact cellsFrom_one h2 (fun z hz => ho z (List.mem_cons_of_mem _ hz)) hm
theorem pushCells_one {x : Str} : ∀ {names : List (Str × NameKind)} {h : Heap}, (names.map (·.1)).Nodup → (∀ y ∈ names, y.2 = .cell → y.1 = x) → (x, NameKind.cell) ∈ names → pushCells h names = h.push { cls := .type "cell", data := .cell none }
  | (y, k) :: r, h, nd, ho, hm => by
    have nd' : (y :: r.map (·.1)).Nodup := nd
    obtain ⟨h1, h2⟩ := List.nodup_cons.mp nd'
    unfold pushCells
    by_cases hk : (k == NameKind.cell) = true
    · rw [if_pos hk]
      have e : y = x := ho (y, k) List.mem_cons_self (by simpa using hk)
      subst e
      refine pushCells_none fun z hz hc => h1 (List.mem_map.mpr ⟨z, hz, ?_⟩)
      exact ho z (List.mem_cons_of_mem _ hz) hc
    · rw [if_neg hk]
      rcases List.mem_cons.mp hm with e | hm
      · cases e
        exact absurd rfl hk
      · exact pushCells_one h2 (fun z hz => ho z (List.mem_cons_of_mem _ hz)) hm
theorem newEnv_lc {M : Model} {A : Around} {E : Value → Shared → Prop} {s : Shared} {scope : Scope} {globals : Addr} {closure : List (Str × Addr)} {qual : Str} {func : Option Addr} {code : Value} {outer : Env} {builtins : Addr} {Q : Env → Shared → Prop}
    (hQ : Q (newEnv scope s.heap.objs.size globals (cellsFrom (s.heap.objs.size + 1) scope.names closure) qual func code (some outer) builtins) { s with heap := pushCells (s.heap.push { cls := .type "dict", data := .dict #[] }) scope.names }) :
    wpAny M A (newFunctionEnv scope globals closure [] qual func code (some outer) builtins) Q E s := by
  simp only [newFunctionEnv, Option.isSome_some, if_true]
  refine wpAny_bind (wpAny_alloc ?_)
  refine wpAny_bind (wpAny_layCells _ (fun name kind cells => by cases hkc : kind == NameKind.cell <;> simp [hkc]) _ _ _ _ ?_)
  rw [show ({ s with heap := s.heap.push { cls := .type "dict", data := .dict #[] } } : Shared).heap.objs.size = s.heap.objs.size + 1 from Heap.size_push ..]
  exact wpAny_bind (wpAny_pure (wpAny_pure hQ))
theorem LcScope.cells {S : Scope} {N : List Str} {sc : Scope} {x : Str} (L : LcScope S N sc x) (n : Nat) (cl : List (Str × Addr)) : cellsFrom n sc.names cl = ownC sc x n ++ cl := by
  unfold ownC
  rcases L.loc with h | h
  · rw [if_neg (by rw [h]; simp)]
    exact cellsFrom_none fun y hy hc => by
      have e := L.onlyC y hy hc
      have := lookup_mem L.uniq (y := x) (k := .cell) (by rw [← e, ← hc]; exact hy)
      rw [h] at this
      cases this
  · rw [if_pos h]
    exact cellsFrom_one L.uniq L.onlyC (PySem.mem_of_lookup h)
theorem LcScope.heap {S : Scope} {N : List Str} {sc : Scope} {x : Str} (L : LcScope S N sc x) (h : Heap) : (∀ b o, h.get? b = some o → (pushCells h sc.names).get? b = some o) ∧ (sc.names.lookup x = some .cell → (pushCells h sc.names).IsCell h.objs.size none) := by
  refine ⟨fun b o e => pushCells_keeps _ _ b o e, fun hc => ?_⟩
  rw [pushCells_one L.uniq L.onlyC (PySem.mem_of_lookup hc)]
  exact ⟨_, Heap.get?_push_size _ rfl, rfl⟩
theorem ownC_lookup {sc : Scope} {x y : Str} {n : Nat} {c : Addr} {cl : List (Str × Addr)} (h : (ownC sc x n ++ cl).lookup y = some c) : (y = x ∧ c = n ∧ sc.names.lookup x = some .cell) ∨ cl.lookup y = some c := by
  unfold ownC at h
  by_cases hc : sc.names.lookup x = some .cell
  · rw [if_pos hc] at h
    have h' : List.lookup y ((x, n) :: cl) = some c := h
    rw [List.lookup_cons] at h'
    cases e : y == x with
    | true =>
      rw [e] at h'
      exact .inl ⟨by simpa using e, (Option.some.inj h').symm, hc⟩
    | false =>
      rw [e] at h'
      exact .inr h'
  · rw [if_neg hc] at h
    exact .inr h
theorem ownC_other {sc : Scope} {x y : Str} {n : Nat} {cl : List (Str × Addr)} (h : y ≠ x) : (ownC sc x n ++ cl).lookup y = cl.lookup y := by
  unfold ownC
  by_cases hc : sc.names.lookup x = some .cell
  · rw [if_pos hc]
    show List.lookup y ((x, n) :: cl) = _
    rw [List.lookup_cons, beq_eq_false_iff_ne.mpr h]
  · rw [if_neg hc]
    rfl
theorem ownC_self {sc : Scope} {x : Str} {n : Nat} {cl : List (Str × Addr)} (h : sc.names.lookup x = some .cell) : (ownC sc x n ++ cl).lookup x = some n := by
  unfold ownC
  rw [if_pos h]
  show List.lookup x ((x, n) :: cl) = _
  rw [List.lookup_cons, beq_self_eq_true]
section
variable {X : Cx} {pins : List (Addr × Obj)} {σ : St} {H : Hp} {s : Shared} {sc : Scope} {x : Str} {fp : List Addr}
theorem blkN_len (N : List Str) (x : Str) : (blkN N x).length = N.length + 1 := by simp [blkN]
theorem blkN_at {N : List Str} {x : Str} {i : Nat} {y : Str} (h : (blkN N x)[i]? = some y) (hi : i < N.length) : ∃ y0, N[i]? = some y0 ∧ ((y0 = x ∧ y = Str.empty) ∨ (y0 ≠ x ∧ y = y0)) := by
  unfold blkN at h
  rw [List.getElem?_append_left (by simpa using hi), List.getElem?_map] at h
  cases q : N[i]? with
  | none => rw [q] at h; cases h
  | some y0 =>
    rw [q] at h
    refine ⟨y0, rfl, ?_⟩
    have h' : (if y0 = x then Str.empty else y0) = y := Option.some.inj h
    by_cases e : y0 = x
    · rw [if_pos e] at h'; exact .inl ⟨e, h'.symm⟩
    · rw [if_neg e] at h'; exact .inr ⟨e, h'.symm⟩
theorem Inv.has_cell (I : Inv X pins σ H s) {S : Scope} (L : LcScope S X.N sc x) (hS : X.env.scope = S) : ∀ y ∈ sc.names, y.2 = .free → (X.env.cells.lookup y.1).isSome = true := fun y hy hf => by
  have k : X.env.kindOf y.1 = some .cell ∨ X.env.kindOf y.1 = some .free := by
    show X.env.scope.names.lookup y.1 = _ ∨ X.env.scope.names.lookup y.1 = _
    rw [hS]
    exact L.free y hy hf
  obtain ⟨c, e⟩ := I.ok.has y.1 k
  rw [e]; rfl
theorem Inv.blk (I : Inv X pins σ H s) {S : Scope} (L : LcScope S X.N sc x) (hS : X.env.scope = S) (hf : ∀ b ∈ fp, FpOk X pins H b) (hb : ∀ b ∈ fp, b < s.heap.objs.size) {h1 : Heap} {tk : Nat} {m : Str → Option Value} (hn : h1.Ns s.heap.objs.size m)
    (hk : ∀ b o, s.heap.get? b = some o → h1.get? b = some o) (hoc : sc.names.lookup x = some .cell → h1.IsCell (s.heap.objs.size + 1) none) : Inv (X.blk (blkN X.N x) sc x s H fp) [] (σ ++ [none]) H { s with heap := h1, toks := tk } := by
  have sub : ∀ y c, (clOf X.env.cells sc.names []).lookup y = some c → X.env.cells.lookup y = some c := clOf_sub sc.names [] fun _ _ z => by cases z
  have sub2 : ∀ y c, (ownC sc x (s.heap.objs.size + 1) ++ clOf X.env.cells sc.names []).lookup y = some c → (y = x ∧ c = s.heap.objs.size + 1 ∧ sc.names.lookup x = some .cell) ∨ X.env.cells.lookup y = some c := fun y c e =>
    (ownC_lookup e).imp id (sub y c)
  have ltc : ∀ y c, X.env.cells.lookup y = some c → c < s.heap.objs.size := fun y c e => by
    obtain ⟨v, z⟩ := I.cell y c e
    exact z.lt
  have fkey : ∀ y, (y, NameKind.free) ∈ sc.names → y ≠ x := fun y hy e => by
    subst e
    have z := lookup_mem L.uniq hy
    rcases L.loc with q | q <;> rw [q] at z <;> cases z
  have hasC : ∀ y, (y, NameKind.free) ∈ sc.names → ∃ c, (ownC sc x (s.heap.objs.size + 1) ++ clOf X.env.cells sc.names []).lookup y = some c := fun y hy => by
    rw [ownC_other (fkey y hy)]
    exact Option.isSome_iff_exists.mp (clOf_has (I.has_cell L hS (y, .free) hy rfl) sc.names [] hy)
  have kinds : ∀ y k, (relabel sc X.env).names.lookup y = some k → (k = .cell ∨ k = .free) → (y, NameKind.free) ∈ sc.names ∨ (y = x ∧ sc.names.lookup x = some .cell) := fun y k e hk => by
    obtain ⟨k0, hm, q⟩ := relab_lookup e
    rcases q with rfl | ⟨_, rfl⟩
    · rcases hk with rfl | rfl
      · have e := L.onlyC _ hm rfl
        have e' : y = x := e
        subst e'
        exact .inr ⟨rfl, lookup_mem L.uniq hm⟩
      · exact .inl hm
    · exact .inl hm
  have stk := I.stkSub
  refine ⟨⟨I.ok.mod, L.kind, I.ok.glob, I.ok.blt, Nat.le_refl _, fun y z c e1 e2 => ?_, fun y hy => ?_, fun y c z e => ?_, I.ok.hd, I.ok.frames, .inl rfl, fun b hb' => ?_, I.bs, Nat.le_trans I.ok.bsz I.sz, fun b o e hb' => ?_, fun b hb' z => ?_, I.stack, I.stkFree⟩,
    rfl, I.bare, Un.kept hk, ⟨m, hn, fun i y v e1 e2 e3 => ?_⟩, fun y c e => ?_, I.hok.fresh (Nat.le_refl _), fun y c e => ?_, fun p hp => absurd (show p ∈ ([] : List (Addr × Obj)) from hp) (by simp), I.hok.kept hk, ?_⟩
  · rcases sub2 y c e1 with ⟨q1, q2, _⟩ | q <;> rcases sub2 z c e2 with ⟨q1', q2', _⟩ | q'
    · rw [q1, q1']
    · have z1 := ltc z c q'
      rw [q2] at z1
      exact absurd z1 (Nat.not_lt.mpr (Nat.le_succ _))
    · have z1 := ltc y c q
      rw [q2'] at z1
      exact absurd z1 (Nat.not_lt.mpr (Nat.le_succ _))
    · exact I.ok.inj y z c q q'
  · have hy' : (relabel sc X.env).names.lookup y = some .cell ∨ (relabel sc X.env).names.lookup y = some .free := hy
    have z : (y, NameKind.free) ∈ sc.names ∨ (y = x ∧ sc.names.lookup x = some .cell) := by
      rcases hy' with e | e
      · exact kinds y _ e (.inl rfl)
      · exact kinds y _ e (.inr rfl)
    rcases z with z | ⟨rfl, z⟩
    · exact hasC y z
    · exact ⟨_, ownC_self z⟩
  · have z' : decide (y = x ∧ sc.names.lookup x = some .cell) = true := z
    obtain ⟨rfl, z2⟩ := of_decide_eq_true z'
    have e' : (ownC sc y (s.heap.objs.size + 1) ++ clOf X.env.cells sc.names []).lookup y = some c := e
    rw [ownC_self z2] at e'
    cases e'
    exact Nat.le_succ _
  · obtain ⟨f0, f1, f2, f3, f4, f5⟩ := hf b hb'
    refine ⟨Nat.ne_of_lt (hb b hb'), fun y c e z => ?_⟩
    rcases sub2 y c e with ⟨_, q2, _⟩ | q
    · have z1 := hb b hb'
      rw [← z, q2] at z1
      exact absurd z1 (Nat.not_lt.mpr (Nat.le_succ _))
    · exact f4 y c q z
  · obtain ⟨f0, f1, f2, f3, f4, f5⟩ := hf b hb'
    rcases f3 with z | z
    · exact I.ok.noex b o e z
    · exact absurd (Nat.lt_of_lt_of_le (Heap.lt_size (I.ok.bs b o e).1) z) (Nat.lt_irrefl _)
  · obtain ⟨f0, f1, f2, f3, f4, f5⟩ := hf b hb'
    rcases List.mem_cons.mp (stk b z) with q | q
    · exact f1 q
    · exact f2 q
  · have hl : σ.length = X.N.length := I.len
    have hi : i < X.N.length := by
      by_cases hi : i < σ.length
      · omega
      · rw [List.getElem?_append_right (by omega)] at e2
        cases q : i - σ.length with
        | zero => rw [q] at e2; cases e2
        | succ n => rw [q] at e2; cases e2
    rw [List.getElem?_append_left (by omega)] at e2
    obtain ⟨y0, g1, g2⟩ := blkN_at e1 hi
    have vis : ∃ k, (relabel sc X.env).names.lookup y = some k ∧ (k = .local ∨ k = .cell ∨ k = .free) := by
      rcases e3 with q | q | q
      · exact ⟨_, q, .inl rfl⟩
      · exact ⟨_, q, .inr (.inl rfl)⟩
      · exact ⟨_, q, .inr (.inr rfl)⟩
    obtain ⟨k, q, hk'⟩ := vis
    obtain ⟨k0, hm, q0⟩ := relab_lookup q
    rcases g2 with ⟨_, rfl⟩ | ⟨g2, rfl⟩
    · exact absurd rfl (L.ne _ hm)
    · have hkc : k = .cell ∨ k = .free := by
        rcases hk' with rfl | z
        · exfalso
          rcases q0 with rfl | ⟨z, _⟩
          · rcases L.only _ hm rfl with z | z
            · exact g2 z
            · exact L.dot y (List.mem_of_getElem? g1) z
          · cases z
        · exact z
      have hfr : (y, NameKind.free) ∈ sc.names := (kinds y k q hkc).resolve_right fun z => g2 z.1
      have visX : X.env.scope.names.lookup y = some .cell ∨ X.env.scope.names.lookup y = some .free := by rw [hS]; exact L.free _ hfr rfl
      obtain ⟨m0, _, hl0⟩ := I.loc
      obtain ⟨u, r, lk⟩ := hl0 i y v g1 e2 (.inr visX)
      refine ⟨u, r, ?_⟩
      rcases lk with ⟨z, _⟩ | ⟨_, c, ec, hc⟩
      · exfalso
        have z' : X.env.scope.names.lookup y = some .local := z
        rcases visX with w' | w' <;> rw [z'] at w' <;> cases w'
      · obtain ⟨c', ec'⟩ := hasC y hfr
        have : c' = c := by
          rw [ownC_other (fkey y hfr)] at ec'
          exact Option.some.inj ((sub y c' ec').symm.trans ec)
        subst this
        refine .inr ⟨?_, c', ec', ?_⟩
        · rcases hkc with rfl | rfl
          · exact .inl q
          · exact .inr q
        · obtain ⟨o, ho, hd⟩ := hc
          exact ⟨o, hk _ _ ho, hd⟩
  · rcases sub2 y c e with ⟨_, q2, q3⟩ | q
    · rw [q2]; exact ⟨_, hoc q3⟩
    · obtain ⟨v, o, ho, hd⟩ := I.cell y c q
      exact ⟨v, o, hk _ _ ho, hd⟩
  · rcases sub2 y c e with ⟨_, q2, _⟩ | q
    · rw [q2]; exact I.hok.fresh (Nat.le_succ _)
    · exact I.freeC y c q
  · rw [List.length_append, I.len]
    exact (blkN_len X.N x).symm
theorem relab_own {sc : Scope} {env : Env} {x : Str} (h : sc.names.lookup x = some .cell) : (relabel sc env).names.lookup x = some .cell := by
  have e := lookup_relab (c := fun n k => k == NameKind.free && env.scope.kind == .function && env.kindOf n == some .cell) (y := x) sc.names
  show (sc.names.map fun (n, k) => if (k == NameKind.free && env.scope.kind == .function && env.kindOf n == some .cell) = true then (n, NameKind.cell) else (n, k)).lookup x = some .cell
  rw [e, h]
  rfl
theorem relab_loc {S : Scope} {N : List Str} {env : Env} (L : LcScope S N sc x) : Loc (relabel sc env) x := by
  rcases L.loc with h | h
  · exact .inl (lookup_relabel_local h)
  · exact .inr (relab_own h)
theorem relab_fn {S : Scope} {N : List Str} {env : Env} (L : LcScope S N sc x) : decide (x = x ∧ sc.names.lookup x = some .cell) = true ∨ (relabel sc env).names.lookup x = some .local := by
  rcases L.loc with h | h
  · exact .inr (lookup_relabel_local h)
  · exact .inl (decide_eq_true ⟨rfl, h⟩)
theorem compLoopG {prog : Program} {w : World} {A : Around} {R : Result → Shared → Prop} {elt target iter : Expr} {scope : Scope} {pos : Pos} {it acc : Value} {env : Env} (I : Nat → Shared → Prop)
    (turn : ∀ n s, I n s → wpAny (model prog w) A (pyNext it) (fun r s₁ => match r with
      | none => R (.ok .next) s₁
      | some v => wpAny (model prog w) A (letOwnedTupleGo target it v) (fun _ s₁' => wpAny (model prog w) A (assign target env v) (fun _ s₂ => wpAny (model prog w) A (eval elt env) (fun x s₃ =>
          wpAny (model prog w) A (call (.builtin "list.append") [acc, x]) (fun _ s₄ => ∃ m, m < n ∧ I m s₄) (fun _ _ => False) s₃) (fun _ _ => False) s₂) (fun _ _ => False) s₁') (fun _ _ => False) s₁) (fun _ _ => False) s)
    (n : Nat) (h : I n s) : codeAny (model prog w) A (.compLoop (.ListComp elt [⟨target, iter, [], 0⟩] scope pos) 0 it acc env) R s := by
  refine codeAny_loop rfl I (fun n s hI => ?_) n h
  show wpAny _ _ ((compTurn (.ListComp elt [⟨target, iter, [], 0⟩] scope pos) 0 it acc env).onRaise (fun x => do noteFrame x env; theTreesLotGoes x)) _ _ s
  refine wpAny_noted ?_
  rw [compTurn_list1]
  refine wpAny_bind (wpAny_standAt (wpAny_bind (wpAny_mono (turn n s hI) (fun r s₁ h₁ => ?_) fun _ _ z => z.elim)))
  cases r with
  | none => exact wpAny_pure h₁
  | some v =>
    exact wpAny_bind (wpAny_mono h₁ (fun _ s₁' h₁' => wpAny_bind (wpAny_mono h₁' (fun _ s₂ h₂ => wpAny_bind (wpAny_bind (wpAny_mono h₂ (fun x s₃ h₃ => wpAny_bind (wpAny_mono h₃
      (fun _ s₄ h₄ => wpAny_pure (wpAny_pure ⟨rfl, h₄⟩)) fun _ _ z => z.elim)) fun _ _ z => z.elim))) fun _ _ z => z.elim)) fun _ _ z => z.elim)
def tLc (ti : TI) (te : TE) : TE := fun σ H Q => ti σ H fun J H1 => ∀ D, H1 D = none → ∃ W : Nat → Nat → List V → Hp → Prop, (∃ m, W 0 m [] (upd H1 D (.lst []))) ∧
  ∀ i m ys H', W i m ys H' → H' D = some (.lst ys) ∧ ((J.stop i H' ∧ Q (.ref D) H') ∨ (J.go i H' ∧ ∀ z H2, J.yld i H' z H2 → te (σ ++ [some z]) H2 fun v H3 => H3 D = some (.lst ys) ∧ ys.length < sizeLine ∧ ∃ m', m' < m ∧ W (i + 1) m' (ys ++ [v]) (upd H3 D (.lst (ys ++ [v])))))
theorem lc_core {elt iter : Expr} {px pos : Pos} {te : TE} {S : Scope} {use : Option (Value → Sem Unit)} {QQ : Value → Shared → Prop} {Q : VK} {it : Addr} {tn : Nat → Heap → Prop} {J : It} (hc : X.calm = true) (L : LcScope S X.N sc x) (hS : X.env.scope = S)
    (he : ∀ (s₀ : Shared) (H₀ : Hp) (fp : List Addr), PE (X.blk (blkN X.N x) sc x s₀ H₀ fp) elt te)
    (I : Inv X pins σ H s) (T : Turn X.prog X.w X.K (.Name x px) J fp it tn) (st : tn 0 s.heap) (hf : ∀ b ∈ fp, FpOk X pins H b)
    (h : ∀ D, H D = none → ∃ W : Nat → Nat → List V → Hp → Prop, (∃ m, W 0 m [] (upd H D (.lst []))) ∧
      ∀ i m ys H', W i m ys H' → H' D = some (.lst ys) ∧ ((J.stop i H' ∧ Q (.ref D) H') ∨ (J.go i H' ∧ ∀ z H2, J.yld i H' z H2 → te (σ ++ [some z]) H2 fun v H3 => H3 D = some (.lst ys) ∧ ys.length < sizeLine ∧ ∃ m', m' < m ∧ W (i + 1) m' (ys ++ [v]) (upd H3 D (.lst (ys ++ [v]))))))
    (fin : ∀ (D C : Addr) (H' : Hp) (s' : Shared) (m : Str → Option Value), Inv X pins σ H' s' → Q (.ref D) H' → s'.heap.Ns C m → H' C = none → s.heap.objs.size ≤ C → (∀ p ∈ X.pn ++ pins, p.1 ≠ C) → C ≠ X.env.locals → (∀ y c, X.env.cells.lookup y = some c → c ≠ C) → compPost (model X.prog X.w) X.A X.xe use QQ (.ref D) C (.ok .next) s') :
    wpAny (model X.prog X.w) X.A (newList []) (fun acc s₃ => wpAny (model X.prog X.w) X.A (newFunctionEnv sc X.env.globals (clOf X.env.cells sc.names []) [] X.env.qual none .none (some X.env)) (fun cenv s₄ =>
      codeAny (model X.prog X.w) X.A (.compStart (.ListComp elt [⟨.Name x px, iter, [], 0⟩] sc pos) 0 (.ref it) acc { cenv with scope := relabel sc X.env }) (compPost (model X.prog X.w) X.A X.xe use QQ acc cenv.locals) s₄) X.xe s₃) X.xe s := by
  refine wpAny_newObj_type ?_
  have hD : H s.heap.objs.size = none := I.hok.fresh (Nat.le_refl _)
  obtain ⟨W, ⟨m0, w0⟩, turn⟩ := h s.heap.objs.size hD
  have I2 : Inv X pins σ (upd H s.heap.objs.size (.lst [])) { s with heap := s.heap.push { cls := .type "list", data := .seq ([] : List Value).toArray } } := I.lnew (t' := s.toks) .nil (Nat.zero_le _)
  have lt0 : ∀ b ∈ fp, b < s.heap.objs.size := fun b hb => by
    obtain ⟨o, e, _⟩ := T.obj 0 s.heap st b hb
    exact Heap.lt_size e
  have hf2 : ∀ b ∈ fp, FpOk X pins (upd H s.heap.objs.size (.lst [])) b := fun b hb => by
    obtain ⟨f0, f⟩ := hf b hb
    exact ⟨by rw [upd_ne (Nat.ne_of_lt (lt0 b hb))]; exact f0, f⟩
  have st2 : tn 0 (s.heap.push { cls := .type "list", data := .seq ([] : List Value).toArray }) := T.keep 0 _ _ st fun b _ o e => Heap.get?_push_of_some _ e
  generalize hs2 : ({ s with heap := s.heap.push { cls := .type "list", data := .seq ([] : List Value).toArray } } : Shared) = s2 at I2
  have eh : s2.heap = s.heap.push { cls := .type "list", data := .seq ([] : List Value).toArray } := by rw [← hs2]
  have lt2 : ∀ b ∈ fp, b < s2.heap.objs.size := fun b hb => by rw [eh, Heap.size_push]; exact Nat.lt_succ_of_lt (lt0 b hb)
  rw [← eh] at st2
  have le2 : s.heap.objs.size ≤ s2.heap.objs.size := by rw [eh, Heap.size_push]; exact Nat.le_succ _
  show wpAny _ _ _ _ _ s2
  refine newEnv_lc ?_
  rw [L.cells]
  have hp0 := L.heap (s2.heap.push { cls := .type "dict", data := .dict #[] })
  have hns0 : (s2.heap.push { cls := .type "dict", data := .dict #[] }).Ns s2.heap.objs.size _ := Heap.Ns.new s2.heap (.type "dict")
  have hns₁ := hns0.keeps hp0.1
  have hoc := hp0.2
  rw [Heap.size_push] at hoc
  have keep : ∀ b o, s2.heap.get? b = some o → (pushCells (s2.heap.push { cls := .type "dict", data := .dict #[] }) sc.names).get? b = some o := fun b o e => hp0.1 b o (Heap.get?_push_of_some _ e)
  generalize pushCells (s2.heap.push { cls := .type "dict", data := .dict #[] }) sc.names = h₁ at hns₁ hoc keep ⊢
  have J0 : Inv (X.blk (blkN X.N x) sc x s2 (upd H s.heap.objs.size (.lst [])) fp) [] (σ ++ [none]) (upd H s.heap.objs.size (.lst [])) { s2 with heap := h₁ } := I2.blk (tk := s2.toks) L hS hf2 lt2 hns₁ keep hoc
  have st3 : tn 0 h₁ := T.keep 0 _ _ st2 fun b _ o e => keep b o e
  have hl : σ.length = X.N.length := I.len
  have stat : ∀ {H' : Hp}, (∀ b ∈ fp, H' b = none) → ∀ b ∈ fp, FpOk (X.blk (blkN X.N x) sc x s2 (upd H s.heap.objs.size (.lst [])) fp) [] H' b := fun {H'} hn b hb => by
    have o1 := J0.ok.exf b hb
    exact ⟨hn b hb, o1.1, J0.ok.exfs b hb, .inl hb, o1.2, fun p hp => absurd (show p ∈ ([] : List (Addr × Obj)) from hp) (by simp)⟩
  have loop : codeAny (model X.prog X.w) X.A (.compLoop (.ListComp elt [⟨.Name x px, iter, [], 0⟩] sc pos) 0 (.ref it) (.ref s.heap.objs.size) (compEnvC sc (ownC sc x (s2.heap.objs.size + 1) ++ clOf X.env.cells sc.names []) s2.heap.objs.size X.env))
      (compPost (model X.prog X.w) X.A X.xe use QQ (.ref s.heap.objs.size) s2.heap.objs.size) { s2 with heap := h₁ } := by
    refine compLoopG (fun n s' => ∃ i ys H' o, Inv (X.blk (blkN X.N x) sc x s2 (upd H s.heap.objs.size (.lst [])) fp) [] (σ ++ [o]) H' s' ∧ tn i s'.heap ∧ (∀ b ∈ fp, H' b = none) ∧ W i n ys H') ?_ m0 ⟨0, [], _, none, J0, st3, fun b hb => (hf2 b hb).1, w0⟩
    rintro n s4 ⟨i, ys, H4, o, J4, st4, fr4, w4⟩
    obtain ⟨hD4, tt⟩ := turn i n ys H4 w4
    rcases tt with ⟨stop, q⟩ | ⟨go, step⟩
    · refine thn (T.done (X.blk (blkN X.N x) sc x s2 (upd H s.heap.objs.size (.lst [])) fp) rfl rfl rfl hc i [] s4 _ H4 _ J4 (stat fr4) st4 stop) fun r s5 ⟨hr, J5⟩ => ?_
      subst hr
      have I5 : Inv X pins σ H4 s5 := I2.call' J5.os J5.base J5.hok J5.bare fun b hb => by
        obtain ⟨f0, f1, f2, f3, f4, f5⟩ := hf2 b hb
        exact ⟨f3, f1, f4, f5⟩
      obtain ⟨m5, n5, _⟩ := J5.loc
      exact fin _ _ H4 s5 m5 I5 q n5 J5.free le2 (fun p hp z => by
          have := Heap.lt_size (I2.pin p hp).1
          rw [z] at this
          exact Nat.lt_irrefl _ this) (Nat.ne_of_gt I2.lt) (fun y c e z => by
          obtain ⟨v, o, ho, _⟩ := I2.cell y c e
          have := Heap.lt_size ho
          rw [z] at this
          exact Nat.lt_irrefl _ this)
    · refine thn (T.item (X.blk (blkN X.N x) sc x s2 (upd H s.heap.objs.size (.lst [])) fp) rfl rfl rfl hc i [] s4 _ H4 _ J4 (stat fr4) st4 go) fun r s5 ⟨u, hr, h5⟩ => ?_
      subst hr
      refine thn h5 fun _ s6 ⟨z, H6, J6, r6, y6, st6, fr6⟩ => ?_
      have J6' := J6.pinned (stat fr6) (T.obj _ _ st6)
      refine thn (pg_name (X := X.blk (blkN X.N x) sc x s2 (upd H s.heap.objs.size (.lst [])) fp) (i := X.N.length) L.nd (by show (blkN X.N x)[X.N.length]? = some x; unfold blkN; rw [List.getElem?_append_right (by simp)]; simp) (relab_loc L) (relab_fn L)
        _ s6 _ H6 z u (fun σ' H' => σ' = σ ++ [some z] ∧ H' = H6) J6' r6 ⟨by
          rw [List.set_append_right _ _ (by omega)]
          have : X.N.length - σ.length = 0 := by omega
          rw [this]
          rfl, rfl⟩) fun _ s7 ⟨σ7, H7, J7, e7, e8⟩ => ?_
      subst e7 e8
      refine thn (he s2 (upd H s.heap.objs.size (.lst [])) fp _ s7 _ H7 _ J7 (step z H7 y6)) fun vv s8 ⟨v, H8, J8, r8, hD8, hz8, m', hm, w8⟩ => ?_
      refine thn (mt_append (X := X.blk (blkN X.N x) sc x s2 (upd H s.heap.objs.size (.lst [])) fp) _ s8 _ H8 (.ref s.heap.objs.size) [v] (.ref s.heap.objs.size) [vv] (fun _ H' => H' = upd H8 s.heap.objs.size (.lst (ys ++ [v]))) J8 rfl (.cons r8 .nil) ⟨_, ys, v, rfl, rfl, hD8, hz8, rfl⟩) fun _ s9 ⟨_, H9, J9, _, e9⟩ => ?_
      subst e9
      refine ⟨m', hm, i + 1, ys ++ [v], _, some z, J9.unpinned, T.keep _ _ _ st6 fun b hb o e => (J9.pin (b, o) (List.mem_append_right _ (List.mem_append_right _ (mem_pinsAt hb e)))).1, fun b hb => ?_, w8⟩
      obtain ⟨o', e', _⟩ := T.obj _ _ st6 b hb
      exact (J9.pin (b, o') (List.mem_append_right _ (List.mem_append_right _ (mem_pinsAt hb e')))).2.1
  refine codeAny_compStart_list loop (T.self _ 0 _ _ _ st3 loop)
theorem pe_lc {elt iter : Expr} {px pos : Pos} {ti : TI} {te : TE} {S : Scope} (hc : X.calm = true) (L : LcScope S X.N sc x) (hS : X.env.scope = S) (hi : PI X (.Name x px) iter ti)
    (he : ∀ (s₀ : Shared) (H₀ : Hp) (fp : List Addr), PE (X.blk (blkN X.N x) sc x s₀ H₀ fp) elt te) (hs : ∀ x, foldedSetIterable iter X.env x = pure x := by intro _; rfl) :
    PE X (.ListComp elt [⟨.Name x px, iter, [], 0⟩] sc pos) (tLc ti te) := by
  intro pins s σ H Q I h
  rw [eval_ListComp]
  refine wpAny_comprehension_free (use := none) rfl hs (closure_of (I.has_cell L hS)) L.kind L.names (thn (hi pins s σ H _ I h) fun xv s₁ h₁ => thn h₁ fun itv s₂ h₂ => ?_)
  obtain ⟨it, fp, tn, J, H2, rfl, I2, T, st2, f2, q2⟩ := h₂
  refine lc_core hc L hS he I2 T st2 f2 q2 ?_
  intro D C H' s' m I' q hn hC hle hp hL hcl
  refine ⟨m, hn, fun h' hs' => ?_⟩
  have I3 : Inv X pins σ H' { s' with heap := h' } := I'.turned (t' := s'.toks) (fun b o hb e => (hs'.2 b hb).trans e) hC hL (.inr (Nat.le_trans I2.sz hle)) hcl hp
  exact ⟨.ref D, H', I3, rfl, q⟩
theorem ps_setLc {elt iter : Expr} {i : Nat} {y : Str} {px py pos spos : Pos} {ti : TI} {te : TE} {S : Scope} (hN : X.N.Nodup) (hi : X.N[i]? = some y) (hy : Loc X.env.scope y) (hc : X.calm = true) (L : LcScope S X.N sc x) (hS : X.env.scope = S) (hit : PI X (.Name x px) iter ti)
    (he : ∀ (s₀ : Shared) (H₀ : Hp) (fp : List Addr), PE (X.blk (blkN X.N x) sc x s₀ H₀ fp) elt te)
    (hsw : swapsWith (.ListComp elt [⟨.Name x px, iter, [], 0⟩] sc pos) (some (.Name y py)) spos.line X.env = pure true := by rfl) (hs : ∀ x, foldedSetIterable iter X.env x = pure x := by intro _; rfl)
    (hf : X.fn y = true ∨ X.env.scope.names.lookup y = some .local := by first | exact .inl rfl | exact .inr rfl | assumption) :
    PS X (.Assign [.Name y py] (.ListComp elt [⟨.Name x px, iter, [], 0⟩] sc pos) spos) (tAsg (tLc ti te) (gName i)) := by
  intro pins s σ H D I h
  rw [exec_Assign_Name_used _ _ _ _ hsw]
  refine wpAny_bind (wpAny_standAt (wpAny_bind ?_))
  show wpAny _ _ (do let _ ← comprehension (.ListComp elt [⟨.Name x px, iter, [], 0⟩] sc pos) sc X.env _ (newList []) false (eval iter X.env) (some (assign (.Name y py) X.env))) _ _ s
  refine wpAny_bind (wpAny_mono (wpAny_comprehension_free (use := some (assign (.Name y py) X.env)) (Q := fun _ s' => SP X pins D .next s') rfl hs (closure_of (I.has_cell L hS)) L.kind L.names
    (thn (hit pins s σ H _ I h) fun xv s₁ h₁ => thn h₁ fun itv s₂ h₂ => ?_)) (fun _ s' hq => wpAny_pure (wpAny_pure hq)) fun _ _ e => e)
  obtain ⟨it, fp, tn, J, H2, rfl, I2, T, st2, f2, q2⟩ := h₂
  refine lc_core (Q := fun v H' => D.nx (σ.set i (some v)) H') hc L hS he I2 T st2 f2 q2 ?_
  intro D' C H' s' m I' q hn hC hle hp hL hcl
  show wpAny _ _ (assign (.Name y py) X.env (.ref D')) _ _ s'
  refine wpAny_assign_Name (store_ok2 I' hN hi hy (v := .ref D') (u := .ref D') rfl (fun s'' I'' ⟨a, sb, ha⟩ => ?_) hf)
  have nCa : C ≠ a := by
    rcases ha with rfl | ha
    · exact hL
    · exact fun z => hcl y a ha z.symm
  refine ⟨m, hn.sameBut sb nCa, fun h' hs' => ?_⟩
  have I3 : Inv X pins (σ.set i (some (.ref D'))) H' { s'' with heap := h' } := I''.turned (t' := s''.toks) (fun b o hb e => (hs'.2 b hb).trans e) hC hL (.inr (Nat.le_trans I2.sz hle)) hcl hp
  exact ⟨_, H', I3, q⟩
end
end L2
namespace L2
open PySem PySem.Spec PyProof.Rows
section
variable {X : Cx}
end
end L2
namespace L2
open PySem PySem.Spec PyProof.Rows
theorem lc_list {K : PySem.W.Frag} {a : Addr} {xs : List V} {te : TE} {Q : Hp → Prop} {σ : St} {H1 : Hp} {D : Addr} (Pv : Nat → List V → Hp → Prop) (h0 : Pv 0 [] (upd H1 D (.lst []))) (hl : ∀ i ys H', i ≤ xs.length → Pv i ys H' → SqL K H' a xs ∧ H' D = some (.lst ys))
    (hs : ∀ i x ys H', xs[i]? = some x → Pv i ys H' → te (σ ++ [some x]) H' fun v H3 => H3 D = some (.lst ys) ∧ ys.length < sizeLine ∧ Pv (i + 1) (ys ++ [v]) (upd H3 D (.lst (ys ++ [v])))) (hd : ∀ ys H', Pv xs.length ys H' → Q H')
    (mono : ∀ σ H Q Q', (∀ v H1, Q v H1 → Q' v H1) → te σ H Q → te σ H Q') :
    ∃ W : Nat → Nat → List V → Hp → Prop, (∃ m, W 0 m [] (upd H1 D (.lst []))) ∧
      ∀ i m ys H', W i m ys H' → H' D = some (.lst ys) ∧ (((Itl K a).stop i H' ∧ Q H') ∨ ((Itl K a).go i H' ∧ ∀ z H2, (Itl K a).yld i H' z H2 → te (σ ++ [some z]) H2 fun v H3 => H3 D = some (.lst ys) ∧ ys.length < sizeLine ∧ ∃ m', m' < m ∧ W (i + 1) m' (ys ++ [v]) (upd H3 D (.lst (ys ++ [v]))))) := by
  refine ⟨fun i m ys H' => m = xs.length - i ∧ i ≤ xs.length ∧ Pv i ys H', ⟨xs.length, by simp, Nat.zero_le _, h0⟩, ?_⟩
  rintro i m ys H' ⟨rfl, hi, p⟩
  obtain ⟨q, eD⟩ := hl i ys H' hi p
  refine ⟨eD, ?_⟩
  by_cases hlt : i < xs.length
  · refine .inr ⟨⟨xs, xs[i], q, by simp [hlt]⟩, fun z H2 y => ?_⟩
    obtain ⟨e, y⟩ := y
    subst e
    refine mono _ _ _ _ (fun v H3 ⟨z1, z2, z3⟩ => ⟨z1, z2, xs.length - (i + 1), by omega, rfl, hlt, z3⟩) (hs i z ys _ (y xs q) p)
  · have e : i = xs.length := by omega
    subst e
    exact .inl ⟨⟨xs, q, Nat.le_refl _⟩, hd ys H' p⟩
theorem lc_range {lo : Int} {n : Nat} {te : TE} {Q : Hp → Prop} {σ : St} {H1 : Hp} {D : Addr} (Pv : Nat → List V → Hp → Prop) (h0 : Pv 0 [] (upd H1 D (.lst []))) (hl : ∀ i ys H', i ≤ n → Pv i ys H' → H' D = some (.lst ys))
    (hs : ∀ i ys H', i < n → Pv i ys H' → te (σ ++ [some (.int (lo + (i : Nat)))]) H' fun v H3 => H3 D = some (.lst ys) ∧ ys.length < sizeLine ∧ Pv (i + 1) (ys ++ [v]) (upd H3 D (.lst (ys ++ [v])))) (hd : ∀ ys H', Pv n ys H' → Q H')
    (mono : ∀ σ H Q Q', (∀ v H1, Q v H1 → Q' v H1) → te σ H Q → te σ H Q') :
    ∃ W : Nat → Nat → List V → Hp → Prop, (∃ m, W 0 m [] (upd H1 D (.lst []))) ∧
      ∀ i m ys H', W i m ys H' → H' D = some (.lst ys) ∧ (((Itr lo n).stop i H' ∧ Q H') ∨ ((Itr lo n).go i H' ∧ ∀ z H2, (Itr lo n).yld i H' z H2 → te (σ ++ [some z]) H2 fun v H3 => H3 D = some (.lst ys) ∧ ys.length < sizeLine ∧ ∃ m', m' < m ∧ W (i + 1) m' (ys ++ [v]) (upd H3 D (.lst (ys ++ [v]))))) := by
  refine ⟨fun i m ys H' => m = n - i ∧ i ≤ n ∧ Pv i ys H', ⟨n, by simp, Nat.zero_le _, h0⟩, ?_⟩
  rintro i m ys H' ⟨rfl, hi, p⟩
  refine ⟨hl i ys H' hi p, ?_⟩
  by_cases hlt : i < n
  · refine .inr ⟨hlt, fun z H2 y => ?_⟩
    obtain ⟨e, y⟩ := y
    subst e y
    refine mono _ _ _ _ (fun v H3 ⟨z1, z2, z3⟩ => ⟨z1, z2, n - (i + 1), by omega, rfl, hlt, z3⟩) (hs i ys _ hlt p)
  · have e : i = n := by omega
    subst e
    exact .inl ⟨Nat.le_refl _, hd ys H' p⟩
end L2
namespace L2
open PySem PySem.Spec PyProof.Rows
section
variable {X : Cx}
theorem call_sum (hc : X.calm = true) : CallR X (.builtin "sum") (fun xs H Q => ∃ (p : Addr) (ns : List Int), xs = [.ref p] ∧ SqL X.K H p (ns.map V.int) ∧ Q (.int ns.sum) H) := by
  intro pins s σ H xs us Q I r h
  obtain ⟨p, ns, rfl, hq, q⟩ := h
  obtain ⟨u, rfl, rx⟩ := vals1 r
  cases rx
  obtain ⟨its, rv, pl, hz⟩ := I.list hq
  have hI : IntsAre its ns := intsAre_of rv
  obtain ⟨ys, hx⟩ := hI.allInts.items
  have hl' : s.heap.IsList p (intItems ys) := hx ▸ pl.isList
  refine sum_intListG (I.ok.hd hc) hl' fun h' tk t' hk => ?_
  have e1 : ns = ys.toList.map (·.1) := by
    rw [← nums_intItems, ← hx]
    exact (show numsOf its.toArray.toList = ns from hI.numsOf).symm
  have e2 : preSum (numAt ys) ys.size = ns.sum := by
    rw [preSum_eq, List.take_of_length_le (by simp), e1]
  rw [e2]
  exact ⟨.int ns.sum, H, I.kept hk, ⟨_, rfl⟩, q⟩
end
end L2
namespace L2
open PySem PySem.Spec PyProof.Rows
section
variable {X : Cx} {pins : List (Addr × Obj)} {σ : List (Option V)} {H : Hp} {s : Shared} {h' : Heap}
theorem Inv.turnedL {t' : Nat} {its : List Addr} (I : Inv X pins σ H s) (k : ∀ b o, b ∉ its → s.heap.get? b = some o → h'.get? b = some o) (hf : ∀ b ∈ its, FpOk X pins H b) : Inv X pins σ H { s with heap := h', toks := t' } := by
  have nit : ∀ b u, H b = some u → b ∉ its := fun b u e z => by rw [(hf b z).1] at e; cases e
  refine I.step (g' := s.gens) (d' := s.drawn) (ch := its) (fun b hb => ?_) (fun b o _ _ hc e _ => k b o hc e) (fun b o _ _ hc e _ => ⟨o.slots, k b o hc e⟩) (fun _ _ _ _ n => n)
    (fun b o hc e => ⟨o, k b o hc e⟩) (fun _ _ e => e) (fun _ _ _ e => e) (fun b ps e => ⟨#[], by rw [e]; simp⟩) (fun m hm => ?_) (fun b u e => ?_) I.bare
  · obtain ⟨f0, f1, f2, f3, f4, f5⟩ := hf b hb
    exact ⟨f3, f1, f4, f5⟩
  · obtain ⟨o, es, ep, ho, r⟩ := hm
    exact ⟨o, es, ep, k _ o (fun z => (hf _ z).2.1 rfl) ho, r⟩
  · refine (I.hok b u e).stay (fun c v hc q => k c v ?_ q) (fun _ q => q) fun _ _ q => q
    rcases hc with z | z
    · rw [z]; exact nit b u e
    · exact nit c _ z
end
def Itz (K : PySem.W.Frag) (a b : Addr) : It :=
  ⟨fun i H => ∃ xs ys x y, SqL K H a xs ∧ SqL K H b ys ∧ xs[i]? = some x ∧ ys[i]? = some y,
   fun i H z H' => ∃ t x y, z = .ref t ∧ H t = none ∧ H' = upd H t (.tup [x, y]) ∧ (∀ xs, SqL K H a xs → xs[i]? = some x) ∧ ∀ ys, SqL K H b ys → ys[i]? = some y,
   fun i H => ∃ xs ys, SqL K H a xs ∧ SqL K H b ys ∧ (xs.length ≤ i ∨ ys.length ≤ i)⟩
structure Ap5 (z TI TO i1 i2 : Addr) : Prop where
  a1 : TI ≠ z
  a2 : TO ≠ z
  a3 : i1 ≠ z
  a4 : i2 ≠ z
  a5 : TI ≠ TO
  a6 : TI ≠ i1
  a7 : TI ≠ i2
  a8 : TO ≠ i1
  a9 : TO ≠ i2
  b1 : i1 ≠ i2
def ZSt (z TI TO i1 i2 a b : Addr) (i : Nat) (h : Heap) : Prop := IsZip h z TI TO .none ∧ IsPair h TI (.ref i1) (.ref i2) ∧ (∃ c d, IsPair h TO c d) ∧ h.IsListIter i1 a i ∧ h.IsListIter i2 b i
theorem cls_ne {h : Heap} {a b : Addr} {o o' : Obj} (e : h.get? a = some o) (e' : h.get? b = some o') (n : o.cls ≠ o'.cls) : a ≠ b := fun z => by
  subst z
  rw [e] at e'
  cases e'
  exact n rfl
theorem zap {h : Heap} {z TI TO i1 i2 a b : Addr} {i : Nat} {xs ys : Array Value} (D : Ap5 z TI TO i1 i2) (st : ZSt z TI TO i1 i2 a b i h) (ha : h.IsList a xs) (hb : h.IsList b ys) : ZipApart z TI TO i1 i2 a b := by
  obtain ⟨hz, hTI, ⟨c, d, hTO⟩, ⟨o1, e1, c1, _⟩, ⟨o2, e2, c2, _⟩⟩ := st
  obtain ⟨oa, ea, ca, _⟩ := ha
  obtain ⟨ob, eb, cb, _⟩ := hb
  exact ⟨D.a1, D.a2, D.a3, D.a4, D.a5, D.a6, D.a7, D.a8, D.a9, D.b1,
    cls_ne ea hz (by rw [ca]; show Value.type "list" ≠ Value.type "zip"; decide), cls_ne ea hTO (by rw [ca]; show Value.type "list" ≠ Value.type "tuple"; decide), cls_ne ea e1 (by rw [ca, c1]; decide), cls_ne ea e2 (by rw [ca, c2]; decide),
    cls_ne eb hz (by rw [cb]; show Value.type "list" ≠ Value.type "zip"; decide), cls_ne eb hTO (by rw [cb]; show Value.type "list" ≠ Value.type "tuple"; decide), cls_ne eb e1 (by rw [cb, c1]; decide), cls_ne eb e2 (by rw [cb, c2]; decide)⟩
theorem turn_zip {P : Program} {w : World} {K : PySem.W.Frag} {elts : List Expr} {ek : Nat} {epos : Pos} {z TI TO i1 i2 a b : Addr} (D : Ap5 z TI TO i1 i2) : Turn P w K (.Tuple elts ek epos) (Itz K a b) [z, TI, TO, i1, i2] z (ZSt z TI TO i1 i2 a b) where
  mem := by simp
  obj := fun i h st c hc => by
    obtain ⟨hz, hTI, ⟨p, q, hTO⟩, ⟨o1, e1, c1, d1⟩, ⟨o2, e2, c2, d2⟩⟩ := st
    have hc' : c = z ∨ c = TI ∨ c = TO ∨ c = i1 ∨ c = i2 := by simpa using hc
    rcases hc' with rfl | rfl | rfl | rfl | rfl
    · exact ⟨_, hz, fun v e => by cases e⟩
    · exact ⟨_, hTI, fun v e => by cases e⟩
    · exact ⟨_, hTO, fun v e => by cases e⟩
    · exact ⟨_, e1, fun v e => by rw [d1] at e; cases e⟩
    · exact ⟨_, e2, fun v e => by rw [d2] at e; cases e⟩
  keep := fun i h h' st k => by
    obtain ⟨hz, hTI, ⟨p, q, hTO⟩, l1, l2⟩ := st
    exact ⟨k z (by simp) _ hz, k TI (by simp) _ hTI, ⟨p, q, k TO (by simp) _ hTO⟩, l1.at fun o e => k i1 (by simp) o e, l2.at fun o e => k i2 (by simp) o e⟩
  item := by
    intro X hP hw hK hc i pins s σ H E I hf st hg
    subst hP hw hK
    obtain ⟨xs, ys, x, y, hx, hy, ex, ey⟩ := hg
    obtain ⟨ia, ra, pa, za⟩ := I.list hx
    obtain ⟨ib, rb, pb, zb⟩ := I.list hy
    obtain ⟨u, hu, ru⟩ := ra.get ex
    obtain ⟨v, hv, rv⟩ := rb.get ey
    have A := zap D st pa.isList pb.isList
    have stl := st
    obtain ⟨hz, hTI, ⟨p, q, hTO⟩, l1, l2⟩ := st
    refine wpAny_pyNext_zip_item A hz hTI hTO l1 l2 pa.isList pb.isList (x := u) (y := v) (by simpa using hu) (by simpa using hv) fun h' a1 a2 a3 a4 a5 a6 a7 => ?_
    refine ⟨_, rfl, wpAny_letOwnedTupleGo_zip a1 fun h2 b1 b2 => ?_⟩
    have hT : H s.heap.objs.size = none := I.hok.fresh (Nat.le_refl _)
    have ltz : ∀ c o, s.heap.get? c = some o → s.heap.objs.size ≠ c := fun c o e => Nat.ne_of_gt (Heap.lt_size e)
    have hTI' := a7 _ _ D.a1 D.a5 D.a6 D.a7 hTI
    have Tz : s.heap.objs.size ≠ z := ltz _ _ hz
    have aT : h2.get? s.heap.objs.size = some { cls := .type "tuple", data := .seq #[u, v] } := b2.extBut _ _ Tz a5
    have k2 : ∀ c o, c ≠ z → c ≠ TO → c ≠ i1 → c ≠ i2 → s.heap.get? c = some o → h2.get? c = some o := fun c o n1 n2 n3 n4 e => b2.extBut _ _ n1 (a7 c o n1 n2 n3 n4 e)
    have I1 : Inv X pins σ (upd H s.heap.objs.size (.tup [x, y])) { s with heap := s.heap.push { cls := .type "tuple", data := .seq #[u, v] } } := by
      refine I.laid (t' := s.toks) (fun c o e => Heap.get?_push_of_some _ e) (Nat.le_refl _) ?_
      exact ⟨(by show 2 ≤ sizeLine; decide), [u, v], .cons ru (.cons rv .nil), IsTup.new s.heap _⟩
    have hf1 : ∀ c ∈ [z, TI, TO, i1, i2], FpOk X pins (upd H s.heap.objs.size (.tup [x, y])) c := fun c hc' => by
      obtain ⟨f0, f⟩ := hf c hc'
      refine ⟨?_, f⟩
      have : ∃ o, s.heap.get? c = some o := by
        have hc'' : c = z ∨ c = TI ∨ c = TO ∨ c = i1 ∨ c = i2 := by simpa using hc'
        obtain ⟨o1, e1, _⟩ := l1
        obtain ⟨o2, e2, _⟩ := l2
        rcases hc'' with rfl | rfl | rfl | rfl | rfl
        · exact ⟨_, hz⟩
        · exact ⟨_, hTI⟩
        · exact ⟨_, hTO⟩
        · exact ⟨_, e1⟩
        · exact ⟨_, e2⟩
      obtain ⟨o, e⟩ := this
      rw [upd_ne (ltz c o e).symm]
      exact f0
    have I2 : Inv X pins σ (upd H s.heap.objs.size (.tup [x, y])) { s with heap := h2 } := by
      refine Inv.turnedL (s := { s with heap := s.heap.push { cls := .type "tuple", data := .seq #[u, v] } }) (h' := h2) (t' := s.toks) (its := [z, TI, TO, i1, i2]) I1 (fun c o hc' e => ?_) hf1
      have hc'' : ¬ (c = z ∨ c = TI ∨ c = TO ∨ c = i1 ∨ c = i2) := by simpa using hc'
      by_cases hcs : c = s.heap.objs.size
      · subst hcs
        have e' : (s.heap.push { cls := .type "tuple", data := .seq #[u, v] }).get? s.heap.objs.size = some o := e
        rw [Heap.get?_push_size _ rfl] at e'
        cases e'
        exact aT
      · have hlt : c < (s.heap.push { cls := .type "tuple", data := .seq #[u, v] }).objs.size := Heap.lt_size e
        rw [Heap.size_push] at hlt
        refine k2 c o (fun z' => hc'' (.inl z')) (fun z' => hc'' (.inr (.inr (.inl z')))) (fun z' => hc'' (.inr (.inr (.inr (.inl z'))))) (fun z' => hc'' (.inr (.inr (.inr (.inr z'))))) ?_
        rw [← e]
        exact (Heap.get?_push_ne _ _ _ hcs).symm
    refine ⟨.ref s.heap.objs.size, _, I2, rfl, ⟨_, x, y, rfl, hT, rfl, fun ws hw => by rw [I.list_inj hw hx]; exact ex, fun ws hw => by rw [I.list_inj hw hy]; exact ey⟩, ?_, fun c hc' => (hf1 c hc').1⟩
    exact ⟨b1, b2.extBut _ _ D.a1 hTI', ⟨_, _, b2.extBut _ _ D.a2 a2⟩, a3.extBut b2.extBut D.a3, a4.extBut b2.extBut D.a4⟩
  done := by
    intro X hP hw hK hc i pins s σ H E I hf st hg
    subst hP hw hK
    obtain ⟨xs, ys, hx, hy, hl⟩ := hg
    obtain ⟨ia, ra, pa, za⟩ := I.list hx
    obtain ⟨ib, rb, pb, zb⟩ := I.list hy
    have A := zap D st pa.isList pb.isList
    have hla := ra.length
    have hlb := rb.length
    obtain ⟨hz, hTI, ⟨p, q, hTO⟩, l1, l2⟩ := st
    refine wpAny_pyNext_zip_end (I.ok.hd hc) A hz hTI hTO l1 l2 pa.isList pb.isList (by
      rcases hl with hl | hl
      · exact .inl (by simp; omega)
      · exact .inr (by simp; omega)) fun h' k => ⟨rfl, ?_⟩
    exact I.turnedL (t' := s.toks) (its := [z, TI, TO, i1, i2]) (fun c o hc' e => by
      have hc'' : ¬ (c = z ∨ c = TI ∨ c = TO ∨ c = i1 ∨ c = i2) := by simpa using hc'
      exact k c o (fun z' => hc'' (.inl z')) (fun z' => hc'' (.inr (.inr (.inl z')))) (fun z' => hc'' (.inr (.inr (.inr (.inl z'))))) (fun z' => hc'' (.inr (.inr (.inr (.inr z'))))) e) hf
  self := fun _ _ _ _ _ st h => wpAny_pyIter_zip st.1 h
section
variable {X : Cx}
def iZip (K : PySem.W.Frag) (ta : TA) : TI := fun σ H R => ta σ H fun vs H1 => ∃ a b, vs = [.ref a, .ref b] ∧ (∃ xs, SqL K H1 a xs) ∧ (∃ ys, SqL K H1 b ys) ∧ R (Itz K a b) H1
theorem boot_zip : bootBuiltins "zip" = some (.type "zip") := by decide +kernel
theorem pi_zip {elts : List Expr} {ek : Nat} {epos : Pos} {a b : Expr} {ta : TA} {p pos : Pos} (hg : Gl X "zip") (hm : X.mg "zip" = none) (ha : PA X [a, b] ta) (hs : starEach [a, b] X.env = [(false, eval a X.env), (false, eval b X.env)] := by rfl) (hs2 : starEach [b] X.env = [(false, eval b X.env)] := by rfl) :
    PI X (.Tuple elts ek epos) (.Call (.Name "zip" p) [a, b] [] pos) (iZip X.K ta) := by
  intro pins s σ H R I h
  refine Call_ (ld_blt I hg hm boot_zip (PyProof.Rows.callWith_type1 (thn (ha pos pins s σ H _ I h) fun us s1 ⟨vs, H1, I1, r1, q1⟩ => ?_) (by rw [hs, hs2]) (by rw [hs2]; rfl)))
  obtain ⟨l1, l2, e, ⟨xs, hx⟩, ⟨ys, hy⟩, q⟩ := q1
  subst e
  obtain ⟨u, v, rfl, ru, rv⟩ := vals2 r1
  cases ru
  cases rv
  obtain ⟨ia, ra, pa, za⟩ := I1.list hx
  obtain ⟨ib, rb, pb, zb⟩ := I1.list hy
  refine call_zip_2 pa.isList pb.isList fun h' hz hTI hTO hi1 hi2 hsz hk => wpAny_pyIter_zip hz ?_
  have fr : ∀ b, s1.heap.objs.size ≤ b → FpOk X pins H1 b := fun b hb => I1.fpOk hb (I1.hok.fresh hb)
  refine ⟨_, [s1.heap.objs.size + 4, s1.heap.objs.size + 2, s1.heap.objs.size + 3, s1.heap.objs.size, s1.heap.objs.size + 1], _, _, H1, rfl, I1.kept (t' := s1.toks) hk,
    turn_zip (TI := s1.heap.objs.size + 2) (TO := s1.heap.objs.size + 3) (i1 := s1.heap.objs.size) (i2 := s1.heap.objs.size + 1) (a := l1) (b := l2) ?_, ⟨hz, hTI, ⟨_, _, hTO⟩, hi1, hi2⟩, fun b hb => ?_, q⟩
  · generalize s1.heap.objs.size = n
    have ne : ∀ {x y : Nat}, x ≠ y → (n + x : Nat) ≠ n + y := fun h e => h (Nat.add_left_cancel e)
    exact ⟨ne (by decide), ne (by decide), ne (x := 0) (by decide), ne (by decide), ne (by decide), ne (y := 0) (by decide), ne (by decide), ne (y := 0) (by decide), ne (by decide), ne (x := 0) (by decide)⟩
  · have hb' : b = s1.heap.objs.size + 4 ∨ b = s1.heap.objs.size + 2 ∨ b = s1.heap.objs.size + 3 ∨ b = s1.heap.objs.size ∨ b = s1.heap.objs.size + 1 := by simpa using hb
    rcases hb' with rfl | rfl | rfl | rfl | rfl
    · exact fr _ (Nat.le_add_right _ _)
    · exact fr _ (Nat.le_add_right _ _)
    · exact fr _ (Nat.le_add_right _ _)
    · exact fr _ (Nat.le_refl _)
    · exact fr _ (Nat.le_add_right _ _)
def tabD (D : List (Str × Int)) : List (Str × PyProof.Rows.KTD.Dat) := D.map fun p => (p.1, .flat (.int p.2))
structure TabK (K : PySem.W.Frag) (a : Addr) (D : List (Str × Int)) : Prop where
  lk : PyProof.Rows.KTD.tabLook (PyProof.Rows.KTD.datLooks fun b => K.lookup b) (fun b => K.lookup b) a (tabD D) = true
def rIxTab (a : Addr) (D : List (Str × Int)) : R2 := fun x y H Q => ∃ k i, x = .ref a ∧ y = .str k ∧ PyProof.Rows.KTD.datumAt k D = some i ∧ Q (.int i) H
theorem inKeys_tab {k : Str} {i : Int} : ∀ {D : List (Str × Int)}, PyProof.Rows.KTD.datumAt k D = some i → PyProof.Rows.KTD.inKeys k (tabD D) = true
  | [], h => by cases h
  | (x, d) :: D, h => by
    have h' : (if decide (k = x) = true then some d else PyProof.Rows.KTD.datumAt k D) = some i := h
    show (decide (k = x) || PyProof.Rows.KTD.inKeys k (tabD D)) = true
    by_cases e : k = x
    · rw [decide_eq_true e]; rfl
    · rw [decide_eq_false e] at h' ⊢
      exact inKeys_tab (by simpa using h')
theorem eachL_tab {h : Heap} {k : Str} {i : Int} {P : Value → Prop} (hp : ∀ t, P (.int i t)) : ∀ {D : List (Str × Int)}, PyProof.Rows.KTD.datumAt k D = some i → PyProof.Rows.KTD.EachL h k P (tabD D)
  | [], h => by cases h
  | [(x, d)], h => by
    have h' : (if decide (k = x) = true then some d else none) = some i := h
    refine PyProof.Rows.KTD.eachL_last fun e => ?_
    rw [if_pos (decide_eq_true e)] at h'
    cases h'
    exact PyProof.Rows.KTD.opened_int hp
  | (x, d) :: p :: D, h => by
    have h' : (if decide (k = x) = true then some d else PyProof.Rows.KTD.datumAt k (p :: D)) = some i := h
    refine PyProof.Rows.KTD.eachL_ite ?_
    by_cases e : k = x
    · rw [if_pos (decide_eq_true e)] at h' ⊢
      cases h'
      exact PyProof.Rows.KTD.opened_int hp
    · rw [if_neg (by simpa using e)] at h' ⊢
      exact eachL_tab hp h'
theorem plain_tab : ∀ D : List (Str × Int), ((tabD D).all fun p => PyProof.Rows.KTD.plain p.2) = true
  | [] => rfl
  | (x, d) :: D => plain_tab D
theorem ix_tab {a : Addr} {D : List (Str × Int)} (T : TabK X.K a D) : IxR X (rIxTab a D) := by
  intro value slice pins s σ H x y v u Q I rx ry h hs
  obtain ⟨k, i, rfl, rfl, hk, q⟩ := h
  cases rx
  obtain ⟨t, rfl⟩ := ry
  have TT : PyProof.Rows.KTD.TextTab X.base a (tabD D) := PyProof.Rows.KTD.text_of_look (fun b o e => I.mod.kin b o e) T.lk
  exact PyProof.Rows.KTD.item_textA ⟨TT, I.bk⟩ (plain_tab D) (inKeys_tab hk) (eachL_tab (fun t' => ⟨.int i, H, I.tok _, ⟨_, rfl⟩, q⟩) hk) hs
end
end L2
namespace L2
open PySem PySem.Spec PyProof.Rows
def blkNs (N xs : List Str) : List Str := N.map (fun y => if y ∈ xs then Str.empty else y) ++ xs
structure LcScopes (S : Scope) (N : List Str) (sc : Scope) (xs : List Str) : Prop where
  uniq : (sc.names.map (·.1)).Nodup
  kind : sc.kind = .function
  names : ∀ y ∈ sc.names, y.2 = .local → sc.names.lookup y.1 = some .local
  loc : ∀ x ∈ xs, sc.names.lookup x = some .local
  free : ∀ y ∈ sc.names, y.2 = .free → S.names.lookup y.1 = some .cell ∨ S.names.lookup y.1 = some .free
  only : ∀ y ∈ sc.names, y.2 = .local → y.1 ∈ xs ∨ y.1 = ".0"
  noC : ∀ y ∈ sc.names, y.2 ≠ .cell
  ne : ∀ y ∈ sc.names, y.1 ≠ Str.empty
  dot : ∀ y ∈ N, y ≠ ".0"
  nd : (blkNs N xs).Nodup
def Cx.blks (X : Cx) (N' : List Str) (sc : Scope) (s₀ : Shared) (H₀ : Hp) (fp : List Addr) : Cx :=
  { X with N := N', s₀ := s₀, H₀ := H₀, env := compEnvC sc (clOf X.env.cells sc.names []) s₀.heap.objs.size X.env, outer := X.stack, stack := X.stack, ex := fp, fn := fun _ => false, pn := [], xe := fun _ _ => False }
section
variable {X : Cx} {pins : List (Addr × Obj)} {σ : St} {H : Hp} {s : Shared} {sc : Scope} {xs : List Str} {fp : List Addr}
theorem blkNs_len (N xs : List Str) : (blkNs N xs).length = N.length + xs.length := by simp [blkNs]
theorem blkNs_at {N xs : List Str} {i : Nat} {y : Str} (h : (blkNs N xs)[i]? = some y) (hi : i < N.length) : ∃ y0, N[i]? = some y0 ∧ ((y0 ∈ xs ∧ y = Str.empty) ∨ (y0 ∉ xs ∧ y = y0)) := by
  unfold blkNs at h
  rw [List.getElem?_append_left (by simpa using hi), List.getElem?_map] at h
  cases q : N[i]? with
  | none => rw [q] at h; cases h
  | some y0 =>
    rw [q] at h
    refine ⟨y0, rfl, ?_⟩
    have h' : (if y0 ∈ xs then Str.empty else y0) = y := Option.some.inj h
    by_cases e : y0 ∈ xs
    · rw [if_pos e] at h'; exact .inl ⟨e, h'.symm⟩
    · rw [if_neg e] at h'; exact .inr ⟨e, h'.symm⟩
theorem Inv.has_cells (I : Inv X pins σ H s) {S : Scope} (L : LcScopes S X.N sc xs) (hS : X.env.scope = S) : ∀ y ∈ sc.names, y.2 = .free → (X.env.cells.lookup y.1).isSome = true := fun y hy hf => by
  have k : X.env.kindOf y.1 = some .cell ∨ X.env.kindOf y.1 = some .free := by
    show X.env.scope.names.lookup y.1 = _ ∨ X.env.scope.names.lookup y.1 = _
    rw [hS]
    exact L.free y hy hf
  obtain ⟨c, e⟩ := I.ok.has y.1 k
  rw [e]; rfl
theorem Inv.blks (I : Inv X pins σ H s) {S : Scope} (L : LcScopes S X.N sc xs) (hS : X.env.scope = S) (hf : ∀ b ∈ fp, FpOk X pins H b) (hb : ∀ b ∈ fp, b < s.heap.objs.size) {h1 : Heap} {tk : Nat} {m : Str → Option Value} (hn : h1.Ns s.heap.objs.size m)
    (hk : ∀ b o, s.heap.get? b = some o → h1.get? b = some o) : Inv (X.blks (blkNs X.N xs) sc s H fp) [] (σ ++ xs.map fun _ => none) H { s with heap := h1, toks := tk } := by
  have sub : ∀ y c, (clOf X.env.cells sc.names []).lookup y = some c → X.env.cells.lookup y = some c := clOf_sub sc.names [] fun _ _ z => by cases z
  have hasC : ∀ y, (y, NameKind.free) ∈ sc.names → ∃ c, (clOf X.env.cells sc.names []).lookup y = some c := fun y hy =>
    Option.isSome_iff_exists.mp (clOf_has (I.has_cells L hS (y, .free) hy rfl) sc.names [] hy)
  have kinds : ∀ y k, (relabel sc X.env).names.lookup y = some k → (k = .cell ∨ k = .free) → (y, NameKind.free) ∈ sc.names := fun y k e hk => by
    obtain ⟨k0, hm, q⟩ := relab_lookup e
    rcases q with rfl | ⟨_, rfl⟩
    · rcases hk with rfl | rfl
      · exact absurd rfl (L.noC _ hm)
      · exact hm
    · exact hm
  have stk := I.stkSub
  refine ⟨⟨I.ok.mod, L.kind, I.ok.glob, I.ok.blt, Nat.le_refl _, fun y z c e1 e2 => ?_, fun y hy => ?_, fun y c z e => ?_, I.ok.hd, I.ok.frames, .inl rfl, fun b hb' => ?_, I.bs, Nat.le_trans I.ok.bsz I.sz, fun b o e hb' => ?_, fun b hb' z => ?_, I.stack, I.stkFree⟩,
    rfl, I.bare, Un.kept hk, ⟨m, hn, fun i y v e1 e2 e3 => ?_⟩, fun y c e => ?_, I.hok.fresh (Nat.le_refl _), fun y c e => ?_, fun p hp => absurd (show p ∈ ([] : List (Addr × Obj)) from hp) (by simp), I.hok.kept hk, ?_⟩
  · exact I.ok.inj y z c (sub y c e1) (sub z c e2)
  · have hy' : (relabel sc X.env).names.lookup y = some .cell ∨ (relabel sc X.env).names.lookup y = some .free := hy
    rcases hy' with e | e
    · exact hasC y (kinds y _ e (.inl rfl))
    · exact hasC y (kinds y _ e (.inr rfl))
  · exact absurd (show false = true from z) (by decide)
  · obtain ⟨f0, f1, f2, f3, f4, f5⟩ := hf b hb'
    exact ⟨Nat.ne_of_lt (hb b hb'), fun y c e z => f4 y c (sub y c e) z⟩
  · obtain ⟨f0, f1, f2, f3, f4, f5⟩ := hf b hb'
    rcases f3 with z | z
    · exact I.ok.noex b o e z
    · exact absurd (Nat.lt_of_lt_of_le (Heap.lt_size (I.ok.bs b o e).1) z) (Nat.lt_irrefl _)
  · obtain ⟨f0, f1, f2, f3, f4, f5⟩ := hf b hb'
    rcases List.mem_cons.mp (stk b z) with q | q
    · exact f1 q
    · exact f2 q
  · have hl : σ.length = X.N.length := I.len
    have hi : i < X.N.length := by
      by_cases hi : i < σ.length
      · omega
      · rw [List.getElem?_append_right (by omega), List.getElem?_map] at e2
        cases q : xs[i - σ.length]? with
        | none => rw [q] at e2; cases e2
        | some n => rw [q] at e2; cases e2
    rw [List.getElem?_append_left (by omega)] at e2
    obtain ⟨y0, g1, g2⟩ := blkNs_at e1 hi
    have vis : ∃ k, (relabel sc X.env).names.lookup y = some k ∧ (k = .local ∨ k = .cell ∨ k = .free) := by
      rcases e3 with q | q | q
      · exact ⟨_, q, .inl rfl⟩
      · exact ⟨_, q, .inr (.inl rfl)⟩
      · exact ⟨_, q, .inr (.inr rfl)⟩
    obtain ⟨k, q, hk'⟩ := vis
    obtain ⟨k0, hm, q0⟩ := relab_lookup q
    rcases g2 with ⟨_, rfl⟩ | ⟨g2, rfl⟩
    · exact absurd rfl (L.ne _ hm)
    · have hkc : k = .cell ∨ k = .free := by
        rcases hk' with rfl | z
        · exfalso
          rcases q0 with rfl | ⟨z, _⟩
          · rcases L.only _ hm rfl with z | z
            · exact g2 z
            · exact L.dot y (List.mem_of_getElem? g1) z
          · cases z
        · exact z
      have hfr : (y, NameKind.free) ∈ sc.names := kinds y k q hkc
      have visX : X.env.scope.names.lookup y = some .cell ∨ X.env.scope.names.lookup y = some .free := by rw [hS]; exact L.free _ hfr rfl
      obtain ⟨m0, _, hl0⟩ := I.loc
      obtain ⟨u, r, lk⟩ := hl0 i y v g1 e2 (.inr visX)
      refine ⟨u, r, ?_⟩
      rcases lk with ⟨z, _⟩ | ⟨_, c, ec, hc⟩
      · exfalso
        have z' : X.env.scope.names.lookup y = some .local := z
        rcases visX with w' | w' <;> rw [z'] at w' <;> cases w'
      · obtain ⟨c', ec'⟩ := hasC y hfr
        have : c' = c := Option.some.inj ((sub y c' ec').symm.trans ec)
        subst this
        refine .inr ⟨?_, c', ec', ?_⟩
        · rcases hkc with rfl | rfl
          · exact .inl q
          · exact .inr q
        · obtain ⟨o, ho, hd⟩ := hc
          exact ⟨o, hk _ _ ho, hd⟩
  · obtain ⟨v, o, ho, hd⟩ := I.cell y c (sub y c e)
    exact ⟨v, o, hk _ _ ho, hd⟩
  · exact I.freeC y c (sub y c e)
  · rw [List.length_append, List.length_map, I.len]
    exact (blkNs_len X.N xs).symm
def PTs (X : Cx) (ifs : List Expr) (t : TT) : Prop :=
  ∀ (pins : List (Addr × Obj)) (s : Shared) (σ : St) (H : Hp) (Q : Bool → Hp → Prop), Inv X pins σ H s → t σ H Q →
    wpAny (model X.prog X.w) X.A (forIn ifs true fun c r => if r = true then do let ok ← isTrue c X.env (eval c X.env); pure (ForInStep.yield ok) else pure (ForInStep.yield r)) (TP X pins σ Q) X.xe s
def tYes : TT := fun _ H Q => Q true H
theorem pts_nil : PTs X [] tYes := fun _ _ _ H _ I h => wpAny_tests_nil ⟨H, I, h⟩
theorem pts_one {c : Expr} {t : TT} (h : PT X c t) : PTs X [c] t := fun pins s σ H Q I q => wpAny_tests_one (h pins s σ H Q I q)
theorem compLoopT {prog : Program} {w : World} {A : Around} {R : Result → Shared → Prop} {elt target iter : Expr} {ifs : List Expr} {scope : Scope} {pos : Pos} {it acc : Value} {env : Env} (I : Nat → Shared → Prop)
    (turn : ∀ n s, I n s → wpAny (model prog w) A (pyNext it) (fun r s₁ => match r with
      | none => R (.ok .next) s₁
      | some v => wpAny (model prog w) A (letOwnedTupleGo target it v) (fun _ s₁' => wpAny (model prog w) A (assign target env v) (fun _ s₂ =>
          wpAny (model prog w) A (forIn ifs true fun c r => if r = true then do let ok ← isTrue c env (eval c env); pure (ForInStep.yield ok) else pure (ForInStep.yield r)) (fun ok s₃ =>
            if ok = true then wpAny (model prog w) A (eval elt env) (fun x s₄ =>
              wpAny (model prog w) A (call (.builtin "list.append") [acc, x]) (fun _ s₅ => ∃ m, m < n ∧ I m s₅) (fun _ _ => False) s₄) (fun _ _ => False) s₃
            else ∃ m, m < n ∧ I m s₃) (fun _ _ => False) s₂) (fun _ _ => False) s₁') (fun _ _ => False) s₁) (fun _ _ => False) s)
    (n : Nat) (h : I n s) : codeAny (model prog w) A (.compLoop (.ListComp elt [⟨target, iter, ifs, 0⟩] scope pos) 0 it acc env) R s := by
  refine codeAny_loop rfl I (fun n s hI => ?_) n h
  show wpAny _ A ((compTurn (.ListComp elt [⟨target, iter, ifs, 0⟩] scope pos) 0 it acc env).onRaise (fun x => do noteFrame x env; theTreesLotGoes x)) _ _ s
  refine wpAny_noted ?_
  rw [compTurn_list]
  refine wpAny_bind (wpAny_standAt (wpAny_bind (wpAny_mono (turn n s hI) (fun r s₁ h₁ => ?_) fun _ _ z => z.elim)))
  cases r with
  | none => exact wpAny_pure h₁
  | some v =>
    refine wpAny_bind (wpAny_mono h₁ (fun _ s₁' h₁' => ?_) fun _ _ z => z.elim)
    refine wpAny_bind (wpAny_mono h₁' (fun _ s₂ h₂ => wpAny_bind (wpAny_mono h₂ (fun ok s₃ h₃ => ?_) fun _ _ z => z.elim)) fun _ _ z => z.elim)
    cases ok with
    | false => exact wpAny_pure ⟨rfl, h₃⟩
    | true =>
      exact wpAny_bind (wpAny_bind (wpAny_mono h₃ (fun x s₄ h₄ => wpAny_bind (wpAny_mono h₄ (fun _ s₅ h₅ => wpAny_pure (wpAny_pure ⟨rfl, h₅⟩)) fun _ _ z => z.elim)) fun _ _ z => z.elim))
def LcW (n : Nat) (J : It) (g : TG) (tt : TT) (te : TE) (σ : St) (H1 : Hp) (Q : VK) : Prop := ∀ D, H1 D = none → ∃ W : Nat → Nat → List V → Hp → Prop, (∃ m, W 0 m [] (upd H1 D (.lst []))) ∧
  ∀ i m ys H', W i m ys H' → H' D = some (.lst ys) ∧ ((J.stop i H' ∧ Q (.ref D) H') ∨ (J.go i H' ∧ ∀ z H2, J.yld i H' z H2 → ∀ os : St, os.length = n → g z (σ ++ os) H2 fun σ' H3 => (∃ os' : St, σ' = σ ++ os' ∧ os'.length = n) ∧ tt σ' H3 fun ok H4 =>
    if ok = true then te σ' H4 fun v H5 => H5 D = some (.lst ys) ∧ ys.length < sizeLine ∧ ∃ m', m' < m ∧ W (i + 1) m' (ys ++ [v]) (upd H5 D (.lst (ys ++ [v]))) else ∃ m', m' < m ∧ W (i + 1) m' ys H4))
def tLcs (n : Nat) (ti : TI) (g : TG) (tt : TT) (te : TE) : TE := fun σ H Q => ti σ H fun J H1 => LcW n J g tt te σ H1 Q
theorem lcs_core {elt iter target : Expr} {ifs : List Expr} {pos : Pos} {g : TG} {tt : TT} {te : TE} {S : Scope} {use : Option (Value → Sem Unit)} {QQ : Value → Shared → Prop} {Q : VK} {it : Addr} {tn : Nat → Heap → Prop} {J : It} (hc : X.calm = true) (L : LcScopes S X.N sc xs) (hS : X.env.scope = S)
    (hg : ∀ (s₀ : Shared) (H₀ : Hp) (fp : List Addr), PG (X.blks (blkNs X.N xs) sc s₀ H₀ fp) target g) (ht : ∀ (s₀ : Shared) (H₀ : Hp) (fp : List Addr), PTs (X.blks (blkNs X.N xs) sc s₀ H₀ fp) ifs tt)
    (he : ∀ (s₀ : Shared) (H₀ : Hp) (fp : List Addr), PE (X.blks (blkNs X.N xs) sc s₀ H₀ fp) elt te)
    (I : Inv X pins σ H s) (T : Turn X.prog X.w X.K target J fp it tn) (st : tn 0 s.heap) (hf : ∀ b ∈ fp, FpOk X pins H b) (h : LcW xs.length J g tt te σ H Q)
    (fin : ∀ (D C : Addr) (H' : Hp) (s' : Shared) (m : Str → Option Value), Inv X pins σ H' s' → Q (.ref D) H' → s'.heap.Ns C m → H' C = none → s.heap.objs.size ≤ C → (∀ p ∈ X.pn ++ pins, p.1 ≠ C) → C ≠ X.env.locals → (∀ y c, X.env.cells.lookup y = some c → c ≠ C) → compPost (model X.prog X.w) X.A X.xe use QQ (.ref D) C (.ok .next) s') :
    wpAny (model X.prog X.w) X.A (newList []) (fun acc s₃ => wpAny (model X.prog X.w) X.A (newFunctionEnv sc X.env.globals (clOf X.env.cells sc.names []) [] X.env.qual none .none (some X.env)) (fun cenv s₄ =>
      codeAny (model X.prog X.w) X.A (.compStart (.ListComp elt [⟨target, iter, ifs, 0⟩] sc pos) 0 (.ref it) acc { cenv with scope := relabel sc X.env }) (compPost (model X.prog X.w) X.A X.xe use QQ acc cenv.locals) s₄) X.xe s₃) X.xe s := by
  refine wpAny_newObj_type ?_
  have hD : H s.heap.objs.size = none := I.hok.fresh (Nat.le_refl _)
  obtain ⟨W, ⟨m0, w0⟩, turn⟩ := h s.heap.objs.size hD
  have I2 : Inv X pins σ (upd H s.heap.objs.size (.lst [])) { s with heap := s.heap.push { cls := .type "list", data := .seq ([] : List Value).toArray } } := I.lnew (t' := s.toks) .nil (Nat.zero_le _)
  have lt0 : ∀ b ∈ fp, b < s.heap.objs.size := fun b hb => by
    obtain ⟨o, e, _⟩ := T.obj 0 s.heap st b hb
    exact Heap.lt_size e
  have hf2 : ∀ b ∈ fp, FpOk X pins (upd H s.heap.objs.size (.lst [])) b := fun b hb => by
    obtain ⟨f0, f⟩ := hf b hb
    exact ⟨by rw [upd_ne (Nat.ne_of_lt (lt0 b hb))]; exact f0, f⟩
  have st2 : tn 0 (s.heap.push { cls := .type "list", data := .seq ([] : List Value).toArray }) := T.keep 0 _ _ st fun b _ o e => Heap.get?_push_of_some _ e
  generalize hs2 : ({ s with heap := s.heap.push { cls := .type "list", data := .seq ([] : List Value).toArray } } : Shared) = s2 at I2
  have eh : s2.heap = s.heap.push { cls := .type "list", data := .seq ([] : List Value).toArray } := by rw [← hs2]
  have lt2 : ∀ b ∈ fp, b < s2.heap.objs.size := fun b hb => by rw [eh, Heap.size_push]; exact Nat.lt_succ_of_lt (lt0 b hb)
  rw [← eh] at st2
  have le2 : s.heap.objs.size ≤ s2.heap.objs.size := by rw [eh, Heap.size_push]; exact Nat.le_succ _
  show wpAny _ _ _ _ _ s2
  refine newEnv_lc ?_
  rw [cellsFrom_none L.noC, pushCells_none L.noC]
  have hns₁ : (s2.heap.push { cls := .type "dict", data := .dict #[] }).Ns s2.heap.objs.size _ := Heap.Ns.new s2.heap (.type "dict")
  have keep : ∀ b o, s2.heap.get? b = some o → (s2.heap.push { cls := .type "dict", data := .dict #[] }).get? b = some o := fun b o e => Heap.get?_push_of_some _ e
  generalize s2.heap.push { cls := .type "dict", data := .dict #[] } = h₁ at hns₁ keep ⊢
  have J0 : Inv (X.blks (blkNs X.N xs) sc s2 (upd H s.heap.objs.size (.lst [])) fp) [] (σ ++ xs.map fun _ => none) (upd H s.heap.objs.size (.lst [])) { s2 with heap := h₁ } := I2.blks (tk := s2.toks) L hS hf2 lt2 hns₁ keep
  have st3 : tn 0 h₁ := T.keep 0 _ _ st2 fun b _ o e => keep b o e
  have stat : ∀ {H' : Hp}, (∀ b ∈ fp, H' b = none) → ∀ b ∈ fp, FpOk (X.blks (blkNs X.N xs) sc s2 (upd H s.heap.objs.size (.lst [])) fp) [] H' b := fun {H'} hn b hb => by
    have o1 := J0.ok.exf b hb
    exact ⟨hn b hb, o1.1, J0.ok.exfs b hb, .inl hb, o1.2, fun p hp => absurd (show p ∈ ([] : List (Addr × Obj)) from hp) (by simp)⟩
  have loop : codeAny (model X.prog X.w) X.A (.compLoop (.ListComp elt [⟨target, iter, ifs, 0⟩] sc pos) 0 (.ref it) (.ref s.heap.objs.size) (compEnvC sc (clOf X.env.cells sc.names []) s2.heap.objs.size X.env))
      (compPost (model X.prog X.w) X.A X.xe use QQ (.ref s.heap.objs.size) s2.heap.objs.size) { s2 with heap := h₁ } := by
    refine compLoopT (fun n s' => ∃ i ys H' os, os.length = xs.length ∧ Inv (X.blks (blkNs X.N xs) sc s2 (upd H s.heap.objs.size (.lst [])) fp) [] (σ ++ os) H' s' ∧ tn i s'.heap ∧ (∀ b ∈ fp, H' b = none) ∧ W i n ys H') ?_ m0 ⟨0, [], _, xs.map fun _ => none, by simp, J0, st3, fun b hb => (hf2 b hb).1, w0⟩
    rintro n s4 ⟨i, ys, H4, os, los, J4, st4, fr4, w4⟩
    obtain ⟨hD4, tt'⟩ := turn i n ys H4 w4
    rcases tt' with ⟨stop, q⟩ | ⟨go, step⟩
    · refine thn (T.done (X.blks (blkNs X.N xs) sc s2 (upd H s.heap.objs.size (.lst [])) fp) rfl rfl rfl hc i [] s4 _ H4 _ J4 (stat fr4) st4 stop) fun r s5 ⟨hr, J5⟩ => ?_
      subst hr
      have I5 : Inv X pins σ H4 s5 := I2.call' J5.os J5.base J5.hok J5.bare fun b hb => by
        obtain ⟨f0, f1, f2, f3, f4, f5⟩ := hf2 b hb
        exact ⟨f3, f1, f4, f5⟩
      obtain ⟨m5, n5, _⟩ := J5.loc
      exact fin _ _ H4 s5 m5 I5 q n5 J5.free le2 (fun p hp z => by
          have := Heap.lt_size (I2.pin p hp).1
          rw [z] at this
          exact Nat.lt_irrefl _ this) (Nat.ne_of_gt I2.lt) (fun y c e z => by
          obtain ⟨v, o, ho, _⟩ := I2.cell y c e
          have := Heap.lt_size ho
          rw [z] at this
          exact Nat.lt_irrefl _ this)
    · refine thn (T.item (X.blks (blkNs X.N xs) sc s2 (upd H s.heap.objs.size (.lst [])) fp) rfl rfl rfl hc i [] s4 _ H4 _ J4 (stat fr4) st4 go) fun r s5 ⟨u, hr, h5⟩ => ?_
      subst hr
      refine thn h5 fun _ s6 ⟨z, H6, J6, r6, y6, st6, fr6⟩ => ?_
      have J6' := J6.pinned (stat fr6) (T.obj _ _ st6)
      refine thn (hg s2 (upd H s.heap.objs.size (.lst [])) fp _ s6 _ H6 z u _ J6' r6 (step z H6 y6 os los)) fun _ s7 ⟨σ7, H7, J7, ⟨os', e7, l7⟩, t7⟩ => ?_
      subst e7
      refine thn (ht s2 (upd H s.heap.objs.size (.lst [])) fp _ s7 _ H7 _ J7 t7) fun ok s8 ⟨H8, J8, t8⟩ => ?_
      cases ok with
      | false =>
        rw [if_neg Bool.false_ne_true] at t8 ⊢
        obtain ⟨m', hm, w8⟩ := t8
        refine ⟨m', hm, i + 1, ys, _, os', l7, J8.unpinned, T.keep _ _ _ st6 fun b hb o e => (J8.pin (b, o) (List.mem_append_right _ (List.mem_append_right _ (mem_pinsAt hb e)))).1, fun b hb => ?_, w8⟩
        obtain ⟨o', e', _⟩ := T.obj _ _ st6 b hb
        exact (J8.pin (b, o') (List.mem_append_right _ (List.mem_append_right _ (mem_pinsAt hb e')))).2.1
      | true =>
        rw [if_pos rfl] at t8 ⊢
        refine thn (he s2 (upd H s.heap.objs.size (.lst [])) fp _ s8 _ H8 _ J8 t8) fun vv s9 ⟨v, H9, J9, r9, hD9, hz9, m', hm, w9⟩ => ?_
        refine thn (mt_append (X := X.blks (blkNs X.N xs) sc s2 (upd H s.heap.objs.size (.lst [])) fp) _ s9 _ H9 (.ref s.heap.objs.size) [v] (.ref s.heap.objs.size) [vv] (fun _ H' => H' = upd H9 s.heap.objs.size (.lst (ys ++ [v]))) J9 rfl (.cons r9 .nil) ⟨_, ys, v, rfl, rfl, hD9, hz9, rfl⟩) fun _ s10 ⟨_, H10, J10, _, e10⟩ => ?_
        subst e10
        refine ⟨m', hm, i + 1, ys ++ [v], _, os', l7, J10.unpinned, T.keep _ _ _ st6 fun b hb o e => (J10.pin (b, o) (List.mem_append_right _ (List.mem_append_right _ (mem_pinsAt hb e)))).1, fun b hb => ?_, w9⟩
        obtain ⟨o', e', _⟩ := T.obj _ _ st6 b hb
        exact (J10.pin (b, o') (List.mem_append_right _ (List.mem_append_right _ (mem_pinsAt hb e')))).2.1
  refine codeAny_compStart_list loop (T.self _ 0 _ _ _ st3 loop)
theorem pe_lcs {elt iter target : Expr} {ifs : List Expr} {pos : Pos} {ti : TI} {g : TG} {tt : TT} {te : TE} {S : Scope} (hc : X.calm = true) (L : LcScopes S X.N sc xs) (hS : X.env.scope = S) (hi : PI X target iter ti)
    (hg : ∀ (s₀ : Shared) (H₀ : Hp) (fp : List Addr), PG (X.blks (blkNs X.N xs) sc s₀ H₀ fp) target g) (ht : ∀ (s₀ : Shared) (H₀ : Hp) (fp : List Addr), PTs (X.blks (blkNs X.N xs) sc s₀ H₀ fp) ifs tt)
    (he : ∀ (s₀ : Shared) (H₀ : Hp) (fp : List Addr), PE (X.blks (blkNs X.N xs) sc s₀ H₀ fp) elt te) (hs : ∀ x, foldedSetIterable iter X.env x = pure x := by intro _; rfl) :
    PE X (.ListComp elt [⟨target, iter, ifs, 0⟩] sc pos) (tLcs xs.length ti g tt te) := by
  intro pins s σ H Q I h
  rw [eval_ListComp]
  refine wpAny_comprehension_free (use := none) rfl hs (closure_of (I.has_cells L hS)) L.kind L.names (thn (hi pins s σ H _ I h) fun xv s₁ h₁ => thn h₁ fun itv s₂ h₂ => ?_)
  obtain ⟨it, fp, tn, J, H2, rfl, I2, T, st2, f2, q2⟩ := h₂
  refine lcs_core hc L hS hg ht he I2 T st2 f2 q2 ?_
  intro D C H' s' m I' q hn hC hle hp hL hcl
  refine ⟨m, hn, fun h' hs' => ?_⟩
  have I3 : Inv X pins σ H' { s' with heap := h' } := I'.turned (t' := s'.toks) (fun b o hb e => (hs'.2 b hb).trans e) hC hL (.inr (Nat.le_trans I2.sz hle)) hcl hp
  exact ⟨.ref D, H', I3, rfl, q⟩
theorem ps_setLcs {elt iter target : Expr} {ifs : List Expr} {i : Nat} {y : Str} {py pos spos : Pos} {ti : TI} {g : TG} {tt : TT} {te : TE} {S : Scope} (hN : X.N.Nodup) (hi : X.N[i]? = some y) (hy : Loc X.env.scope y) (hc : X.calm = true) (L : LcScopes S X.N sc xs) (hS : X.env.scope = S) (hit : PI X target iter ti)
    (hg : ∀ (s₀ : Shared) (H₀ : Hp) (fp : List Addr), PG (X.blks (blkNs X.N xs) sc s₀ H₀ fp) target g) (ht : ∀ (s₀ : Shared) (H₀ : Hp) (fp : List Addr), PTs (X.blks (blkNs X.N xs) sc s₀ H₀ fp) ifs tt)
    (he : ∀ (s₀ : Shared) (H₀ : Hp) (fp : List Addr), PE (X.blks (blkNs X.N xs) sc s₀ H₀ fp) elt te)
    (hsw : swapsWith (.ListComp elt [⟨target, iter, ifs, 0⟩] sc pos) (some (.Name y py)) spos.line X.env = pure true := by rfl) (hs : ∀ x, foldedSetIterable iter X.env x = pure x := by intro _; rfl)
    (hf : X.fn y = true ∨ X.env.scope.names.lookup y = some .local := by first | exact .inl rfl | exact .inr rfl | assumption) :
    PS X (.Assign [.Name y py] (.ListComp elt [⟨target, iter, ifs, 0⟩] sc pos) spos) (tAsg (tLcs xs.length ti g tt te) (gName i)) := by
  intro pins s σ H D I h
  rw [exec_Assign_Name_used _ _ _ _ hsw]
  refine wpAny_bind (wpAny_standAt (wpAny_bind ?_))
  show wpAny _ _ (do let _ ← comprehension (.ListComp elt [⟨target, iter, ifs, 0⟩] sc pos) sc X.env _ (newList []) false (eval iter X.env) (some (assign (.Name y py) X.env))) _ _ s
  refine wpAny_bind (wpAny_mono (wpAny_comprehension_free (use := some (assign (.Name y py) X.env)) (Q := fun _ s' => SP X pins D .next s') rfl hs (closure_of (I.has_cells L hS)) L.kind L.names
    (thn (hit pins s σ H _ I h) fun xv s₁ h₁ => thn h₁ fun itv s₂ h₂ => ?_)) (fun _ s' hq => wpAny_pure (wpAny_pure hq)) fun _ _ e => e)
  obtain ⟨it, fp, tn, J, H2, rfl, I2, T, st2, f2, q2⟩ := h₂
  refine lcs_core (Q := fun v H' => D.nx (σ.set i (some v)) H') hc L hS hg ht he I2 T st2 f2 q2 ?_
  intro D' C H' s' m I' q hn hC hle hp hL hcl
  show wpAny _ _ (assign (.Name y py) X.env (.ref D')) _ _ s'
  refine wpAny_assign_Name (store_ok2 I' hN hi hy (v := .ref D') (u := .ref D') rfl (fun s'' I'' ⟨a, sb, ha⟩ => ?_) hf)
  have nCa : C ≠ a := by
    rcases ha with rfl | ha
    · exact hL
    · exact fun z => hcl y a ha z.symm
  refine ⟨m, hn.sameBut sb nCa, fun h' hs' => ?_⟩
  have I3 : Inv X pins (σ.set i (some (.ref D'))) H' { s'' with heap := h' } := I''.turned (t' := s''.toks) (fun b o hb e => (hs'.2 b hb).trans e) hC hL (.inr (Nat.le_trans I2.sz hle)) hcl hp
  exact ⟨_, H', I3, q⟩
def g2 (K : PySem.W.Frag) (n : Nat) : TG := gTup K 2 (gCons (gName n) (gCons (gName (n + 1)) gNil))
theorem pg_two {S : Scope} {x y : Str} {px py tpos : Pos} {k : Nat} (hc : X.calm = true) (L : LcScopes S X.N sc [x, y]) (s₀ : Shared) (H₀ : Hp) (fp : List Addr) : PG (X.blks (blkNs X.N [x, y]) sc s₀ H₀ fp) (.Tuple [.Name x px, .Name y py] k tpos) (g2 X.K X.N.length) := by
  refine pg_tup (X := X.blks (blkNs X.N [x, y]) sc s₀ H₀ fp) hc (pgs_cons (pg_name L.nd ?_ (.inl (lookup_relabel_local (L.loc x (by simp)))) (.inr (lookup_relabel_local (L.loc x (by simp))))) (pgs_cons (pg_name L.nd ?_ (.inl (lookup_relabel_local (L.loc y (by simp)))) (.inr (lookup_relabel_local (L.loc y (by simp))))) pgs_nil))
  · show (blkNs X.N [x, y])[X.N.length]? = some x
    unfold blkNs
    rw [List.getElem?_append_right (by simp)]
    simp
  · show (blkNs X.N [x, y])[X.N.length + 1]? = some y
    unfold blkNs
    rw [List.getElem?_append_right (by simp)]
    simp
theorem pg_one {S : Scope} {x : Str} {px : Pos} (L : LcScopes S X.N sc [x]) (s₀ : Shared) (H₀ : Hp) (fp : List Addr) : PG (X.blks (blkNs X.N [x]) sc s₀ H₀ fp) (.Name x px) (gName X.N.length) := by
  refine pg_name L.nd ?_ (.inl (lookup_relabel_local (L.loc x (by simp)))) (.inr (lookup_relabel_local (L.loc x (by simp))))
  show (blkNs X.N [x])[X.N.length]? = some x
  unfold blkNs
  rw [List.getElem?_append_right (by simp)]
  simp
end
end L2
namespace L2
open PySem PySem.Spec PyProof.Rows
theorem lcw_one {n : Nat} {J : It} {te : TE} {σ : St} {H1 : Hp} {Q : VK} (hn : σ.length = n) (h : ∀ D, H1 D = none → ∃ W : Nat → Nat → List V → Hp → Prop, (∃ m, W 0 m [] (upd H1 D (.lst []))) ∧
    ∀ i m ys H', W i m ys H' → H' D = some (.lst ys) ∧ ((J.stop i H' ∧ Q (.ref D) H') ∨ (J.go i H' ∧ ∀ z H2, J.yld i H' z H2 → te (σ ++ [some z]) H2 fun v H3 => H3 D = some (.lst ys) ∧ ys.length < sizeLine ∧ ∃ m', m' < m ∧ W (i + 1) m' (ys ++ [v]) (upd H3 D (.lst (ys ++ [v])))))) :
    LcW 1 J (gName n) tYes te σ H1 Q := by
  subst hn
  intro D hD
  obtain ⟨W, w0, st⟩ := h D hD
  refine ⟨W, w0, fun i m ys H' hw => ?_⟩
  obtain ⟨e, d⟩ := st i m ys H' hw
  refine ⟨e, d.imp id fun ⟨go, yl⟩ => ⟨go, fun z H2 hy os los => ?_⟩⟩
  match os, los with
  | [o], _ =>
    have es : (σ ++ [o]).set σ.length (some z) = σ ++ [some z] := by
      rw [List.set_append_right _ _ (Nat.le_refl _), Nat.sub_self]
      rfl
    show (∃ os' : St, (σ ++ [o]).set σ.length (some z) = σ ++ os' ∧ os'.length = 1) ∧ tYes ((σ ++ [o]).set σ.length (some z)) H2 _
    rw [es]
    exact ⟨⟨[some z], rfl, rfl⟩, iteT (B := ∃ m', m' < m ∧ W (i + 1) m' ys H2) (yl z H2 hy)⟩
section
variable {X : Cx} {sc : Scope} {x : Str}
theorem pe_lc1 {elt iter : Expr} {px pos : Pos} {ti : TI} {te : TE} {S : Scope} (hc : X.calm = true) (L : LcScopes S X.N sc [x]) (hS : X.env.scope = S) (hi : PI X (.Name x px) iter ti)
    (he : ∀ (s₀ : Shared) (H₀ : Hp) (fp : List Addr), PE (X.blks (blkNs X.N [x]) sc s₀ H₀ fp) elt te) (hs : ∀ x, foldedSetIterable iter X.env x = pure x := by intro _; rfl) :
    PE X (.ListComp elt [⟨.Name x px, iter, [], 0⟩] sc pos) (tLc ti te) := by
  intro pins s σ H Q I h
  rw [eval_ListComp]
  refine wpAny_comprehension_free (use := none) rfl hs (closure_of (I.has_cells L hS)) L.kind L.names (thn (hi pins s σ H _ I h) fun xv s₁ h₁ => thn h₁ fun itv s₂ h₂ => ?_)
  obtain ⟨it, fp, tn, J, H2, rfl, I2, T, st2, f2, q2⟩ := h₂
  refine lcs_core hc L hS (pg_one L) (fun _ _ _ => pts_nil) he I2 T st2 f2 (lcw_one I2.len q2) ?_
  intro D C H' s' m I' q hn hC hle hp hL hcl
  refine ⟨m, hn, fun h' hs' => ?_⟩
  have I3 : Inv X pins σ H' { s' with heap := h' } := I'.turned (t' := s'.toks) (fun b o hb e => (hs'.2 b hb).trans e) hC hL (.inr (Nat.le_trans I2.sz hle)) hcl hp
  exact ⟨.ref D, H', I3, rfl, q⟩
end
end L2
namespace L2
open PySem PySem.Spec PyProof.Rows
section
variable {X : Cx} {sc : Scope} {x : Str}
theorem ps_setLc1 {elt iter : Expr} {i : Nat} {y : Str} {px py pos spos : Pos} {ti : TI} {te : TE} {S : Scope} (hN : X.N.Nodup) (hi : X.N[i]? = some y) (hy : Loc X.env.scope y) (hc : X.calm = true) (L : LcScopes S X.N sc [x]) (hS : X.env.scope = S) (hit : PI X (.Name x px) iter ti)
    (he : ∀ (s₀ : Shared) (H₀ : Hp) (fp : List Addr), PE (X.blks (blkNs X.N [x]) sc s₀ H₀ fp) elt te)
    (hsw : swapsWith (.ListComp elt [⟨.Name x px, iter, [], 0⟩] sc pos) (some (.Name y py)) spos.line X.env = pure true := by rfl) (hs : ∀ x, foldedSetIterable iter X.env x = pure x := by intro _; rfl)
    (hf : X.fn y = true ∨ X.env.scope.names.lookup y = some .local := by first | exact .inl rfl | exact .inr rfl | assumption) :
    PS X (.Assign [.Name y py] (.ListComp elt [⟨.Name x px, iter, [], 0⟩] sc pos) spos) (tAsg (tLc ti te) (gName i)) := by
  intro pins s σ H D I h
  rw [exec_Assign_Name_used _ _ _ _ hsw]
  refine wpAny_bind (wpAny_standAt (wpAny_bind ?_))
  show wpAny _ _ (do let _ ← comprehension (.ListComp elt [⟨.Name x px, iter, [], 0⟩] sc pos) sc X.env _ (newList []) false (eval iter X.env) (some (assign (.Name y py) X.env))) _ _ s
  refine wpAny_bind (wpAny_mono (wpAny_comprehension_free (use := some (assign (.Name y py) X.env)) (Q := fun _ s' => SP X pins D .next s') rfl hs (closure_of (I.has_cells L hS)) L.kind L.names
    (thn (hit pins s σ H _ I h) fun xv s₁ h₁ => thn h₁ fun itv s₂ h₂ => ?_)) (fun _ s' hq => wpAny_pure (wpAny_pure hq)) fun _ _ e => e)
  obtain ⟨it, fp, tn, J, H2, rfl, I2, T, st2, f2, q2⟩ := h₂
  refine lcs_core (Q := fun v H' => D.nx (σ.set i (some v)) H') hc L hS (pg_one L) (fun _ _ _ => pts_nil) he I2 T st2 f2 (lcw_one (Q := fun v H' => D.nx (σ.set i (some v)) H') I2.len q2) ?_
  intro D' C H' s' m I' q hn hC hle hp hL hcl
  show wpAny _ _ (assign (.Name y py) X.env (.ref D')) _ _ s'
  refine wpAny_assign_Name (store_ok2 I' hN hi hy (v := .ref D') (u := .ref D') rfl (fun s'' I'' ⟨a, sb, ha⟩ => ?_) hf)
  have nCa : C ≠ a := by
    rcases ha with rfl | ha
    · exact hL
    · exact fun z => hcl y a ha z.symm
  refine ⟨m, hn.sameBut sb nCa, fun h' hs' => ?_⟩
  have I3 : Inv X pins (σ.set i (some (.ref D'))) H' { s'' with heap := h' } := I''.turned (t' := s''.toks) (fun b o hb e => (hs'.2 b hb).trans e) hC hL (.inr (Nat.le_trans I2.sz hle)) hcl hp
  exact ⟨_, H', I3, q⟩
end
end L2
namespace M11
abbrev G (a b : Int) : Int := (Int.gcd a b : Nat)
theorem gcd_step (a b : Int) : Int.gcd b (a.fmod b) = Int.gcd a b := by
  rw [Int.fmod_def, Int.gcd_sub_mul_left_right, Int.gcd_comm]
theorem fmod_small (a b : Int) (h : b ≠ 0) : (a.fmod b).natAbs < b.natAbs := by
  rcases Int.lt_or_lt_of_ne h with hb | hb
  · have e := Int.neg_fmod_neg a b
    have h1 := Int.fmod_nonneg_of_pos (-a) (b := -b) (by omega)
    have h2 := Int.fmod_lt_of_pos (-a) (b := -b) (by omega)
    omega
  · have h1 := Int.fmod_nonneg_of_pos a hb
    have h2 := Int.fmod_lt_of_pos a hb
    omega
theorem gcd_end (a : Int) : (if a < 0 then -a else a) = G a 0 := by
  show _ = ((Int.gcd a 0 : Nat) : Int)
  rw [Int.gcd_zero_right]
  split <;> omega
def sgn (t b : Int) : Int := if b < 0 then -(G t b) else G t b
def low (t b : Int) : Int × Int := (t.fdiv (sgn t b), b.fdiv (sgn t b))
theorem sgn_ne {t b : Int} (h : b ≠ 0) : sgn t b ≠ 0 := by
  have := Int.gcd_pos_of_ne_zero_right t h
  unfold sgn G
  split <;> omega
theorem G_le {t b : Int} (h : b ≠ 0) : G t b ≤ (b.natAbs : Int) := by
  have h1 : Int.gcd t b ∣ b.natAbs := by
    have := Int.natAbs_dvd_natAbs.mpr (Int.gcd_dvd_right t b)
    simpa using this
  have h2 : 0 < b.natAbs := by omega
  exact Int.ofNat_le.mpr (Nat.le_of_dvd h2 h1)
theorem sgn_le {t b : Int} (h : b ≠ 0) : (sgn t b).natAbs ≤ b.natAbs := by
  have h1 := G_le (t := t) h
  have h2 : 0 ≤ G t b := Int.natCast_nonneg _
  unfold sgn
  generalize G t b = g at h1 h2 ⊢
  split <;> omega
theorem sgn_natAbs (t b : Int) : (sgn t b).natAbs = Int.gcd t b := by
  unfold sgn G
  split <;> omega
theorem sgn_dvd_l (t b : Int) : sgn t b ∣ t := by
  unfold sgn
  split
  · exact Int.neg_dvd.mpr (Int.gcd_dvd_left t b)
  · exact Int.gcd_dvd_left t b
theorem sgn_dvd_r (t b : Int) : sgn t b ∣ b := by
  unfold sgn
  split
  · exact Int.neg_dvd.mpr (Int.gcd_dvd_right t b)
  · exact Int.gcd_dvd_right t b
theorem low_spec {t b : Int} (h : b ≠ 0) : ∃ t' b', t = sgn t b * t' ∧ b = sgn t b * b' ∧ low t b = (t', b') ∧ 0 < b' ∧ Int.gcd t' b' = 1 := by
  have hn := sgn_ne (t := t) h
  obtain ⟨t', e1⟩ := sgn_dvd_l t b
  obtain ⟨b', e2⟩ := sgn_dvd_r t b
  refine ⟨t', b', e1, e2, ?_, ?_, ?_⟩
  · have f1 : t.fdiv (sgn t b) = t' := (congrArg (fun z => Int.fdiv z (sgn t b)) e1).trans (Int.mul_fdiv_cancel_left t' hn)
    have f2 : b.fdiv (sgn t b) = b' := (congrArg (fun z => Int.fdiv z (sgn t b)) e2).trans (Int.mul_fdiv_cancel_left b' hn)
    unfold low
    rw [f1, f2]
  · by_cases hb : b < 0
    · have hs : sgn t b < 0 := by
        have := Int.gcd_pos_of_ne_zero_right t h
        unfold sgn G
        rw [if_pos hb]
        omega
      by_cases hp : 0 < b'
      · exact hp
      · have := Int.mul_nonneg_of_nonpos_of_nonpos (a := sgn t b) (b := b') (by omega) (by omega)
        omega
    · have hs : 0 < sgn t b := by
        have := Int.gcd_pos_of_ne_zero_right t h
        unfold sgn G
        rw [if_neg hb]
        omega
      by_cases hp : 0 < b'
      · exact hp
      · have := Int.mul_nonpos_of_nonneg_of_nonpos (a := sgn t b) (b := b') (by omega) (by omega)
        omega
  · have g1 : Int.gcd (sgn t b * t') (sgn t b * b') = (sgn t b).natAbs * Int.gcd t' b' := Int.gcd_mul_left _ _ _
    rw [← e1, ← e2, sgn_natAbs] at g1
    have g2 := Int.gcd_pos_of_ne_zero_right t h
    have g3 : Int.gcd t b * Int.gcd t' b' = Int.gcd t b * 1 := by omega
    exact Nat.eq_of_mul_eq_mul_left g2 g3
theorem low_cross {t b : Int} (h : b ≠ 0) : (low t b).1 * b = t * (low t b).2 := by
  obtain ⟨t', b', e1, e2, e3, _⟩ := low_spec (t := t) h
  rw [e3]
  generalize sgn t b = d at e1 e2
  subst e1 e2
  show t' * (d * b') = d * t' * b'
  rw [← Int.mul_assoc, Int.mul_comm t' d]
theorem low_pos {t b : Int} (h : b ≠ 0) : 0 < (low t b).2 := by
  obtain ⟨t', b', _, _, e3, h', _⟩ := low_spec (t := t) h
  rw [e3]; exact h'
theorem low_cop {t b : Int} (h : b ≠ 0) : Int.gcd (low t b).1 (low t b).2 = 1 := by
  obtain ⟨t', b', _, _, e3, _, h'⟩ := low_spec (t := t) h
  rw [e3]; exact h'
theorem natAbs_le_of_mul {d x : Int} (h : d ≠ 0) : x.natAbs ≤ (d * x).natAbs := by
  rw [Int.natAbs_mul]
  exact Nat.le_mul_of_pos_left _ (by omega)
theorem low_le {t b : Int} (h : b ≠ 0) : (low t b).1.natAbs ≤ t.natAbs ∧ (low t b).2.natAbs ≤ b.natAbs := by
  obtain ⟨t', b', e1, e2, e3, _⟩ := low_spec (t := t) h
  have hn := sgn_ne (t := t) h
  rw [e3]
  have h1 := natAbs_le_of_mul (x := t') hn
  have h2 := natAbs_le_of_mul (x := b') hn
  rw [← e1] at h1
  rw [← e2] at h2
  exact ⟨h1, h2⟩
end M11
namespace M11
theorem cop_dvd {x y z : Int} (h : Int.gcd x y = 1) (d : y ∣ x * z) : y ∣ z := by
  have d' : y.natAbs ∣ x.natAbs * z.natAbs := by
    rw [← Int.natAbs_mul]
    exact Int.natAbs_dvd_natAbs.mpr d
  have c : Nat.Coprime y.natAbs x.natAbs := by
    show Nat.gcd y.natAbs x.natAbs = 1
    rw [Nat.gcd_comm]
    exact h
  exact Int.natAbs_dvd_natAbs.mp (Nat.Coprime.dvd_of_dvd_mul_left c d')
theorem low_uniq {t b x y : Int} (hb : b ≠ 0) (hy : 0 < y) (hg : Int.gcd x y = 1) (hc : x * b = t * y) : low t b = (x, y) := by
  have c1 := low_cross (t := t) hb
  have p1 := low_pos (t := t) hb
  have g1 := low_cop (t := t) hb
  generalize low t b = l at c1 p1 g1
  obtain ⟨x', y'⟩ := l
  have c1' : x' * b = t * y' := c1
  have p1' : 0 < y' := p1
  have g1' : Int.gcd x' y' = 1 := g1
  have e : x * y' = x' * y := by
    have : (x * y') * b = (x' * y) * b := by grind
    exact Int.eq_of_mul_eq_mul_right hb this
  have d1 : y ∣ y' := cop_dvd hg ⟨x', by rw [e, Int.mul_comm]⟩
  have d2 : y' ∣ y := cop_dvd g1' ⟨x, by rw [← e, Int.mul_comm]⟩
  have ey : y' = y := Int.dvd_antisymm (by omega) (by omega) d2 d1
  subst ey
  have ex : x' = x := by
    have : x * y' = x' * y' := e
    exact (Int.eq_of_mul_eq_mul_right (by omega) this).symm
  rw [ex]
theorem low_eq {t b t' b' : Int} (hb : b ≠ 0) (hb' : b' ≠ 0) (h : t * b' = t' * b) : low t b = low t' b' := by
  have c1 := low_cross (t := t') hb'
  have p1 := low_pos (t := t') hb'
  have g1 := low_cop (t := t') hb'
  generalize low t' b' = l at c1 p1 g1
  obtain ⟨x, y⟩ := l
  refine low_uniq hb p1 g1 ?_
  have c1' : x * b' = t' * y := c1
  have : (x * b) * b' = (t * y) * b' := by grind
  exact Int.eq_of_mul_eq_mul_right hb' this
theorem low_self {x y : Int} (hy : 0 < y) (hg : Int.gcd x y = 1) : low x y = (x, y) := low_uniq (by omega) hy hg rfl
theorem low_one (x : Int) : low x 1 = (x, 1) := low_self (by decide) (by rw [Int.gcd_one_right])
def foldG (b : Int) (ts : List Int) : Int := ts.foldl (fun d t => G d t) b
theorem G_pos {a b : Int} (h : 0 < a) : 0 < G a b := Int.ofNat_lt.mpr (Int.gcd_pos_of_ne_zero_left b (by omega))
theorem foldG_spec : ∀ (ts : List Int) (b : Int), 0 < b → 0 < foldG b ts ∧ foldG b ts ∣ b ∧ ∀ t ∈ ts, foldG b ts ∣ t
  | [], b, h => ⟨h, Int.dvd_refl _, fun t ht => by cases ht⟩
  | t :: ts, b, h => by
    have hp := G_pos (b := t) h
    obtain ⟨h1, h2, h3⟩ := foldG_spec ts (G b t) hp
    have e : foldG b (t :: ts) = foldG (G b t) ts := rfl
    rw [e]
    refine ⟨h1, Int.dvd_trans h2 (Int.gcd_dvd_left b t), fun u hu => ?_⟩
    rcases List.mem_cons.mp hu with rfl | hu
    · exact Int.dvd_trans h2 (Int.gcd_dvd_right b u)
    · exact h3 u hu
theorem foldG_one : ∀ ts : List Int, foldG 1 ts = 1
  | [] => rfl
  | t :: ts => by
    show foldG (G 1 t) ts = 1
    have : G 1 t = 1 := by unfold G; rw [Int.one_gcd]; rfl
    rw [this]
    exact foldG_one ts
def lowerR (ts : List Int) (b : Int) : List Int × Int := (ts.map fun t => t.fdiv (foldG b ts), b.fdiv (foldG b ts))
theorem fdiv_of_dvd {d t : Int} (hd : 0 < d) (h : d ∣ t) : ∃ q, t = d * q ∧ t.fdiv d = q := by
  obtain ⟨q, e⟩ := h
  exact ⟨q, e, by rw [e]; exact Int.mul_fdiv_cancel_left q (by omega)⟩
theorem lowerR_one {ts : List Int} {b : Int} (h : foldG b ts = 1) : lowerR ts b = (ts, b) := by
  unfold lowerR
  rw [h]
  simp only [Int.fdiv_one, List.map_id']
theorem lowerR_pos {ts : List Int} {b : Int} (h : 0 < b) : 0 < (lowerR ts b).2 ∧ (lowerR ts b).2 ≤ b := by
  obtain ⟨h1, h2, h3⟩ := foldG_spec ts b h
  obtain ⟨q, e1, e2⟩ := fdiv_of_dvd h1 h2
  show 0 < b.fdiv (foldG b ts) ∧ b.fdiv (foldG b ts) ≤ b
  rw [e2]
  generalize foldG b ts = d at *
  have hq : 0 < q := by
    by_cases z : 0 < q
    · exact z
    · have := Int.mul_nonpos_of_nonneg_of_nonpos (a := d) (b := q) (by omega) (by omega)
      omega
  refine ⟨hq, ?_⟩
  rw [e1]
  have := Int.mul_le_mul_of_nonneg_right (a := 1) (b := d) (c := q) (by omega) (by omega)
  omega
theorem lowerR_le {ts : List Int} {b : Int} (h : 0 < b) : ∀ x ∈ (lowerR ts b).1, ∃ t ∈ ts, x.natAbs ≤ t.natAbs := by
  obtain ⟨h1, h2, h3⟩ := foldG_spec ts b h
  intro x hx
  obtain ⟨t, ht, rfl⟩ := List.mem_map.mp hx
  obtain ⟨r, e3, e4⟩ := fdiv_of_dvd h1 (h3 t ht)
  refine ⟨t, ht, ?_⟩
  rw [e4]
  have := natAbs_le_of_mul (d := foldG b ts) (x := r) (by omega)
  rw [← e3] at this
  exact this
theorem lowerR_len (ts : List Int) (b : Int) : (lowerR ts b).1.length = ts.length := by unfold lowerR; simp
def Bn (n : Nat) (x : Int) : Prop := x.natAbs < 2 ^ n
theorem Bn.mono {n m : Nat} {x : Int} (h : Bn n x) (hm : n ≤ m) : Bn m x := Nat.lt_of_lt_of_le h (Nat.pow_le_pow_right (by decide) hm)
theorem Bn.mul {n m : Nat} {x y : Int} (h : Bn n x) (h' : Bn m y) : Bn (n + m) (x * y) := by
  unfold Bn at *
  rw [Int.natAbs_mul, Nat.pow_add]
  exact Nat.mul_lt_mul'' h h'
theorem Bn.add {n : Nat} {x y : Int} (h : Bn n x) (h' : Bn n y) : Bn (n + 1) (x + y) := by
  unfold Bn at *
  have := Int.natAbs_add_le x y
  rw [Nat.pow_succ]
  omega
theorem Bn.le {n : Nat} {x y : Int} (h : Bn n x) (h' : y.natAbs ≤ x.natAbs) : Bn n y := Nat.lt_of_le_of_lt h' h
theorem bn_sum {n : Nat} : ∀ (k : Nat) (l : List Int), l.length ≤ 2 ^ k → (∀ x ∈ l, Bn n x) → Bn (n + k + 1) l.sum := by
  intro k l hl h
  have key : ∀ l : List Int, (∀ x ∈ l, Bn n x) → l.sum.natAbs ≤ l.length * 2 ^ n := by
    intro l
    induction l with
    | nil => intro _; simp
    | cons a l ih =>
      intro h
      have h1 := ih fun x hx => h x (List.mem_cons_of_mem _ hx)
      have h2 : a.natAbs < 2 ^ n := h a List.mem_cons_self
      rw [List.sum_cons, List.length_cons, Nat.succ_mul]
      have := Int.natAbs_add_le a l.sum
      omega
  have h1 := key l h
  have h2 : l.length * 2 ^ n ≤ 2 ^ k * 2 ^ n := Nat.mul_le_mul_right _ hl
  have h3 : 2 ^ k * 2 ^ n = 2 ^ (n + k) := by rw [← Nat.pow_add, Nat.add_comm]
  have h4 : 0 < 2 ^ (n + k) := Nat.pow_pos (by decide)
  show l.sum.natAbs < 2 ^ (n + k + 1)
  rw [Nat.pow_succ]
  omega
end M11
namespace M11
def manyR (a c : Int) (ts : List Int) (b : Int) : List Int × Int := (ts.map fun t => a.fdiv (G a b) * t.fdiv (foldG c ts), c.fdiv (foldG c ts) * b.fdiv (G a b))
theorem manyR_spec {a c b : Int} {ts : List Int} (hc : 0 < c) (hb : 0 < b) : 0 < (manyR a c ts b).2 ∧ (manyR a c ts b).2 ≤ c * b ∧ (manyR a c ts b).1.map (fun t => low t (manyR a c ts b).2) = ts.map (fun t => low (a * t) (c * b)) ∧ ∀ x ∈ (manyR a c ts b).1, ∃ t ∈ ts, x.natAbs ≤ (a * t).natAbs := by
  obtain ⟨h1, h2, h3⟩ := foldG_spec ts c hc
  have p1 : 0 < G a b := Int.ofNat_lt.mpr (Int.gcd_pos_of_ne_zero_right a (by omega))
  obtain ⟨a', ea, fa⟩ := fdiv_of_dvd p1 (Int.gcd_dvd_left a b)
  obtain ⟨b', eb, fb⟩ := fdiv_of_dvd p1 (Int.gcd_dvd_right a b)
  obtain ⟨c', ec, fc⟩ := fdiv_of_dvd h1 h2
  unfold manyR
  dsimp only
  rw [fa, fb, fc]
  generalize foldG c ts = g at *
  generalize G a b = d at *
  have pb : 0 < b' := by
    by_cases z : 0 < b'
    · exact z
    · have := Int.mul_nonpos_of_nonneg_of_nonpos (a := d) (b := b') (by omega) (by omega)
      omega
  have pc : 0 < c' := by
    by_cases z : 0 < c'
    · exact z
    · have := Int.mul_nonpos_of_nonneg_of_nonpos (a := g) (b := c') (by omega) (by omega)
      omega
  refine ⟨Int.mul_pos pc pb, ?_, ?_, fun x hx => ?_⟩
  · have l1 : c' ≤ c := by
      have := Int.mul_le_mul_of_nonneg_right (a := 1) (b := g) (c := c') (by omega) (by omega)
      omega
    have l2 : b' ≤ b := by
      have := Int.mul_le_mul_of_nonneg_right (a := 1) (b := d) (c := b') (by omega) (by omega)
      omega
    exact Int.mul_le_mul l1 l2 (by omega) (by omega)
  · rw [List.map_map]
    refine List.map_congr_left fun t ht => ?_
    obtain ⟨t', et, ft⟩ := fdiv_of_dvd h1 (h3 t ht)
    show low (a' * t.fdiv g) (c' * b') = low (a * t) (c * b)
    rw [ft]
    have z1 := Int.mul_pos pc pb
    have z2 := Int.mul_pos hc hb
    refine low_eq (by omega) (by omega) ?_
    clear fa fb fc ft h2 h3
    rw [ea, eb, ec, et]
    grind
  · obtain ⟨t, ht, rfl⟩ := List.mem_map.mp hx
    obtain ⟨t', et, ft⟩ := fdiv_of_dvd h1 (h3 t ht)
    refine ⟨t, ht, ?_⟩
    rw [ft]
    have e : a * t = (d * g) * (a' * t') := by
      clear fa fb fc ft h2 h3 hx
      rw [ea, et]
      grind
    rw [e]
    exact natAbs_le_of_mul (by have := Int.mul_pos p1 h1; omega)
theorem manyR_len (a c : Int) (ts : List Int) (b : Int) : (manyR a c ts b).1.length = ts.length := by unfold manyR; simp
end M11
namespace TM
open PySem L2
inductive Tm where
  | one
  | hue (c : Int)
  | near (t : Tm)
  | both (t u : Tm)
  | plus (t u : Tm)
  | many (a b : Int) (t : Tm)
def Tm.dat : Tm → PyData
  | .one => .tuple [.str "one"]
  | .hue c => .tuple [.str "hue", .int c]
  | .near t => .tuple [.str "near", t.dat]
  | .both t u => .tuple [.str "both", t.dat, u.dat]
  | .plus t u => .tuple [.str "plus", t.dat, u.dat]
  | .many a b t => .tuple [.str "many", .tuple [.int a, .int b], t.dat]
def Tm.kids : Tm → List Tm
  | .one => []
  | .hue _ => []
  | .near t => [t]
  | .both t u => [t, u]
  | .plus t u => [t, u]
  | .many _ _ t => [t]
def Tm.size : Tm → Nat
  | .one => 1
  | .hue _ => 1
  | .near t => t.size + 1
  | .both t u => t.size + u.size + 1
  | .plus t u => t.size + u.size + 1
  | .many _ _ t => t.size + 1
def Tm.mans : Tm → Nat
  | .one => 0
  | .hue _ => 0
  | .near t => t.mans
  | .both t u => t.mans + u.mans
  | .plus t u => t.mans + u.mans
  | .many _ _ t => t.mans + 1
def Tm.good : Tm → Prop
  | .one => True
  | .hue _ => True
  | .near t => t.good
  | .both t u => t.good ∧ u.good
  | .plus t u => t.good ∧ u.good
  | .many a b t => (a.natAbs ≤ 10 ^ 60 ∧ 0 < b ∧ b ≤ 2 ^ 40 ∧ Int.gcd a b = 1) ∧ t.good
theorem Tm.size_pos : ∀ t : Tm, 1 ≤ t.size := by intro t; cases t <;> simp [Tm.size]
theorem Tm.mans_le : ∀ t : Tm, t.mans ≤ t.size := by
  intro t
  induction t with
  | one => simp [Tm.mans]
  | hue c => simp [Tm.mans]
  | near t ih => simp only [Tm.mans, Tm.size]; omega
  | both t u h1 h2 => simp only [Tm.mans, Tm.size]; omega
  | plus t u h1 h2 => simp only [Tm.mans, Tm.size]; omega
  | many a b t ih => simp only [Tm.mans, Tm.size]; omega
def Tm.pre : Tm → List Tm
  | .one => [.one]
  | .hue c => [.hue c]
  | .near t => .near t :: t.pre
  | .both t u => .both t u :: (u.pre ++ t.pre)
  | .plus t u => .plus t u :: (u.pre ++ t.pre)
  | .many a b t => .many a b t :: t.pre
theorem Tm.pre_eq (t : Tm) : t.pre = t :: t.kids.reverse.flatMap Tm.pre := by
  cases t <;> simp [Tm.pre, Tm.kids]
theorem Tm.pre_len : ∀ t : Tm, t.pre.length = t.size := by
  intro t
  induction t with
  | one => rfl
  | hue c => rfl
  | near t ih => simp [Tm.pre, Tm.size, ih]
  | both t u h1 h2 => simp only [Tm.pre, Tm.size, List.length_cons, List.length_append, h1, h2]; omega
  | plus t u h1 h2 => simp only [Tm.pre, Tm.size, List.length_cons, List.length_append, h1, h2]; omega
  | many a b t ih => simp [Tm.pre, Tm.size, ih]
inductive Ch : List Tm → List Tm → List Tm → Prop
  | nil (st : List Tm) : Ch st [] st
  | cons {B : List Tm} {x : Tm} {L st : List Tm} : Ch (B ++ [x]) L st → Ch (B ++ x.kids) (x :: L) st
theorem Ch.app {a b c : List Tm} {L L' : List Tm} (h : Ch a L b) (h' : Ch b L' c) : Ch a (L ++ L') c := by
  induction h with
  | nil st => exact h'
  | cons _ ih => exact .cons (ih h')
theorem Tm.chain : ∀ (t : Tm) (B : List Tm), Ch B t.pre.reverse (B ++ [t]) := by
  intro t
  induction t with
  | one => intro B; exact (by simpa [Tm.pre, Tm.kids] using Ch.cons (B := B) (x := .one) (.nil _))
  | hue c => intro B; exact (by simpa [Tm.pre, Tm.kids] using Ch.cons (B := B) (x := .hue c) (.nil _))
  | near t ih =>
    intro B
    have := (ih B).app (Ch.cons (B := B) (x := .near t) (.nil _))
    simpa [Tm.pre] using this
  | both t u h1 h2 =>
    intro B
    have e : B ++ [t] ++ [u] = B ++ (Tm.both t u).kids := by simp [Tm.kids]
    have := ((h1 B).app (h2 (B ++ [t]))).app (e ▸ Ch.cons (B := B) (x := .both t u) (.nil _))
    simpa [Tm.pre] using this
  | plus t u h1 h2 =>
    intro B
    have e : B ++ [t] ++ [u] = B ++ (Tm.plus t u).kids := by simp [Tm.kids]
    have := ((h1 B).app (h2 (B ++ [t]))).app (e ▸ Ch.cons (B := B) (x := .plus t u) (.nil _))
    simpa [Tm.pre] using this
  | many a b t ih =>
    intro B
    have := (ih B).app (Ch.cons (B := B) (x := .many a b t) (.nil _))
    simpa [Tm.pre] using this
theorem Ch.pop {st L fin : List Tm} {x : Tm} (h : Ch st (x :: L) fin) : ∃ B, st = B ++ x.kids ∧ Ch (B ++ [x]) L fin := by
  cases h with
  | cons h => exact ⟨_, rfl, h⟩
theorem Ch.done {st fin : List Tm} (h : Ch st [] fin) : st = fin := by cases h; rfl
theorem Tm.kid_size {t x : Tm} (h : x ∈ t.kids) : x.size < t.size := by
  cases t <;> simp [Tm.kids] at h <;> (try rcases h with rfl | rfl) <;> (try subst h) <;> simp only [Tm.size] <;> omega
theorem Tm.kids_len (t : Tm) : t.kids.length ≤ 2 := by cases t <;> simp [Tm.kids]
theorem Tm.kid_good {t x : Tm} (g : t.good) (h : x ∈ t.kids) : x.good := by
  cases t <;> simp [Tm.kids] at h <;> simp only [Tm.good] at g
  · subst h; exact g
  · rcases h with rfl | rfl
    · exact g.1
    · exact g.2
  · rcases h with rfl | rfl
    · exact g.1
    · exact g.2
  · subst h; exact g.2
theorem Tm.kid_mans {t x : Tm} (h : x ∈ t.kids) : x.mans ≤ t.mans := by
  cases t <;> simp [Tm.kids] at h <;> (try rcases h with rfl | rfl) <;> (try subst h) <;> simp only [Tm.mans] <;> omega
theorem Tm.pre_prop {p : Tm → Prop} (hp : ∀ t x, p t → x ∈ t.kids → p x) : ∀ t : Tm, p t → ∀ x ∈ t.pre, p x := by
  intro t
  induction t with
  | one => intro h x hx; simp [Tm.pre] at hx; subst hx; exact h
  | hue c => intro h x hx; simp [Tm.pre] at hx; subst hx; exact h
  | near t ih =>
    intro h x hx
    rcases List.mem_cons.mp (by simpa [Tm.pre] using hx) with rfl | hx
    · exact h
    · exact ih (hp _ _ h (by simp [Tm.kids])) x hx
  | both t u h1 h2 =>
    intro h x hx
    have hx' : x = .both t u ∨ x ∈ u.pre ∨ x ∈ t.pre := by simpa [Tm.pre] using hx
    rcases hx' with rfl | hx | hx
    · exact h
    · exact h2 (hp _ _ h (by simp [Tm.kids])) x hx
    · exact h1 (hp _ _ h (by simp [Tm.kids])) x hx
  | plus t u h1 h2 =>
    intro h x hx
    have hx' : x = .plus t u ∨ x ∈ u.pre ∨ x ∈ t.pre := by simpa [Tm.pre] using hx
    rcases hx' with rfl | hx | hx
    · exact h
    · exact h2 (hp _ _ h (by simp [Tm.kids])) x hx
    · exact h1 (hp _ _ h (by simp [Tm.kids])) x hx
  | many a b t ih =>
    intro h x hx
    rcases List.mem_cons.mp (by simpa [Tm.pre] using hx) with rfl | hx
    · exact h
    · exact ih (hp _ _ h (by simp [Tm.kids])) x hx
abbrev Rw := List Int × Int
def dot (w r : List Int) : Int := (List.zipWith (fun a b => a * b) w r).sum
def rowR (hs : List Int) (M : List (List Int)) : Tm → Rw
  | .one => (List.replicate hs.length 1, 1)
  | .hue c => (hs.map fun h => if h = c then 1 else 0, 1)
  | .near t => (M.map fun w => dot w (rowR hs M t).1, (rowR hs M t).2)
  | .both t u => M11.lowerR (List.zipWith (fun a b => a * b) (rowR hs M t).1 (rowR hs M u).1) ((rowR hs M t).2 * (rowR hs M u).2)
  | .plus t u => M11.lowerR (List.zipWith (fun a b => a * (rowR hs M u).2 + b * (rowR hs M t).2) (rowR hs M t).1 (rowR hs M u).1) ((rowR hs M t).2 * (rowR hs M u).2)
  | .many a b t => M11.manyR a b (rowR hs M t).1 (rowR hs M t).2
structure RwOk (n s m : Nat) (r : Rw) : Prop where
  len : r.1.length = n
  tops : ∀ x ∈ r.1, M11.Bn (300 * s) x
  pos : 0 < r.2
  bot : r.2 ≤ 2 ^ (40 * m)
structure MOk (n : Nat) (hs : List Int) (M : List (List Int)) : Prop where
  hl : hs.length = n
  ml : M.length = n
  row : ∀ x ∈ M, x.length = n ∧ ∀ z ∈ x, z.natAbs ≤ 10 ^ 60
  few : n ≤ 16
theorem bn200 {z : Int} (h : z.natAbs ≤ 10 ^ 60) : M11.Bn 200 z := Nat.lt_of_le_of_lt h (by decide)
theorem zip_mem {a b : List Int} {f : Int → Int → Int} {x : Int} (h : x ∈ List.zipWith f a b) : ∃ u ∈ a, ∃ v ∈ b, x = f u v := by
  obtain ⟨i, hi, e⟩ := List.getElem_of_mem h
  rw [List.getElem_zipWith] at e
  exact ⟨_, List.getElem_mem _, _, List.getElem_mem _, e.symm⟩
theorem pos_pow {x : Int} {n : Nat} (h0 : 0 < x) (h : x ≤ 2 ^ n) : M11.Bn (n + 1) x := by
  unfold M11.Bn
  have h1 : (x.natAbs : Int) ≤ (2 : Int) ^ n := by omega
  have h2 : x.natAbs ≤ 2 ^ n := by
    have e : ((2 ^ n : Nat) : Int) = (2 : Int) ^ n := by rw [Int.natCast_pow]; rfl
    omega
  rw [Nat.pow_succ]
  have : 0 < 2 ^ n := Nat.pow_pos (by decide)
  omega
theorem bot_mul {x y : Int} {a b : Nat} (hx0 : 0 < x) (hx : x ≤ 2 ^ (40 * a)) (hy0 : 0 < y) (hy : y ≤ 2 ^ (40 * b)) : 0 < x * y ∧ x * y ≤ 2 ^ (40 * (a + b)) := by
  refine ⟨Int.mul_pos hx0 hy0, ?_⟩
  rw [Nat.mul_add, Int.pow_add]
  exact Int.mul_le_mul hx hy (by omega) (Int.pow_nonneg (by decide))
theorem lower_ok {n s m : Nat} {ts : List Int} {b : Int} (hl : ts.length = n) (ht : ∀ x ∈ ts, M11.Bn (300 * s) x) (hb : 0 < b) (hm : b ≤ 2 ^ (40 * m)) : RwOk n s m (M11.lowerR ts b) := by
  obtain ⟨p1, p2⟩ := M11.lowerR_pos (ts := ts) hb
  refine ⟨by rw [M11.lowerR_len]; exact hl, fun x hx => ?_, p1, by omega⟩
  obtain ⟨t, h1, h2⟩ := M11.lowerR_le hb x hx
  exact (ht t h1).le h2
theorem dot_bn {n k : Nat} {w r : List Int} (hn : w.length ≤ 16) (hw : ∀ z ∈ w, z.natAbs ≤ 10 ^ 60) (hr : ∀ z ∈ r, M11.Bn k z) : M11.Bn (k + 205) (dot w r) := by
  have := M11.bn_sum (n := 200 + k) 4 (List.zipWith (fun a b => a * b) w r) (by rw [List.length_zipWith]; show _ ≤ 16; omega) fun x hx => by
    obtain ⟨u, hu, v, hv, rfl⟩ := zip_mem hx
    exact (bn200 (hw u hu)).mul (hr v hv)
  exact this.mono (by omega)
theorem rowR_ok {n : Nat} {hs : List Int} {M : List (List Int)} (W : MOk n hs M) : ∀ t : Tm, t.good → RwOk n t.size t.mans (rowR hs M t) := by
  intro t
  induction t with
  | one =>
    intro _
    refine ⟨by show (List.replicate hs.length (1 : Int)).length = n; rw [List.length_replicate]; exact W.hl, fun x hx => ?_, by show (0 : Int) < 1; decide, by show (1 : Int) ≤ 2 ^ (40 * 0); decide⟩
    rw [List.eq_of_mem_replicate hx]
    exact (show M11.Bn 1 1 by unfold M11.Bn; decide).mono (by show 1 ≤ 300 * 1; decide)
  | hue c =>
    intro _
    refine ⟨by show (hs.map _).length = n; rw [List.length_map]; exact W.hl, fun x hx => ?_, by show (0 : Int) < 1; decide, by show (1 : Int) ≤ 2 ^ (40 * 0); decide⟩
    obtain ⟨h, _, rfl⟩ := List.mem_map.mp hx
    refine M11.Bn.mono (n := 1) ?_ (by show 1 ≤ 300 * 1; decide)
    unfold M11.Bn
    split <;> decide
  | near t ih =>
    intro g
    have r := ih g
    refine ⟨by show (M.map _).length = n; rw [List.length_map]; exact W.ml, fun x hx => ?_, r.pos, r.bot⟩
    obtain ⟨v, hv, rfl⟩ := List.mem_map.mp hx
    obtain ⟨l1, l2⟩ := W.row v hv
    have fw := W.few
    exact (dot_bn (n := n) (by omega) l2 r.tops).mono (by simp only [Tm.size]; omega)
  | both t u h1 h2 =>
    intro g
    have r1 := h1 g.1
    have r2 := h2 g.2
    obtain ⟨b1, b2⟩ := bot_mul r1.pos r1.bot r2.pos r2.bot
    refine lower_ok (by rw [List.length_zipWith, r1.len, r2.len]; exact Nat.min_self n) (fun x hx => ?_) b1 b2
    obtain ⟨a, ha, b, hb, rfl⟩ := zip_mem hx
    exact ((r1.tops a ha).mul (r2.tops b hb)).mono (by simp only [Tm.size]; omega)
  | plus t u h1 h2 =>
    intro g
    have r1 := h1 g.1
    have r2 := h2 g.2
    have m1 := t.mans_le
    have m2 := u.mans_le
    obtain ⟨b1, b2⟩ := bot_mul r1.pos r1.bot r2.pos r2.bot
    refine lower_ok (by rw [List.length_zipWith, r1.len, r2.len]; exact Nat.min_self n) (fun x hx => ?_) b1 b2
    obtain ⟨a, ha, b, hb, rfl⟩ := zip_mem hx
    have e1 := ((r1.tops a ha).mul (pos_pow r2.pos r2.bot)).mono (m := 300 * t.size + 300 * u.size + 1) (by omega)
    have e2 := ((r2.tops b hb).mul (pos_pow r1.pos r1.bot)).mono (m := 300 * t.size + 300 * u.size + 1) (by omega)
    exact (e1.add e2).mono (by simp only [Tm.size]; omega)
  | many a b t ih =>
    intro g
    have r := ih g.2
    obtain ⟨g1, g2, g3, g4⟩ := g.1
    have hb : b ≤ 2 ^ (40 * 1) := g3
    obtain ⟨b1, b2⟩ := bot_mul g2 hb r.pos r.bot
    obtain ⟨m1, m2, _, m4⟩ := M11.manyR_spec (a := a) (ts := (rowR hs M t).1) g2 r.pos
    refine ⟨by show (M11.manyR _ _ _ _).1.length = n; rw [M11.manyR_len]; exact r.len, fun x hx => ?_, m1, Int.le_trans m2 (by
      have e : 40 * (1 + t.mans) = 40 * (Tm.many a b t).mans := by simp only [Tm.mans]; omega
      rw [← e]; exact b2)⟩
    obtain ⟨v, hv, hl⟩ := m4 x hx
    exact (((bn200 g1).mul (r.tops v hv)).le hl).mono (by simp only [Tm.size]; omega)
def frs (r : Rw) : List (Int × Int) := r.1.map fun t => M11.low t r.2
end TM
namespace L2
open PySem PySem.Spec PyProof.Rows
theorem extend_tup (l : Addr) (items : Array Value) (n : Nat) (b : Addr) (items2 : Array Value) (hs0 : ¬(!items.isEmpty && Builtin.List.listTooLong (items.size + items2.size)) = true) (hs1 : items.size ≤ sizeLine) (hs2 : items.size + items2.size ≤ sizeLine + 1) :
    Meets (Builtin.«list.extend» ⟨[.ref l, .ref b], []⟩) (fun _ R s => s.heap.get? l = some { cls := .type "list", dict := none, data := .seq items n, slots := #[] } ∧ IsTup s.heap b items2 ∧ R (.ok (.ret Value.none)) { s with heap := s.heap.update l (Obj.mapSeq fun x => x ++ items2), toks := s.toks }) :=
  .of_wp fun prog w A R s h => by
    obtain ⟨hl, ⟨o, ho, hc, n2, hd⟩, h⟩ := h
    show wpAny _ _ (Builtin.List.listExtendWith (.ref l) (.ref b) .none) _ _ s
    unfold Builtin.List.listExtendWith
    refine wpAny_bind (wpAny_typeOf ⟨o, ho, hc⟩ ?_)
    have h1 : (Builtin.List.listSameRef (.ref l) (.ref b) || Value.type "tuple" == Value.type "list" || Value.type "tuple" == Value.type "tuple") = true := by simp
    simp only [h1, if_true]
    refine wpAny_bind ?_
    unfold Builtin.List.listItems
    refine wpAny_bind (wpAny_seqItems ho hd (wpAny_pure ?_))
    refine wpAny_bind ?_
    refine wpAny_bind (wpAny_seqItems hl rfl (wpAny_pure ?_))
    rw [if_neg hs0]
    show wpAny _ A.in1 (updateSeq l (· ++ items2) >>= fun _ => ret Value.none) _ _ s
    refine wpAny_bind (wpAny_updateSeq hl rfl (hz := hs1) (_hz' := by rw [Array.size_append]; exact hs2) ?_)
    exact wpAny_pure ⟨_, rfl, h⟩
section
variable {X : Cx}
def rExtendT (K : PySem.W.Frag) : V → List V → Hp → VK → Prop := fun x vs H Q => ∃ l b xs zs, x = .ref l ∧ vs = [.ref b] ∧ H l = some (.lst xs) ∧ SqT K H b zs ∧ xs.length + zs.length ≤ sizeLine ∧ Q .non (upd H l (.lst (xs ++ zs)))
theorem mt_extendT : MtM X "list.extend" (rExtendT X.K) := by
  intro pins s σ H x vs v us Q I rx rv h
  obtain ⟨l, b, xs, zs, rfl, rfl, hH, hB, hz, q⟩ := h
  cases rx
  obtain ⟨u, rfl, ru⟩ := rv.one
  cases ru
  obtain ⟨z, its, n, r, hl, e⟩ := I.lstM hH
  obtain ⟨its2, r2, t2, z2⟩ := I.tuple hB
  have hl2 := r2.length
  have hsz : its.toArray.size + its2.toArray.size ≤ sizeLine := by rw [List.size_toArray, List.size_toArray]; omega
  have hlong : ¬ (!its.toArray.isEmpty && Builtin.List.listTooLong (its.toArray.size + its2.toArray.size)) = true := by
    rw [notLongL hsz, Bool.and_false]
    exact Bool.false_ne_true
  refine call_meets F.slot_list_extend ⟨_, e, rfl⟩ F.entry_list_extend (F.args_list_extend_2 _ _)
    (extend_tup l its.toArray n b its2.toArray hlong (by rw [List.size_toArray]; omega) (by omega)) ⟨e, t2, ?_⟩
  refine ⟨.non, _, I.lset (its' := its ++ its2) hH e (by simp) (r.append r2) ?_, rfl, q⟩
  rw [List.length_append]
  omega
end
end L2
namespace L2
open PySem PySem.Spec PyProof.Rows
def Ite (K : PySem.W.Frag) (a : Addr) : It :=
  ⟨fun i H => ∃ xs x, SqL K H a xs ∧ xs[i]? = some x,
   fun i H z H' => ∃ t x, z = .ref t ∧ H t = none ∧ H' = upd H t (.tup [.int (i : Int), x]) ∧ ∀ xs, SqL K H a xs → xs[i]? = some x,
   fun i H => ∃ xs, SqL K H a xs ∧ xs.length ≤ i⟩
def ESt (e it a : Addr) (i : Nat) (h : Heap) : Prop := (∃ old, IsEnum h e it (i : Int) old) ∧ h.IsListIter it a i
theorem turn_enum {P : Program} {w : World} {K : PySem.W.Frag} {elts : List Expr} {ek : Nat} {epos : Pos} {e it a : Addr} (ne : e ≠ it) : Turn P w K (.Tuple elts ek epos) (Ite K a) [e, it] e (ESt e it a) where
  mem := by simp
  obj := fun i h st c hc => by
    obtain ⟨⟨old, he⟩, ⟨o1, e1, c1, d1⟩⟩ := st
    have hc' : c = e ∨ c = it := by simpa using hc
    rcases hc' with rfl | rfl
    · exact ⟨_, he, fun v e => by cases e⟩
    · exact ⟨_, e1, fun v e => by rw [d1] at e; cases e⟩
  keep := fun i h h' st k => by
    obtain ⟨⟨old, he⟩, l1⟩ := st
    exact ⟨⟨old, k e (by simp) _ he⟩, l1.at fun o q => k it (by simp) o q⟩
  item := by
    intro X hP hw hK hc i pins s σ H E I hf st hg
    subst hP hw hK
    obtain ⟨xs, x, hx, ex⟩ := hg
    obtain ⟨ia, ra, pa, za⟩ := I.list hx
    obtain ⟨u, hu, ru⟩ := ra.get ex
    obtain ⟨⟨old, he⟩, l1⟩ := st
    refine wpAny_pyNext_enum_item he l1 pa.isList (x := u) (by simpa using hu) ne fun h' a1 a2 a3 a4 a5 => ?_
    refine ⟨_, rfl, wpAny_letOwnedTupleGo_enum a1 fun h2 b1 b2 => ?_⟩
    have hT : H s.heap.objs.size = none := I.hok.fresh (Nat.le_refl _)
    have ltz : ∀ c o, s.heap.get? c = some o → s.heap.objs.size ≠ c := fun c o q => Nat.ne_of_gt (Heap.lt_size q)
    have Te : s.heap.objs.size ≠ e := ltz _ _ he
    have aT : h2.get? s.heap.objs.size = some { cls := .type "tuple", data := .seq #[.int i s.toks, u] } := b2.extBut _ _ Te a3
    have k2 : ∀ c o, c ≠ e → c ≠ it → s.heap.get? c = some o → h2.get? c = some o := fun c o n1 n2 q => b2.extBut _ _ n1 (a5 c o n1 n2 q)
    have I1 : Inv X pins σ (upd H s.heap.objs.size (.tup [.int (i : Int), x])) { s with heap := s.heap.push { cls := .type "tuple", data := .seq #[.int i s.toks, u] }, toks := s.toks + 1 } := by
      refine I.laid (t' := s.toks + 1) (fun c o q => Heap.get?_push_of_some _ q) (Nat.le_refl _) ?_
      exact ⟨(by show 2 ≤ sizeLine; decide), [.int i s.toks, u], .cons ⟨_, rfl⟩ (.cons ru .nil), IsTup.new s.heap _⟩
    have hf1 : ∀ c ∈ [e, it], FpOk X pins (upd H s.heap.objs.size (.tup [.int (i : Int), x])) c := fun c hc' => by
      obtain ⟨f0, f⟩ := hf c hc'
      refine ⟨?_, f⟩
      have : ∃ o, s.heap.get? c = some o := by
        have hc'' : c = e ∨ c = it := by simpa using hc'
        obtain ⟨o1, e1, _⟩ := l1
        rcases hc'' with rfl | rfl
        · exact ⟨_, he⟩
        · exact ⟨_, e1⟩
      obtain ⟨o, q⟩ := this
      rw [upd_ne (ltz c o q).symm]
      exact f0
    have I2 : Inv X pins σ (upd H s.heap.objs.size (.tup [.int (i : Int), x])) { s with heap := h2, toks := s.toks + 1 } := by
      refine Inv.turnedL (s := { s with heap := s.heap.push { cls := .type "tuple", data := .seq #[.int i s.toks, u] }, toks := s.toks + 1 }) (h' := h2) (t' := s.toks + 1) (its := [e, it]) I1 (fun c o hc' q => ?_) hf1
      have hc'' : ¬ (c = e ∨ c = it) := by simpa using hc'
      by_cases hcs : c = s.heap.objs.size
      · subst hcs
        have e' : (s.heap.push { cls := .type "tuple", data := .seq #[.int i s.toks, u] }).get? s.heap.objs.size = some o := q
        rw [Heap.get?_push_size _ rfl] at e'
        cases e'
        exact aT
      · refine k2 c o (fun z' => hc'' (.inl z')) (fun z' => hc'' (.inr z')) ?_
        rw [← q]
        exact (Heap.get?_push_ne _ _ _ hcs).symm
    refine ⟨.ref s.heap.objs.size, _, I2, rfl, ⟨_, x, rfl, hT, rfl, fun ws hw => by rw [I.list_inj hw hx]; exact ex⟩, ?_, fun c hc' => (hf1 c hc').1⟩
    exact ⟨⟨u, b1⟩, a2.extBut b2.extBut ne.symm⟩
  done := by
    intro X hP hw hK hc i pins s σ H E I hf st hg
    subst hP hw hK
    obtain ⟨xs, hx, hl⟩ := hg
    obtain ⟨ia, ra, pa, za⟩ := I.list hx
    have hla := ra.length
    obtain ⟨⟨old, he⟩, l1⟩ := st
    refine wpAny_pyNext_enum_end (I.ok.hd hc) he l1 pa.isList (by simp; omega) fun h' k => ⟨rfl, ?_⟩
    exact I.turnedL (t' := s.toks) (its := [e, it]) (fun c o hc' q => by
      have hc'' : ¬ (c = e ∨ c = it) := by simpa using hc'
      exact k c o (fun z' => hc'' (.inr z')) q) hf
  self := fun _ _ _ _ _ st h => by
    obtain ⟨⟨old, he⟩, _⟩ := st
    exact wpAny_pyIter_enum he h
section
variable {X : Cx}
def iEnum (K : PySem.W.Frag) (ta : TA) : TI := fun σ H R => ta σ H fun vs H1 => ∃ a, vs = [.ref a] ∧ (∃ xs, SqL K H1 a xs) ∧ R (Ite K a) H1
theorem pi_enum {elts : List Expr} {ek : Nat} {epos : Pos} {a : Expr} {ta : TA} {p pos : Pos} (hg : Gl X "enumerate") (hm : X.mg "enumerate" = none) (ha : PA X [a] ta) (hs : starEach [a] X.env = [(false, eval a X.env)] := by rfl) :
    PI X (.Tuple elts ek epos) (.Call (.Name "enumerate" p) [a] [] pos) (iEnum X.K ta) := by
  intro pins s σ H R I h
  refine Call_ (ld_blt I hg hm boot_enumerate (PyProof.Rows.callWith_type1 (thn (ha pos pins s σ H _ I h) fun us s1 ⟨vs, H1, I1, r1, q1⟩ => ?_) hs rfl))
  obtain ⟨l1, e, ⟨xs, hx⟩, q⟩ := q1
  subst e
  obtain ⟨u, rfl, ru⟩ := vals1 r1
  cases ru
  obtain ⟨ia, ra, pa, za⟩ := I1.list hx
  refine call_enumerate_list pa.isList fun h' he hi hsz hk => wpAny_pyIter_enum he ?_
  have fr : ∀ b, s1.heap.objs.size ≤ b → FpOk X pins H1 b := fun b hb => I1.fpOk hb (I1.hok.fresh hb)
  refine ⟨_, [s1.heap.objs.size + 1, s1.heap.objs.size], _, _, H1, rfl, I1.kept (t' := s1.toks) hk,
    turn_enum (it := s1.heap.objs.size) (a := l1) (fun z => by simp at z), ⟨⟨_, he⟩, hi⟩, fun b hb => ?_, q⟩
  have hb' : b = s1.heap.objs.size + 1 ∨ b = s1.heap.objs.size := by simpa using hb
  rcases hb' with rfl | rfl
  · exact fr _ (Nat.le_add_right _ _)
  · exact fr _ (Nat.le_refl _)
theorem for_enum {K : PySem.W.Frag} {a : Addr} {xs : List V} {g : TG} {tb : TS} {D : Ends} {σ : St} {H : Hp} (Pv : Nat → St → Hp → Prop) (h0 : Pv 0 σ H) (hl : ∀ i σ H, i ≤ xs.length → Pv i σ H → SqL K H a xs)
    (hs : ∀ (i : Nat) (x : V) (t : Addr) σ H, xs[i]? = some x → Pv i σ H → H t = none → g (.ref t) σ (upd H t (.tup [.int (i : Int), x])) fun σ2 H2 => tb { D with nx := Pv (i + 1), ct := Pv (i + 1), bk := D.nx } σ2 H2) (hd : ∀ σ H, Pv xs.length σ H → D.nx σ H) :
    ∃ W : Nat → Nat → St → Hp → Prop, (∃ m, W 0 m σ H) ∧ ∀ i m σ H, W i m σ H →
      ((Ite K a).stop i H ∧ D.nx σ H) ∨ ((Ite K a).go i H ∧ ∃ N : St → Hp → Prop, (∀ σ' H', N σ' H' → ∃ m', m' < m ∧ W (i + 1) m' σ' H') ∧ ∀ x H', (Ite K a).yld i H x H' → g x σ H' fun σ2 H2 => tb { D with nx := N, ct := N, bk := D.nx } σ2 H2) := by
  refine ⟨fun i m σ H => m = xs.length - i ∧ i ≤ xs.length ∧ Pv i σ H, ⟨xs.length, by simp, Nat.zero_le _, h0⟩, ?_⟩
  rintro i m σ H ⟨rfl, hi, p⟩
  have q1 := hl i σ H hi p
  by_cases lt : i < xs.length
  · refine .inr ⟨⟨xs, xs[i], q1, List.getElem?_eq_getElem lt⟩, Pv (i + 1), fun σ' H' p' => ⟨xs.length - (i + 1), by omega, rfl, lt, p'⟩, fun x H' y => ?_⟩
    obtain ⟨t, x1, rfl, ht, rfl, g1⟩ := y
    exact hs i x1 t σ H (g1 xs q1) p ht
  · have ei : i = xs.length := by omega
    subst ei
    exact .inl ⟨⟨xs, q1, Nat.le_refl _⟩, hd σ H p⟩
end
end L2
namespace L2
open PySem PySem.Spec PyProof.Rows
section
variable {X : Cx}
theorem ins_call {prog : Program} {w : World} {A : Around} {E : Value → Shared → Prop} {s : Shared} {Q : Value → Shared → Prop} {l : Addr} {arr : Array Value} {n : Nat} {k : Int} {t1 : Tok} {u2 : Value} (hc0 : ¬(!Builtin.List.listFitsIndex k) = true) (hs1 : arr.size ≤ sizeLine)
    (e : s.heap.get? l = some { cls := .type "list", data := .seq arr n }) (h : Q .none { s with heap := s.heap.update l (Obj.mapSeq fun xs => have k := if k < 0 then (k + (xs.size : Int)).toNat else min k.toNat xs.size; (xs.extract 0 k).push u2 ++ xs.extract k), toks := s.toks }) :
    wpAny (model prog w) A (call (.builtin "list.insert") [.ref l, .int k t1, u2]) Q E s :=
  call_meets F.slot_list_insert ⟨_, e, rfl⟩ F.entry_list_insert (F.args_list_insert_3 _ _ _) (PySem.AutoSeq1.list_insert_list_int_val_1 l arr n k t1 u2 hc0 hs1) ⟨e, h⟩
def rInsert : V → List V → Hp → VK → Prop := fun x vs H Q => ∃ (l : Addr) (xs : List V) (k : Nat) (y : V), x = .ref l ∧ vs = [.int (k : Int), y] ∧ H l = some (.lst xs) ∧ k ≤ xs.length ∧ xs.length < sizeLine ∧ Q .non (upd H l (.lst (xs.take k ++ y :: xs.drop k)))
theorem mt_insert : MtM X "list.insert" rInsert := by
  intro pins s σ H x vs v us Q I rx rv h
  obtain ⟨l, xs, k, y, rfl, rfl, hH, hk, hz, q⟩ := h
  cases rx
  obtain ⟨u1, u2, rfl, ⟨t1, rfl⟩, r2⟩ := rv.two
  obtain ⟨z, its, n, r, hl, e⟩ := I.lstM hH
  have hn := line63
  have hf : Builtin.List.listFitsIndex (k : Int) = true := by
    unfold Builtin.List.listFitsIndex
    rw [Bool.and_eq_true, decide_eq_true_iff, decide_eq_true_iff]
    omega
  have hc0 : ¬(!Builtin.List.listFitsIndex (k : Int)) = true := by rw [hf]; decide
  have hs1 : its.toArray.size ≤ sizeLine := by rw [List.size_toArray]; omega
  refine ins_call hc0 hs1 e ?_
  refine ⟨.non, _, I.lset (its' := its.take k ++ u2 :: its.drop k) hH e ?_ ((r.take k).append (.cons r2 (r.drop k))) ?_, rfl, q⟩
  · have e1 : (if ((k : Nat) : Int) < 0 then (((k : Nat) : Int) + (its.toArray.size : Int)).toNat else min ((k : Nat) : Int).toNat its.toArray.size) = k := by
      rw [if_neg (by omega), Int.toNat_natCast, List.size_toArray]
      omega
    dsimp only
    rw [e1]
    apply Array.ext'
    simp
    exact List.take_of_length_le (by rw [List.length_drop]; exact Nat.le_refl _)
  · rw [List.length_append, List.length_cons, List.length_take, List.length_drop]
    omega
end
end L2
namespace L2
open PySem PySem.Spec PyProof.Rows
noncomputable def hitD (h : Heap) (d : PyData) (u : Value) : Bool := @decide (∃ e as, Reads h u e as ∧ e.canLay0 = true ∧ PyData.eqv e d = true) (Classical.propDecidable _)
theorem hitD_of {h : Heap} {d e : PyData} {u : Value} {as : List Addr} (r : Reads h u e as) (l : e.canLay0 = true) : hitD h d u = PyData.eqv e d := by
  unfold hitD
  cases q : PyData.eqv e d with
  | true => exact @decide_eq_true _ (Classical.propDecidable _) ⟨e, as, r, l, q⟩
  | false =>
    refine @decide_eq_false _ (Classical.propDecidable _) fun ⟨e', as', r', l', q'⟩ => ?_
    rw [PySem.SeqAt.Reads.unique e e' u as as' l r r', q'] at q
    cases q
theorem hits_get {h : Heap} {d : PyData} : ∀ {us : List Value} {ds : List PyData} {as : List Addr}, ReadsAll h us ds as → PyData.canLayAll0 ds = true → us.length = ds.length ∧ ∀ (i : Nat) (h1 : i < us.length) (h2 : i < ds.length), hitD h d us[i] = PyData.eqv ds[i] d ∧ ∃ bs, Reads h us[i] ds[i] bs ∧ ds[i].canLay0 = true
  | _, _, _, .nil, _ => ⟨rfl, fun i h1 => absurd h1 (by simp)⟩
  | _, _, _, .cons r rs, l => by
    simp only [PyData.canLayAll0, Bool.and_eq_true] at l
    obtain ⟨e, g⟩ := hits_get (d := d) rs l.2
    refine ⟨by rw [List.length_cons, List.length_cons, e], fun i h1 h2 => ?_⟩
    cases i with
    | zero => exact ⟨hitD_of r l.1, _, r, l.1⟩
    | succ i => exact g i (by simpa using h1) (by simpa using h2)
theorem hits_eqAt {A : Around} {s : Shared} {x : Value} {d : PyData} {bs : List Addr} (rx : Reads s.heap x d bs) (lx : d.canLay0 = true) (hu : A.units + d.depth < cLine) {us : List Value} {ds : List PyData} {as : List Addr} (r : ReadsAll s.heap us ds as) (l : PyData.canLayAll0 ds = true) :
    ∀ u ∈ us, SeqAt.EqAt A s u x (hitD s.heap d u) := by
  intro u hm
  obtain ⟨i, hi, rfl⟩ := List.getElem_of_mem hm
  obtain ⟨e, g⟩ := hits_get (d := d) r l
  obtain ⟨g1, cs, g2, g3⟩ := g i hi (by omega)
  rw [g1]
  exact PySem.SeqAt.eqAt_reads _ _ A s _ _ _ _ g2 rx g3 lx (Nat.lt_of_le_of_lt (Nat.add_le_add_left (Nat.min_le_right _ _) _) hu)
section
variable {X : Cx}
def rIndexD (K : PySem.W.Frag) : V → List V → Hp → VK → Prop := fun x vs H Q => ∃ l xs y ds d, x = .ref l ∧ vs = [y] ∧ H l = some (.lst xs) ∧ DAs K any H xs ds ∧ DA K any H y d ∧ (PyData.canLayAll0 ds = true ∧ d.canLay0 = true ∧ d.depth ≤ 32) ∧ (ds.findIdx fun e => PyData.eqv e d) < ds.length ∧
  Q (.int ((ds.findIdx fun e => PyData.eqv e d : Nat) : Int)) H
theorem mt_indexD (hu : X.A.units + 64 < cLine) : MtM X "list.index" (rIndexD X.K) := by
  intro pins s σ H x vs v us Q I rx rv h
  obtain ⟨l, xs, y, ds, d, rfl, rfl, hH, hs, hd, ⟨l1, l2, l3⟩, hj, q⟩ := h
  cases rx
  obtain ⟨u, rfl, ru⟩ := rv.one
  obtain ⟨z, its, n, r, hl, e⟩ := I.lstM hH
  obtain ⟨as, p1⟩ := hs.reads I r
  obtain ⟨bs, p2⟩ := hd.reads I ru
  obtain ⟨g0, g⟩ := hits_get (d := d) p1 l1
  have hn := line63
  refine call_meets F.slot_list_index ⟨_, e, rfl⟩ F.entry_list_index (F.args_list_index_2 _ _) (SeqAt.list_indexAt l its.toArray n _ _ u (hitD s.heap d) (ds.findIdx fun e => PyData.eqv e d) (by simpa [g0] using hj) (by omega) ?_ ?_) ⟨e, fun w hw => hits_eqAt p2 l2 (by rw [Around.in1_units]; omega) p1 l1 w (by simpa using hw), ?_⟩
  · have := (g (ds.findIdx fun e => PyData.eqv e d) (by omega) hj).1
    show hitD s.heap d (its[ds.findIdx fun e => PyData.eqv e d]'(by omega)) = true
    rw [this]
    exact List.findIdx_getElem (w := hj)
  · intro m hm lt
    have hm' : m < its.length := by simpa using hm
    have := (g m hm' (by omega)).1
    show hitD s.heap d (its[m]'hm') = false
    rw [this]
    have := List.not_of_lt_findIdx lt
    simpa using this
  · exact ⟨.int _, H, I.tok _, ⟨_, rfl⟩, q⟩
end
end L2
namespace L2
open PySem PySem.Spec PyProof.Rows
section
variable {X : Cx}
theorem all_range (bs : List Bool) : (List.range bs.length).all (fun i => (bs[i]?).getD true) = bs.all id := by
  rw [Bool.eq_iff_iff, List.all_eq_true, List.all_eq_true]
  constructor
  · intro h b hb
    obtain ⟨i, hi⟩ := List.getElem?_of_mem hb
    have := h i (List.mem_range.mpr (List.getElem?_eq_some_iff.mp hi).1)
    rw [hi] at this
    exact this
  · intro h i hi
    have e := List.getElem?_eq_getElem (List.mem_range.mp hi)
    rw [e]
    exact h _ (List.getElem_mem _)
theorem call_all (hc : X.calm = true) : CallR X (.builtin "all") (fun xs H Q => ∃ (p : Addr) (bs : List Bool), xs = [.ref p] ∧ SqL X.K H p (bs.map V.bl) ∧ Q (.bl (bs.all id)) H) := by
  intro pins s σ H xs us Q I r h
  obtain ⟨p, bs, rfl, hq, q⟩ := h
  obtain ⟨u, rfl, rx⟩ := vals1 r
  cases rx
  obtain ⟨its, rv, pl, hz⟩ := I.list hq
  have hl := rv.length
  rw [List.length_map] at hl
  refine call_all_walk (wpAny_pyIter_list pl.isList ?_)
  have hne : p ≠ s.heap.objs.size := by
    obtain ⟨o, e, _⟩ := id pl.isList
    exact Nat.ne_of_lt (Heap.lt_size e)
  refine ⟨_, _, _, _, _, _, fun i => (bs[i]?).getD true, rfl, Walks.list (A := X.A.in1) (I.ok.hd hc) _ p hne its.toArray, ?_, ?_, ?_⟩
  · exact ⟨⟨_, Heap.get?_push_size _ rfl, rfl, rfl⟩, pl.isList.at fun o e => Heap.get?_push_of_some _ e⟩
  · intro i v s2 Q2 E2 hi hq2
    have hi' : its[i]? = some v := by simpa using hi
    have li : i < bs.length := by rw [hl]; exact (List.getElem?_eq_some_iff.mp hi').1
    have eb : (bs.map V.bl)[i]? = some (.bl bs[i]) := by rw [List.getElem?_map, List.getElem?_eq_getElem li]; rfl
    obtain ⟨u, hu, ru⟩ := rv.get eb
    rw [hi'] at hu
    cases hu
    cases ru
    refine wpAny_truthy_bool ?_
    have hq3 : Q2 ((bs[i]?).getD true) s2 := hq2
    rw [List.getElem?_eq_getElem li] at hq3
    exact hq3
  · intro h' tk hk
    have e : (List.range its.toArray.size).all (fun i => (bs[i]?).getD true) = bs.all id := by
      rw [List.size_toArray, ← hl]
      exact all_range bs
    rw [e]
    exact ⟨.bl (bs.all id), H, I.kept fun b o e => hk b o (by
      intro z
      have := List.mem_singleton.mp z
      subst this
      exact Nat.lt_irrefl _ (Heap.lt_size e)) (Heap.get?_push_of_some _ e), rfl, q⟩
end
end L2
namespace L2
open PySem PySem.Spec PyProof.Rows
section
variable {X : Cx}
def rStrD (K : PySem.W.Frag) : List V → Hp → VK → Prop := fun xs H Q => ∃ a d, xs = [.ref a] ∧ DA K any H (.ref a) d ∧ (d.showable = true ∧ d.hasDict = false ∧ d.depth ≤ 32 ∧ d.shown.length ≤ sizeLine) ∧ Q (.str d.shown) H
theorem call_strD (hg : X.A.guards = some []) (hu : X.A.units + 64 < cLine) : CallR X (.type "str") (rStrD X.K) := by
  intro pins s σ H xs us Q I r h
  obtain ⟨a, d, rfl, hd, ⟨h1, h2, h3, h4⟩, q⟩ := h
  obtain ⟨u, rfl, rx⟩ := vals1 r
  obtain ⟨as, p1⟩ := hd.reads I rx
  cases rx
  exact str_of_reads p1 h1 (fun z => by rw [h2] at z; cases z) hg (by omega) (fun _ _ e => e) (fun h' u tk hk => ⟨.str _, H, I.kept hk, ⟨_, rfl⟩, q⟩) h4
end
theorem int_shows {z : Int} (h : z.natAbs < 10 ^ 30) : (PyData.int z).showable = true ∧ (PyData.int z).intsShort 31 = true ∧ (PyData.int z).weight ≤ 101 := by
  have lg : z.natAbs.log2 < 100 := by
    by_cases e : z.natAbs = 0
    · rw [e]; decide
    · exact (Nat.log2_lt e).mpr (Nat.lt_of_lt_of_le h (by decide))
  refine ⟨?_, ?_, ?_⟩
  · simp only [PyData.showable, decide_eq_true_iff]
    omega
  · simp only [PyData.intsShort, decide_eq_true_iff]
    have e := int_text_length_le10 (k := 30) (by decide) h
    show (Str.ofString (toString z)).length ≤ 31
    rw [PySem.ofString_length]
    exact e
  · simp only [PyData.weight]
    split
    · omega
    · omega
theorem ints_show : ∀ ns : List Int, (∀ z ∈ ns, z.natAbs < 10 ^ 30) → PyData.showableAll (ns.map .int) = true ∧ PyData.intsShortAll 31 (ns.map .int) = true ∧ PyData.hasDictAll (ns.map .int) = false ∧ PyData.weightAll (ns.map .int) ≤ 102 * ns.length
  | [], _ => ⟨rfl, rfl, rfl, Nat.le_refl _⟩
  | z :: ns, h => by
    obtain ⟨a1, a2, a3, a4⟩ := ints_show ns fun z hz => h z (List.mem_cons_of_mem _ hz)
    obtain ⟨b1, b2, b3⟩ := int_shows (h z List.mem_cons_self)
    rw [List.map_cons]
    refine ⟨?_, ?_, ?_, ?_⟩
    · simp only [PyData.showableAll, a1, b1, Bool.and_self]
    · simp only [PyData.intsShortAll, a2, b2, Bool.and_self]
    · simp only [PyData.hasDictAll, a3, PyData.hasDict, Bool.or_self]
    · simp only [PyData.weightAll, List.length_cons]
      omega
end L2
namespace My
open PySem L2 PyProof.Rows
open List (getElem?_map map_take length_take length_drop map_cons getD_eq_getElem?_getD getElem?_append_left getElem?_append_right getElem?_eq_getElem length_append take_zero take_length foldl_append length_map map_append mem_append mem_singleton mem_of_getElem? mem_cons_self length_range getElem?_range take_append_drop length_zipWith map_map map_congr_left mem_range mem_map mem_cons_of_mem mem_cons length_cons mem_of_mem_take append_nil flatten_cons getElem?_eq_none getElem?_set_self getElem?_set_ne length_set mem_or_eq_of_mem_set replicate_succ getElem?_replicate map_set ext_getElem? mem_iff_getElem? nil_append all_eq_true mem_flatten map_inj_left not_mem_nil cons_append ext_getElem getElem_map)
open PySem.W (Frag mg_of mg_none_of)
open PySem.F (plainAttrs_list slot_list_index type_list_index slot_list_extend type_list_extend slot_list_insert type_list_insert)
theorem sz1 : 1 ≤ sizeLine := by decide
theorem sz2 : 2 ≤ sizeLine := by decide
theorem sz3 : 3 ≤ sizeLine := by decide
theorem sz4 : 4 ≤ sizeLine := by decide
theorem sz8 : 8 ≤ sizeLine := by decide
def top (i : Nat) : Stmt := PySem.Challenge.pw_evenkin_k52_papers_of_trees_looked_at.main.body.getD i (.Pass ⟨0, 0, 0, 0⟩)
abbrev sCol : Stmt := top 1
abbrev sCols : Stmt := top 2
abbrev sDot : Stmt := top 3
abbrev sEach : Stmt := top 4
abbrev sProd : Stmt := top 5
abbrev sInOne : Stmt := top 6
abbrev sInSq : Stmt := top 7
abbrev sIsSq : Stmt := top 8
abbrev sGd : Stmt := top 10
abbrev sFr : Stmt := top 11
abbrev sBottom : Stmt := top 12
abbrev sTopOver : Stmt := top 13
abbrev sInner : Stmt := top 16
abbrev sFirst : Stmt := top 17
abbrev sAll : Stmt := top 18
abbrev sLowered : Stmt := top 19
abbrev sBothRow : Stmt := top 20
abbrev sPlusRow : Stmt := top 21
abbrev sManyRow : Stmt := top 22
abbrev sLeaf : Stmt := top 25
abbrev sFromOne : Stmt := top 26
abbrev sFromTwo : Stmt := top 27
abbrev sByKind : Stmt := top 28
abbrev sOver : Stmt := top 29
abbrev sTov : Stmt := top 30
abbrev sTot : Stmt := top 31
abbrev sTotalOf : Stmt := top 33
abbrev sCome : Stmt := top 35
abbrev sShared : Stmt := top 36
abbrev sKeepsHue : Stmt := top 37
abbrev sKeepHues : Stmt := top 38
abbrev sGoes : Stmt := top 39
abbrev sTermOf : Stmt := top 41
abbrev sLook : Stmt := top 43
abbrev sCellAt : Stmt := top 45
abbrev sDraws : Stmt := top 46
abbrev sSquare : Stmt := top 47
abbrev sWebP : Stmt := top 48
abbrev sOrder : Stmt := top 49
abbrev sLift : Stmt := top 50
abbrev sLRen : Stmt := top 51
abbrev sTwo : Stmt := top 52
abbrev sLow : Stmt := top 53
abbrev sMixed : Stmt := top 54
abbrev sByHues : Stmt := top 55
abbrev sBent : Stmt := top 56
abbrev sLSum : Stmt := top 57
abbrev sLGoes : Stmt := top 58
abbrev sTable : Stmt := top 59
abbrev sTree : Stmt := top 60
abbrev sLRow : Stmt := top 61
abbrev sUnlike : Stmt := top 62
abbrev sLaw : Stmt := top 63
section
variable {K : Frag}
theorem op_in {r : R2} {ta tb : TE} {σ : L2.St} {H : Hp} {Q : VK} (h : ta σ H fun x H1 => tb σ H1 fun y H2 => r x y H2 Q) : tOp r ta tb σ H Q := h
theorem cons_in {te : TE} {t : TA} {σ : L2.St} {H : Hp} {Q : List V → Hp → Prop} (h : te σ H fun x H1 => t σ H1 fun vs H2 => Q (x :: vs) H2) : tCons te t σ H Q := h
theorem tup_in {t : TA} {σ : L2.St} {H : Hp} {Q : VK} (h : t σ H fun vs H1 => vs.length ≤ sizeLine ∧ ∀ p, H1 p = none → Q (.ref p) (upd H1 p (.tup vs))) : tTup t σ H Q := h
theorem rd2 {i j k : Nat} {σ : L2.St} {H : Hp} {Q : VK} {p r : Addr} {a b : Int} {xs ys : List V} {v : V} (h1 : σ[i]? = some (some (.ref p))) (h2 : σ[j]? = some (some (.int a))) (h3 : σ[k]? = some (some (.int b))) (e1 : H p = some (.lst xs)) (a1 : atI xs a = some (.ref r)) (e2 : H r = some (.lst ys)) (a2 : atI ys b = some v) (q : Q v H) : tOp (rIxL K) (tOp (rIxL K) (tVar i) (tVar j)) (tVar k) σ H Q :=
  ⟨_, h1, _, h2, p, _, _, _, rfl, rfl, SqL.of e1, a1, _, h3, r, _, _, _, rfl, rfl, SqL.of e2, a2, q⟩
theorem rd3 {i j k : Nat} {c : Int} {σ : L2.St} {H : Hp} {Q : VK} {p r s : Addr} {a b : Int} {xs ys zs : List V} {v : V} (h1 : σ[i]? = some (some (.ref p))) (h2 : σ[j]? = some (some (.int a))) (h3 : σ[k]? = some (some (.int b))) (e1 : H p = some (.lst xs)) (a1 : atI xs a = some (.ref r)) (e2 : H r = some (.lst ys)) (a2 : atI ys b = some (.ref s)) (e3 : H s = some (.tup zs)) (a3 : atI zs c = some v) (q : Q v H) : tOp (rIxT K) (tOp (rIxL K) (tOp (rIxL K) (tVar i) (tVar j)) (tVar k)) (tC (.int c)) σ H Q :=
  op_in (rd2 (Q := fun x H1 => tC (.int c) σ H1 fun y H2 => rIxT K x y H2 Q) h1 h2 h3 e1 a1 e2 a2 ⟨s, _, _, _, rfl, rfl, SqT.of e3, a3, q⟩)
theorem rdW {i j k : Nat} {c : Int} {σ : L2.St} {H : Hp} {Q : VK} {p r s : Addr} {a b : Int} {xs ys zs : List V} {v : V} (h1 : σ[i]? = some (some (.ref p))) (h2 : σ[j]? = some (some (.int a))) (h3 : σ[k]? = some (some (.int b))) (e1 : H p = some (.tup xs)) (a1 : atI xs c = some (.ref r)) (e2 : H r = some (.lst ys)) (a2 : atI ys a = some (.ref s)) (e3 : H s = some (.lst zs)) (a3 : atI zs b = some v) (q : Q v H) : tOp (rIxL K) (tOp (rIxL K) (tOp (rIxT K) (tVar i) (tC (.int c))) (tVar j)) (tVar k) σ H Q :=
  ⟨_, h1, p, _, _, _, rfl, rfl, SqT.of e1, a1, _, h2, r, _, _, _, rfl, rfl, SqL.of e2, a2, _, h3, s, _, _, _, rfl, rfl, SqL.of e3, a3, q⟩
theorem st2 {i j k : Nat} {σ : L2.St} {H : Hp} {Q : L2.St → Hp → Prop} {p r : Addr} {a b : Int} {n : Nat} {xs ys : List V} {v : V} (h1 : σ[i]? = some (some (.ref p))) (h2 : σ[j]? = some (some (.int a))) (h3 : σ[k]? = some (some (.int b))) (e1 : H p = some (.lst xs)) (a1 : atI xs a = some (.ref r)) (e2 : H r = some (.lst ys)) (a2 : ixN ys.length b = some n) (q : Q σ (upd H r (.lst (ys.set n v)))) : gSub (tOp (rIxL K) (tVar i) (tVar j)) (tVar k) rSetL v σ H Q :=
  ⟨_, h1, _, h2, p, _, _, _, rfl, rfl, SqL.of e1, a1, _, h3, r, _, _, _, rfl, rfl, e2, a2, q⟩
end
section
variable {K : Frag}
def Mn (te : TE) : Prop := ∀ σ H Q Q', (∀ v H1, Q v H1 → Q' v H1) → te σ H Q → te σ H Q'
def MnA (t : TA) : Prop := ∀ σ H Q Q', (∀ v H1, Q v H1 → Q' v H1) → t σ H Q → t σ H Q'
def MnR (r : R2) : Prop := ∀ x y H (Q Q' : VK), (∀ v H1, Q v H1 → Q' v H1) → r x y H Q → r x y H Q'
theorem mn_v {i : Nat} : Mn (tVar i) := fun _ _ _ _ h ⟨v, e, q⟩ => ⟨v, e, h _ _ q⟩
theorem mn_c {v : V} : Mn (tC v) := fun _ _ _ _ h q => h _ _ q
theorem mn_op {r : R2} {ta tb : TE} (a : Mn ta) (b : Mn tb) (m : MnR r) : Mn (tOp r ta tb) := fun _ _ _ _ h q => a _ _ _ _ (fun _ _ q => b _ _ _ _ (fun _ _ q => m _ _ _ _ _ h q) q) q
theorem mr_l : MnR (rIxL K) := fun _ _ _ _ _ h ⟨p, xs, i, v, a, b, c, d, q⟩ => ⟨p, xs, i, v, a, b, c, d, h _ _ q⟩
theorem mr_t : MnR (rIxT K) := fun _ _ _ _ _ h ⟨p, xs, i, v, a, b, c, d, q⟩ => ⟨p, xs, i, v, a, b, c, d, h _ _ q⟩
theorem mr_i {C : Int → Int → Prop} {f : Int → Int → V} : MnR (L2.rI C f) := fun _ _ _ _ _ h ⟨i, j, a, b, c, q⟩ => ⟨i, j, a, b, c, h _ _ q⟩
theorem ma_n : MnA tNil := fun _ _ _ _ h q => h _ _ q
theorem ma_c {te : TE} {t : TA} (a : Mn te) (b : MnA t) : MnA (tCons te t) := fun _ _ _ _ h q => a _ _ _ _ (fun _ _ q => b _ _ _ _ (fun _ _ q => h _ _ q) q) q
theorem mn_t {t : TA} (a : MnA t) : Mn (tTup t) := fun _ _ _ _ h q => a _ _ _ _ (fun _ _ ⟨z, q⟩ => ⟨z, fun p hp => h _ _ (q p hp)⟩) q
end
theorem seq_in {t u : TS} {D : Ends} {σ : L2.St} {H : Hp} (h : t { D with nx := u D } σ H) : tSeq t u D σ H := h
theorem asg_in {te : TE} {g : TG} {D : Ends} {σ : L2.St} {H : Hp} (h : te σ H fun x H1 => g x σ H1 D.nx) : tAsg te g D σ H := h
section
variable {K : Frag}
def bodyAt (s : Stmt) (i : Nat) : Stmt := (defBody s).getD i (.Pass ⟨0, 0, 0, 0⟩)
def asgVal (s : Stmt) : Expr := match s with
  | .Assign _ v _ => v
  | .Return (some v) _ => v
  | _ => .Constant .none 0 ⟨0, 0, 0, 0⟩
def lcScope (e : Expr) : Scope := match e with
  | .ListComp _ _ sc _ => sc
  | _ => { kind := .function, names := [], isGenerator := false, isCoroutine := false }
def tupAt (e : Expr) (i : Nat) : Expr := match e with
  | .Tuple es _ _ => es.getD i (.Constant .none 0 ⟨0, 0, 0, 0⟩)
  | _ => .Constant .none 0 ⟨0, 0, 0, 0⟩
theorem ix_tupK {K : Frag} {X : Cx} (h : X.K = K := by rfl) : IxR X (rIxT K) := by subst h; exact ix_tup
theorem Same.sq {H H' : Hp} {a : Addr} {xs : List V} (e : Same H H') (h : SqL K H a xs) : SqL K H' a xs := (Same.keep (ok := any) e).seq trivial h
theorem take_snoc {α : Type} {xs : List α} {i : Nat} {x : α} (h : xs[i]? = some x) : xs.take (i + 1) = xs.take i ++ [x] := by
  rw [List.take_succ, h]
  rfl
theorem map_get {α β : Type} {f : α → β} {xs : List α} {i : Nat} {y : β} (h : (xs.map f)[i]? = some y) : ∃ x, xs[i]? = some x ∧ y = f x := by
  rw [getElem?_map] at h
  obtain ⟨x, h1, h2⟩ := Option.map_eq_some_iff.mp h
  exact ⟨x, h1, h2.symm⟩
theorem cut_ints (ns : List Int) (lo hi : Option Int) : ∃ ms : List Int, cutV (ns.map V.int) lo hi = ms.map V.int ∧ ms.length ≤ ns.length := by
  unfold cutV
  rw [← List.map_drop, ← map_take]
  exact ⟨_, rfl, by rw [length_take, length_drop]; omega⟩
def tMid (t u : TS) : TS := fun D σ H => ∃ J : L2.St → Hp → Prop, t { D with nx := J } σ H ∧ ∀ σ' H', J σ' H' → u D σ' H'
theorem pss_mid {X : Cx} {st : Stmt} {rest : List Stmt} {t u : TS} (h1 : PS X st t) (h2 : PSs X rest u) : PSs X (st :: rest) (tMid t u) := by
  intro pins s σ H D I h
  obtain ⟨J, h, k⟩ := h
  refine wpAny_execs_cons (thn (h1 pins s σ H { D with nx := J } I h) fun f s1 q => ?_)
  cases f with
  | next =>
    obtain ⟨σ', H', I', q⟩ := q
    exact h2 pins s1 σ' H' D I' (k σ' H' q)
  | ret v => exact q
  | brk => exact q
  | cont => exact q
def dI (ns : List Int) : PyData := .list (ns.map .int)
theorem lay_ints : ∀ ns : List Int, PyData.canLayAll0 (ns.map .int) = true ∧ PyData.depthAll (ns.map .int) = 0
  | [] => ⟨rfl, rfl⟩
  | n :: ns => by
    obtain ⟨h1, h2⟩ := lay_ints ns
    refine ⟨?_, ?_⟩
    · rw [map_cons]
      simp only [PyData.canLayAll0, PyData.canLay0, h1, Bool.and_self]
    · rw [map_cons]
      simp only [PyData.depthAll, PyData.depth, h2, Nat.max_self]
theorem lay_dI (ns : List Int) : (dI ns).canLay0 = true ∧ (dI ns).depth ≤ 1 := by
  obtain ⟨h1, h2⟩ := lay_ints ns
  unfold dI
  exact ⟨by simp only [PyData.canLay0, h1], by simp only [PyData.depth, h2]; exact Nat.le_refl _⟩
theorem das_ints {ok : Addr → Prop} {H : Hp} : ∀ ns : List Int, DAs K ok H (ns.map V.int) (ns.map .int)
  | [] => .nil
  | n :: ns => .cons (.int n) (das_ints ns)
theorem daI {ok : Addr → Prop} {H : Hp} {a : Addr} {ns : List Int} (n : ok a) (h : SqL K H a (ns.map V.int)) : DA K ok H (.ref a) (dI ns) := .lst n h (das_ints ns)
theorem eqv_ints : ∀ a b : List Int, PyData.eqvAll (a.map .int) (b.map .int) = decide (a = b)
  | [], [] => rfl
  | [], b :: bs => rfl
  | a :: as, [] => rfl
  | a :: as, b :: bs => by
    rw [map_cons, map_cons]
    simp only [PyData.eqvAll, PyData.eqv, eqv_ints as bs]
    by_cases h : a = b
    · subst h
      by_cases h2 : as = bs
      · subst h2; simp
      · simp [h2]
    · simp [h]
theorem eqv_dI (a b : List Int) : PyData.eqv (dI a) (dI b) = decide (a = b) := by
  unfold dI
  simp only [PyData.eqv]
  exact eqv_ints a b
end
section
variable {P : Program} {w : World} {K : Frag} {mg : Str → Option Value} {base : Heap}
theorem ix_listK {K : Frag} {X : Cx} (h : X.K = K := by rfl) : IxR X (rIxL K) := by subst h; exact ix_list
theorem at_ref {rs : List Addr} {j : Nat} {r : Addr} (h : rs[j]? = some r) : atI (rs.map V.ref) (j : Int) = some (.ref r) := atI_nat (by rw [getElem?_map, h]; rfl)
theorem getD_some {α : Type} {xs : List α} {j : Nat} {x d : α} (h : xs[j]? = some x) : xs.getD j d = x := by rw [getD_eq_getElem?_getD, h]; rfl
theorem snoc_get {α : Type} {xs : List α} {x y : α} {i : Nat} (h : (xs ++ [x])[i]? = some y) : xs[i]? = some y ∨ (i = xs.length ∧ y = x) := by
  by_cases hi : i < xs.length
  · rw [getElem?_append_left hi] at h
    exact .inl h
  · rw [getElem?_append_right (by omega)] at h
    cases e : i - xs.length with
    | zero => rw [e] at h; cases h; exact .inr ⟨by omega, rfl⟩
    | succ j => rw [e] at h; cases h
theorem get_lt {α : Type} {l : List α} {i : Nat} (h : i < l.length) : ∃ x, l[i]? = some x := ⟨l[i], getElem?_eq_getElem h⟩
theorem lt_get {α : Type} {l : List α} {i : Nat} {x : α} (h : l[i]? = some x) : i < l.length := (List.getElem?_eq_some_iff.mp h).1
theorem cmul_l {x y : Int} (h1 : -(2 ^ 64) < x) (h2 : x < 2 ^ 64) : CMul x y := .inl ⟨h1, h2⟩
theorem cmul_r {x y : Int} (h1 : -(2 ^ 64) < y) (h2 : y < 2 ^ 64) : CMul x y := .inr ⟨h1, h2⟩
structure BltR (mg : Str → Option Value) : Prop where
  abs : mg "abs" = none
  len : mg "len" = none
  sum : mg "sum" = none
  zip : mg "zip" = none
  range : mg "range" = none
  enum : mg "enumerate" = none
  isi : mg "isinstance" = none
  verr : mg "ValueError" = none
  int : mg "int" = none
  bool : mg "bool" = none
  list : mg "list" = none
  tuple : mg "tuple" = none
def CMulN (i j : Int) : Prop := ∃ n, n ≤ 1000000 ∧ M11.Bn n i ∧ M11.Bn n j
theorem op_mulN {X : Cx} : OpR X (binaryOp .Mult) (rI CMulN fun i j => .int (i * j)) :=
  opI fun _ _ _ _ _ _ _ hc q => mul_int q (by
    obtain ⟨n, h, a, b⟩ := hc
    have e : (2 : Nat) ^ 20 = 1048576 := by decide
    exact IntMulOk.of_bits (Nat.le_trans (bits_le a) (by omega)) (Nat.le_trans (bits_le b) (by omega)))
def tupF (l : Int × Int) : HO := .tup [.int l.1, .int l.2]
def spG : Sp := fun vs H Q _ => ∃ a b : Int, vs = [.int a, .int b] ∧ Q (.int (M11.G a b)) H
theorem scGd : FnScope ["number", "other", "rest"] ["number", "other"] (defScope sGd) := ⟨rfl, rfl, rfl, by decide +kernel, rfl, by decide +kernel, by decide +kernel⟩
theorem ok_gd {f : Addr} {fd : FuncData} (B : BltR mg) (F : Fun K "greatest_divisor" "greatest_divisor" sGd f fd) : FnOk P w K mg base CX0 1 f fd ["number", "other"] spG := by
  refine F.ok scGd (fun vs H Q E h => ?_) (fun cdv A outer s H vs Q E hr h => ?_)
  · obtain ⟨a, b, rfl, _⟩ := h
    rfl
  · obtain ⟨a, b, rfl, k⟩ := h
    refine ⟨_, pss_cons (ps_while PassesOwn.never (pt_cmpR op_ne (pv 1) pe_int (nomark _))
        (pss_cons (ps_set (i := 2) scGd.nd rfl (Or.inl rfl) (pe_op op_modN (pv 0) (pv 1)))
        (pss_cons (ps_set (i := 0) scGd.nd rfl (Or.inl rfl) (pv 1))
        (pss_one (ps_set (i := 1) scGd.nd rfl (Or.inl rfl) (pv 2))))))
      (pss_one (ps_ret (pe_callB call_abs (by rfl) B.abs boot_abs (pa_cons (pv 0) pa_nil)))), ?_⟩
    refine while_by (fun σ H' => ∃ (x y : Int) (r : Option V), σ = [some (.int x), some (.int y), r] ∧ H' = H ∧ Int.gcd x y = Int.gcd a b)
      (fun σ _ => match σ with | [_, some (.int y), _] => y.natAbs | _ => 0) ⟨a, b, none, rfl, rfl, rfl⟩ ?_ ?_
    · rintro σ H' ⟨x, y, r, rfl, rfl, hg⟩
      refine ⟨_, rfl, rfl, _, rfl, ?_⟩
      by_cases hy : y = 0
      · subst hy
        refine iteNS rfl ?_
        refine ⟨_, rfl, x, rfl, ?_⟩
        have e : (if x < 0 then -x else x) = M11.G a b := by
          rw [M11.gcd_end]
          show ((Int.gcd x 0 : Nat) : Int) = ((Int.gcd a b : Nat) : Int)
          rw [hg]
        rw [e]
        exact k
      · refine iteNP (fun z => hy (V.int.inj z)) ?_
        refine ⟨_, rfl, _, rfl, x, y, rfl, rfl, hy, _, rfl, _, rfl, ?_⟩
        exact ⟨⟨y, x.fmod y, _, rfl, rfl, by rw [M11.gcd_step]; exact hg⟩, M11.fmod_small x y hy⟩
    · rintro σ H' Q1 Q2 hq ⟨v, e, sc, c, ec, q⟩
      exact ⟨v, e, sc, c, ec, hq _ _ q⟩
theorem cut_behind (pre ks : List V) : cutV (pre ++ ks) (some ((pre.length : Nat) : Int)) none = ks := by
  unfold cutV
  rw [HT.sIx_nat, HT.sIx_none, length_append, Nat.min_eq_left (by omega), List.drop_left]
  exact List.take_of_length_le (by omega)
theorem at_hd (x : V) (xs : List V) : atI (x :: xs) 0 = some x := atI_nat (xs := x :: xs) (j := 0) rfl
theorem at_snd (x y : V) (xs : List V) : atI (x :: y :: xs) 1 = some y := atI_nat (xs := x :: y :: xs) (j := 1) rfl
theorem lc_vals {a : Addr} {xs : List V} {te : TE} {Q : Hp → Prop} {σ : L2.St} {H1 : Hp} {D : Addr} (vs : List V) (hlen : vs.length = xs.length) (hm : xs.length ≤ 900) (hD : H1 D = none) (hxs : SqL K H1 a xs)
    (hs : ∀ (i : Nat) (x v : V) (H' : Hp), xs[i]? = some x → vs[i]? = some v → Same H1 H' → te (σ ++ [some x]) H' fun u H3 => u = v ∧ Same H' H3)
    (hd : ∀ H', Same H1 H' → H' D = some (.lst vs) → Q H')
    (mono : ∀ σ H Q Q', (∀ v H1, Q v H1 → Q' v H1) → te σ H Q → te σ H Q') :
    ∃ W : Nat → Nat → List V → Hp → Prop, (∃ m, W 0 m [] (upd H1 D (.lst []))) ∧
      ∀ i m ys H', W i m ys H' → H' D = some (.lst ys) ∧ (((Itl K a).stop i H' ∧ Q H') ∨ ((Itl K a).go i H' ∧ ∀ z H2, (Itl K a).yld i H' z H2 → te (σ ++ [some z]) H2 fun v H3 => H3 D = some (.lst ys) ∧ ys.length < sizeLine ∧ ∃ m', m' < m ∧ W (i + 1) m' (ys ++ [v]) (upd H3 D (.lst (ys ++ [v]))))) := by
  refine lc_list (xs := xs) (fun i ys H' => ys = vs.take i ∧ Same H1 H' ∧ H' D = some (.lst ys)) ⟨by rw [take_zero], Same.upd hD, upd_same⟩ (fun i ys H' _ ⟨_, sm, eD⟩ => ⟨Same.sq sm hxs, eD⟩) ?_ ?_ mono
  · rintro i x ys H4 hx ⟨rfl, s4, eD⟩
    have hi : i < vs.length := by rw [hlen]; exact (List.getElem?_eq_some_iff.mp hx).1
    have hv : vs[i]? = some vs[i] := getElem?_eq_getElem hi
    refine mono _ _ _ _ ?_ (hs i x vs[i] H4 hx hv s4)
    rintro u H5 ⟨rfl, s5⟩
    refine ⟨s5 _ _ eD, small1000 (by rw [length_take]; omega), by rw [take_snoc hv], fun b o e => ?_, upd_same⟩
    rw [upd_ne (ne_of_none e hD)]
    exact s5 _ _ (s4 _ _ e)
  · rintro ys H4 ⟨rfl, s4, eD⟩
    rw [← hlen, take_length] at eD
    exact hd H4 s4 eD
theorem set2 (σ : L2.St) (a b : Option V) (x y : V) : ((σ ++ [a, b]).set σ.length (some x)).set (σ.length + 1) (some y) = σ ++ [some x, some y] := by
  rw [List.set_append_right _ _ (Nat.le_refl _), Nat.sub_self, List.set_append_right _ _ (Nat.le_succ _)]
  have : σ.length + 1 - σ.length = 1 := by omega
  rw [this]
  rfl
theorem lc_zip {a b : Addr} {xs ys : List V} {te : TE} {Q : VK} {σ : L2.St} {n : Nat} {H1 : Hp} (vs : List V) (hn : σ.length = n) (hx : SqL K H1 a xs) (hy : SqL K H1 b ys) (hlx : xs.length = vs.length) (hly : ys.length = vs.length) (hm : vs.length ≤ 900)
    (hs : ∀ (i : Nat) (x y v : V) (H' : Hp), xs[i]? = some x → ys[i]? = some y → vs[i]? = some v → Same H1 H' → te (σ ++ [some x, some y]) H' fun u H3 => u = v ∧ Same H' H3)
    (hd : ∀ D H', Same H1 H' → H' D = some (.lst vs) → Q (.ref D) H')
    (mono : ∀ σ H Q Q', (∀ v H1, Q v H1 → Q' v H1) → te σ H Q → te σ H Q') : LcW 2 (Itz K a b) (g2 K n) tYes te σ H1 Q := by
  subst hn
  intro D hD
  refine ⟨fun i m zs H' => m = vs.length - i ∧ i ≤ vs.length ∧ zs = vs.take i ∧ Same H1 H' ∧ H' D = some (.lst zs), ⟨vs.length, by simp, Nat.zero_le _, by rw [take_zero], Same.upd hD, upd_same⟩, ?_⟩
  rintro i m zs H2 ⟨rfl, hi, rfl, s2, eD⟩
  refine ⟨eD, ?_⟩
  by_cases hlt : i < vs.length
  · have ex : xs[i]? = some xs[i] := getElem?_eq_getElem (by omega)
    have ey : ys[i]? = some ys[i] := getElem?_eq_getElem (by omega)
    have ev : vs[i]? = some vs[i] := getElem?_eq_getElem hlt
    refine .inr ⟨⟨xs, ys, _, _, Same.sq s2 hx, Same.sq s2 hy, ex, ey⟩, ?_⟩
    rintro z H3 ⟨t, x, y, rfl, ht, rfl, hx', hy'⟩ os los
    have hx1 := hx' xs (Same.sq s2 hx)
    have hy1 := hy' ys (Same.sq s2 hy)
    match os, los with
    | [o1, o2], _ =>
      have s3 : Same H2 (upd H2 t (.tup [x, y])) := Same.upd ht
      refine ⟨t, [x, y], rfl, SqT.of upd_same, rfl, x, [y], rfl, y, [], rfl, rfl, ⟨[some x, some y], set2 σ o1 o2 x y, rfl⟩, ?_⟩
      dsimp only [tYes]
      rw [if_pos rfl, set2 σ o1 o2 x y]
      refine mono _ _ _ _ ?_ (hs i x y vs[i] _ hx1 hy1 ev (s2.trans s3))
      rintro u H5 ⟨rfl, s5⟩
      refine ⟨s5 _ _ (s3 _ _ eD), small1000 (by rw [length_take]; omega), vs.length - (i + 1), by omega, rfl, hlt, by rw [take_snoc ev], fun c o e => ?_, upd_same⟩
      rw [upd_ne (ne_of_none e hD)]
      exact s5 _ _ (s3 _ _ (s2 _ _ e))
  · have : i = vs.length := by omega
    subst this
    rw [take_length] at eD ⊢
    exact .inl ⟨⟨xs, ys, Same.sq s2 hx, Same.sq s2 hy, .inl (by omega)⟩, hd D H2 s2 eD⟩
theorem foldG_app (b : Int) (a c : List Int) : M11.foldG b (a ++ c) = M11.foldG (M11.foldG b a) c := by
  unfold M11.foldG
  rw [foldl_append]
theorem foldG_le {b : Int} (h : 0 < b) (ts : List Int) : (M11.foldG b ts).natAbs ≤ b.natAbs := by
  obtain ⟨h1, h2, _⟩ := M11.foldG_spec ts b h
  have := Int.le_of_dvd h h2
  omega
structure GrdV (H : Hp) (rs : List Addr) (X : List (List V)) : Prop where
  len : rs.length = X.length
  row : ∀ (i : Nat) (r : Addr) (x : List V), rs[i]? = some r → X[i]? = some x → H r = some (.lst x)
theorem GrdV.mono {H H' : Hp} {rs : List Addr} {X : List (List V)} (g : GrdV H rs X) (s : Same H H') : GrdV H' rs X := ⟨g.len, fun i r x h1 h2 => s _ _ (g.row i r x h1 h2)⟩
def GrdAt (H : Hp) (a : Addr) (X : List (List V)) : Prop := ∃ rs : List Addr, H a = some (.lst (rs.map V.ref)) ∧ GrdV H rs X
theorem GrdAt.mono {H H' : Hp} {a : Addr} {X : List (List V)} (g : GrdAt H a X) (s : Same H H') : GrdAt H' a X := by
  obtain ⟨rs, h, r⟩ := g
  exact ⟨rs, s _ _ h, r.mono s⟩
def NewR (H H' : Hp) (u : V) (x : List V) : Prop := ∃ p, u = .ref p ∧ H' p = some (.lst x) ∧ H p = none
def GrdI (H1 : Hp) (D : Addr) (X : List (List V)) (i : Nat) (ys : List V) (H' : Hp) : Prop := ∃ rs : List Addr, ys = rs.map V.ref ∧ rs.length = i ∧ Same H1 H' ∧ H' D = some (.lst ys) ∧ (∀ r ∈ rs, r ≠ D) ∧ ∀ (j : Nat) (r : Addr) (x : List V), rs[j]? = some r → X[j]? = some x → H' r = some (.lst x)
theorem GrdI.start {H1 : Hp} {D : Addr} {X : List (List V)} (hD : H1 D = none) : GrdI H1 D X 0 [] (upd H1 D (.lst [])) := ⟨[], rfl, rfl, Same.upd hD, upd_same, (fun r h => by cases h), (fun j r x h _ => by cases h)⟩
theorem GrdI.step {H1 H4 H5 : Hp} {D : Addr} {X : List (List V)} {i : Nat} {ys : List V} {u : V} {x : List V} (hD : H1 D = none) (g : GrdI H1 D X i ys H4) (hx : X[i]? = some x) (hu : NewR H4 H5 u x) (s5 : Same H4 H5) (hm : i < 900) :
    H5 D = some (.lst ys) ∧ ys.length < sizeLine ∧ GrdI H1 D X (i + 1) (ys ++ [u]) (upd H5 D (.lst (ys ++ [u]))) := by
  obtain ⟨rs, rfl, lr, s4, eD, nD, hr⟩ := g
  obtain ⟨p, rfl, hp, hn⟩ := hu
  have npD : p ≠ D := fun z => by rw [z, eD] at hn; cases hn
  refine ⟨s5 _ _ eD, small1000 (by rw [length_map]; omega), rs ++ [p], by rw [map_append]; rfl, by rw [length_append, lr]; rfl, fun b o e => ?_, upd_same, fun r h => ?_, fun j r y h1 h2 => ?_⟩
  · rw [upd_ne (ne_of_none e hD)]
    exact s5 _ _ (s4 _ _ e)
  · rcases mem_append.mp h with z | z
    · exact nD r z
    · rw [mem_singleton.mp z]; exact npD
  · rcases snoc_get h1 with z | ⟨e, z⟩
    · rw [upd_ne (nD r (mem_of_getElem? z))]
      exact s5 _ _ (hr j r y z h2)
    · subst z
      rw [e, lr, hx] at h2
      cases h2
      rw [upd_ne npD]
      exact hp
theorem GrdI.done {H1 H' : Hp} {D : Addr} {X : List (List V)} {ys : List V} (g : GrdI H1 D X X.length ys H') : Same H1 H' ∧ GrdAt H' D X := by
  obtain ⟨rs, rfl, lr, s4, eD, nD, hr⟩ := g
  exact ⟨s4, rs, eD, lr, hr⟩
def spCol : Sp := fun vs H Q _ => ∃ (a : Addr) (X : List (List V)) (j : Nat), vs = [.ref a, .int (j : Int)] ∧ GrdAt H a X ∧ X.length ≤ 900 ∧ (∀ x ∈ X, j < x.length) ∧ ∀ D H', Same H H' → H D = none → H' D = some (.lst (X.map fun x => (x[j]?).getD .non)) → Q (.ref D) H'
theorem scCol : FnScope ["rows", "place"] ["rows", "place"] (defScope sCol) := ⟨rfl, rfl, rfl, by decide +kernel, rfl, by decide +kernel, by decide +kernel⟩
theorem lcCol : LcScopes (defScope sCol) ["rows", "place"] (lcScope (asgVal (bodyAt sCol 0))) ["row"] := ⟨by decide +kernel, rfl, by decide +kernel, by decide +kernel, by decide +kernel, by decide +kernel, by decide +kernel, by decide +kernel, by decide +kernel, by decide +kernel⟩
theorem ok_col {f : Addr} {fd : FuncData} (F : Fun K "column_of" "column_of" sCol f fd) : FnOk P w K mg base CX0 1 f fd ["rows", "place"] spCol := by
  refine F.ok scCol (fun vs H Q E h => ?_) (fun cdv A outer s H vs Q E hr h => ?_)
  · obtain ⟨a, X, j, rfl, _⟩ := h
    rfl
  · obtain ⟨a, X, j, rfl, ⟨rs, ha, R⟩, hX, hj, q⟩ := h
    refine ⟨_, pss_one (ps_ret (pe_lc1 rfl lcCol rfl (pi_list (pv 0)) (fun _ _ _ => pe_ix (ix_listK (K := K)) (pv 2) (pv 1) (fun _ _ => rfl)))), ?_⟩
    refine ⟨_, rfl, a, rfl, ⟨_, SqL.of ha⟩, fun D hD => ?_⟩
    refine lc_vals (X.map fun x => (x[j]?).getD .non) (by rw [length_map, length_map, R.len]) (by rw [length_map, R.len]; exact hX) hD (SqL.of ha) ?_ ?_ ?_
    · intro i x v H' hx hv s'
      obtain ⟨r, hr, rfl⟩ := map_get hx
      obtain ⟨y, hy, rfl⟩ := map_get hv
      obtain ⟨z, hz⟩ := get_lt (hj y (mem_of_getElem? hy))
      refine ⟨_, rfl, _, rfl, r, _, _, z, rfl, rfl, SqL.of (s' _ _ (R.row i r y hr hy)), atI_nat hz, ?_, Same.refl _⟩
      rw [hz]
      rfl
    · intro H' s' eD
      exact q D H' s' hD eD
    · rintro σ H' Q1 Q2 hq ⟨v, e, v', e', a1, a2, a3, a4, a5, a6, a7, a8, g⟩
      exact ⟨v, e, v', e', a1, a2, a3, a4, a5, a6, a7, a8, hq _ _ g⟩
def colsV (X : List (List V)) (n : Nat) : List (List V) := (List.range n).map fun j => X.map fun x => (x[j]?).getD .non
def spCols : Sp := fun vs H Q _ => ∃ (a : Addr) (X : List (List V)) (n : Nat), vs = [.ref a] ∧ GrdAt H a X ∧ X.length ≤ 900 ∧ n ≤ 900 ∧ (∀ x ∈ X, x.length = n) ∧ (X = [] → n = 0) ∧ ∀ D H', Same H H' → H D = none → GrdAt H' D (colsV X n) → Q (.ref D) H'
theorem scCols : FnScope ["rows", "width"] ["rows"] (defScope sCols) := ⟨rfl, rfl, rfl, by decide +kernel, rfl, by decide +kernel, by decide +kernel⟩
theorem lcCols : LcScopes (defScope sCols) ["rows", "width"] (lcScope (asgVal (bodyAt sCols 1))) ["place"] := ⟨by decide +kernel, rfl, by decide +kernel, by decide +kernel, by decide +kernel, by decide +kernel, by decide +kernel, by decide +kernel, by decide +kernel, by decide +kernel⟩
theorem ok_cols {f fC : Addr} {fd fdC : FuncData} (B : BltR mg) (F : Fun K "columns_of" "columns_of" sCols f fd) (DC : Dn K mg "column_of" sCol ["rows", "place"] fC fdC) (GC : FnOk P w K mg base CX0 1 fC fdC ["rows", "place"] spCol) : FnOk P w K mg base CX0 2 f fd ["rows"] spCols := by
  refine F.ok scCols (fun vs H Q E h => ?_) (fun cdv A outer s H vs Q E hr h => ?_)
  · obtain ⟨a, X, n, rfl, _⟩ := h
    rfl
  · obtain ⟨a, X, n, rfl, ⟨rs, ha, R⟩, hX, hn, hw, h0, q⟩ := h
    refine ⟨_, pss_mid (ps_set (i := 1) scCols.nd rfl (Or.inl rfl) (pe_ifExp (pt_truth (pv 0) (fun _ => rfl)) (pe_callB call_len_seq (by rfl) B.len boot_len (pa_cons (pe_ix ix_list (pv 0) pe_int (fun _ _ => rfl)) pa_nil)) pe_int))
      (pss_one (ps_ret (pe_lc1 rfl lcCols rfl (pi_range1 rfl B.range (pa_cons (pv 1) pa_nil)) (fun _ _ _ => pe_fn DC GC hr rfl (pa_cons (pv 0) (pa_cons (pv 2) pa_nil)))))), ?_⟩
    refine ⟨fun σ H1 => σ = [some (.ref a), some (.int (n : Int))] ∧ H1 = H, ?_, ?_⟩
    · refine ⟨_, rfl, !(rs.map V.ref).isEmpty, .inl ⟨_, SqL.of ha, rfl⟩, ?_⟩
      have lr := R.len
      match rs, X, lr with
      | [], [], _ =>
        refine iteF ⟨?_, rfl⟩
        rw [h0 rfl]
        rfl
      | r :: rs, x :: X, _ =>
        refine iteT ?_
        refine ⟨_, rfl, a, _, _, .ref r, rfl, rfl, SqL.of ha, atI_nat (j := 0) rfl, r, _, rfl, .inl (SqL.of (R.row 0 r x rfl rfl)), ?_, rfl⟩
        rw [hw x mem_cons_self]
        rfl
    · rintro σ H1 ⟨rfl, rfl⟩
      refine ⟨_, rfl, (n : Int), rfl, by omega, by omega, fun D hD => ?_⟩
      rw [Int.toNat_natCast]
      have lc : (colsV X n).length = n := by unfold colsV; rw [length_map, length_range]
      refine lc_range (n := n) (GrdI H1 D (colsV X n)) (GrdI.start hD) (fun i ys H' _ ⟨_, _, _, _, eD, _⟩ => eD) ?_ ?_ ?_
      · rintro i ys H' hi g
        have e0 : ((0 : Int) + (i : Nat)) = (i : Int) := by omega
        rw [e0]
        have s' : Same H1 H' := let ⟨_, _, _, z, _⟩ := g; z
        refine ⟨_, rfl, _, rfl, a, X, i, rfl, ⟨rs, s' _ _ ha, R.mono s'⟩, hX, fun x hx => by rw [hw x hx]; exact hi, fun p H3 s3 np ep => ?_⟩
        refine g.step hD ?_ ⟨p, rfl, ep, np⟩ s3 (by omega)
        unfold colsV
        rw [getElem?_map, getElem?_range hi]
        rfl
      · intro ys H' g
        obtain ⟨s', gg⟩ := GrdI.done (X := colsV X n) (by rw [lc]; exact g)
        exact q D H' s' hD gg
      · rintro σ H' Q1 Q2 hq ⟨v, e, v', e', a1, a2, a3, a4, a5, a6, a7, g⟩
        exact ⟨v, e, v', e', a1, a2, a3, a4, a5, a6, a7, fun D H3 s3 n3 e3 => hq _ _ (g D H3 s3 n3 e3)⟩
def spInOne : Sp := fun vs H Q _ => ∃ (a : Addr) (X : List (List V)), vs = [.ref a] ∧ GrdAt H a X ∧ X.flatten.length ≤ 900 ∧ ∀ D H', Same H H' → H D = none → H' D = some (.lst X.flatten) → Q (.ref D) H'
theorem scInOne : FnScope ["rows", "things", "row"] ["rows"] (defScope sInOne) := ⟨rfl, rfl, rfl, by decide +kernel, rfl, by decide +kernel, by decide +kernel⟩
theorem flat_take {X : List (List V)} {i : Nat} {x : List V} (h : X[i]? = some x) : (X.take (i + 1)).flatten = (X.take i).flatten ++ x := by
  rw [take_snoc h, List.flatten_append]
  simp
theorem flat_le (X : List (List V)) (i : Nat) : (X.take i).flatten.length ≤ X.flatten.length := by
  have := congrArg (fun l => (List.flatten l).length) (take_append_drop i X)
  simp only [List.flatten_append, length_append] at this
  omega
theorem ok_inOne {f : Addr} {fd : FuncData} (F : Fun K "in_one_list" "in_one_list" sInOne f fd) : FnOk P w K mg base CX0 1 f fd ["rows"] spInOne := by
  refine F.ok scInOne (fun vs H Q E h => ?_) (fun cdv A outer s H vs Q E hr h => ?_)
  · obtain ⟨a, X, rfl, _⟩ := h
    rfl
  · obtain ⟨a, X, rfl, ⟨rs, ha, R⟩, hX, q⟩ := h
    refine ⟨_, pss_cons (ps_set (i := 1) scInOne.nd rfl (Or.inl rfl) (pe_lst pa_nil))
      (pss_cons (ps_for PassesOwn.never rfl (pi_list (pv 0)) (pg_name (i := 2) scInOne.nd rfl (Or.inl rfl))
        (pss_one (ps_expr (pe_bm plainAttrs_list slot_list_extend type_list_extend mt_extend (pv 1) (pa_cons (pv 2) pa_nil)))))
      (pss_one (ps_ret (pv 1)))), ?_⟩
    refine ⟨Nat.zero_le _, fun D hD => ?_⟩
    have aD : a ≠ D := ne_of_none ha hD
    refine ⟨_, rfl, a, rfl, ⟨_, SqL.of (by rw [upd_ne aD]; exact ha)⟩, for_list (xs := rs.map V.ref) (fun i σ H' => ∃ (o2 : Option V), σ = [some (.ref a), some (.ref D), o2] ∧ Same H H' ∧ H' D = some (.lst (X.take i).flatten)) ⟨none, rfl, Same.upd hD, by rw [upd_same]; rfl⟩ (fun i σ H' _ ⟨_, _, s', _⟩ => SqL.of (s' _ _ ha)) ?_ ?_⟩
    · rintro i x σ H1 hx ⟨o2, rfl, s1, e1⟩
      obtain ⟨r, hr, rfl⟩ := map_get hx
      obtain ⟨y, hy⟩ := get_lt (l := X) (i := i) (by rw [← R.len]; exact lt_get hr)
      have er := s1 _ _ (R.row i r y hr hy)
      have fl := flat_le X (i + 1)
      rw [flat_take hy, length_append] at fl
      refine ⟨_, rfl, .inl ⟨rfl, _, SqL.of e1⟩, _, rfl, ?_⟩
      refine ⟨D, r, _, _, rfl, rfl, e1, er, Nat.le_of_lt (small1000 (by omega)), ?_⟩
      refine ⟨_, rfl, fun b o e => ?_, ?_⟩
      · rw [upd_ne (ne_of_none e hD)]
        exact s1 _ _ e
      · rw [upd_same, flat_take hy]
    · rintro σ H1 ⟨o2, rfl, s1, e1⟩
      rw [length_map, R.len, take_length] at e1
      exact ⟨_, rfl, q D H1 s1 hD e1⟩
def squareV (xs : List V) (n : Nat) : List (List V) := (List.range n).map fun i => (xs.drop (n * i)).take n
def spInSq (K : Frag) : Sp := fun vs H Q _ => ∃ (a : Addr) (xs : List V) (n : Nat), vs = [.ref a, .int (n : Int)] ∧ SqL K H a xs ∧ xs.length = n * n ∧ n ≤ 16 ∧ ∀ D H', Same H H' → H D = none → GrdAt H' D (squareV xs n) → Q (.ref D) H'
theorem scInSq : FnScope ["things", "size"] ["things", "size"] (defScope sInSq) := ⟨rfl, rfl, rfl, by decide +kernel, rfl, by decide +kernel, by decide +kernel⟩
theorem lcInSq : LcScopes (defScope sInSq) ["things", "size"] (lcScope (asgVal (bodyAt sInSq 0))) ["place"] := ⟨by decide +kernel, rfl, by decide +kernel, by decide +kernel, by decide +kernel, by decide +kernel, by decide +kernel, by decide +kernel, by decide +kernel, by decide +kernel⟩
theorem cut_sq {xs : List V} {n i : Nat} (hx : xs.length = n * n) (hi : i < n) : cutV xs (some ((n : Int) * (i : Int))) (some ((n : Int) * ((i : Int) + 1))) = (xs.drop (n * i)).take n := by
  have h1 : n * (i + 1) ≤ n * n := Nat.mul_le_mul_left n hi
  have e1 : (n : Int) * (i : Int) = ((n * i : Nat) : Int) := by push_cast; rfl
  have e2 : (n : Int) * ((i : Int) + 1) = ((n * (i + 1) : Nat) : Int) := by push_cast; rfl
  have h2 : n * (i + 1) = n * i + n := Nat.mul_succ n i
  unfold cutV
  rw [e1, e2, HT.sIx_nat, HT.sIx_nat, hx, Nat.min_eq_left h1, Nat.min_eq_left (show n * i ≤ n * n by omega)]
  congr 1
  omega
theorem sl_listK {X : Cx} (h : X.K = K := by rfl) : SlR X (rSlL K) := by subst h; exact sl_list
theorem ok_inSq {f : Addr} {fd : FuncData} (B : BltR mg) (F : Fun K "in_square" "in_square" sInSq f fd) : FnOk P w K mg base CX0 1 f fd ["things", "size"] (spInSq K) := by
  refine F.ok scInSq (fun vs H Q E h => ?_) (fun cdv A outer s H vs Q E hr h => ?_)
  · obtain ⟨a, xs, n, rfl, _⟩ := h
    rfl
  · obtain ⟨a, xs, n, rfl, ha, hx, hn, q⟩ := h
    refine ⟨_, pss_one (ps_ret (pe_lc1 rfl lcInSq rfl (pi_range1 rfl B.range (pa_cons (pv 1) pa_nil)) (fun _ _ _ => pe_slice (sl_listK (K := K)) (pv 0) (po_some (pe_op op_mul (pv 1) (pv 2))) (po_some (pe_op op_mul (pv 1) (pe_op op_add (pv 2) pe_int)))))), ?_⟩
    refine ⟨_, rfl, (n : Int), rfl, by omega, by omega, fun D hD => ?_⟩
    rw [Int.toNat_natCast]
    have lc : (squareV xs n).length = n := by unfold squareV; rw [length_map, length_range]
    refine lc_range (n := n) (GrdI H D (squareV xs n)) (GrdI.start hD) (fun i ys H' _ ⟨_, _, _, _, eD, _⟩ => eD) ?_ ?_ ?_
    · rintro i ys H' hi g
      have e0 : ((0 : Int) + (i : Nat)) = (i : Int) := by omega
      rw [e0]
      have s' : Same H H' := let ⟨_, _, _, z, _⟩ := g; z
      refine ⟨_, rfl, _, rfl, _, rfl, _, _, rfl, rfl, cmul_l (by omega) (by omega), _, rfl, _, rfl, _, rfl, _, _, rfl, rfl, _, _, rfl, rfl, cmul_l (by omega) (by omega), _, rfl, a, xs, rfl, s'.seq ha, fun p hp => ?_⟩
      have st := g.step (u := .ref p) (x := (xs.drop (n * i)).take n) hD (by unfold squareV; rw [getElem?_map, getElem?_range hi]; rfl) ⟨p, rfl, upd_same, hp⟩ (Same.upd hp) (by omega)
      rw [← cut_sq hx hi] at st
      exact st
    · intro ys H' g
      obtain ⟨s', gg⟩ := GrdI.done (X := squareV xs n) (by rw [lc]; exact g)
      exact q D H' s' hD gg
    · rintro σ H' Q1 Q2 hq ⟨v1, e1, v2, e2, v3, e3, i1, j1, f1, f2, c1, l1, e4, v5, e5, v6, e6, i2, j2, f3, f4, i3, j3, f5, f6, c2, h1, e7, a1, x1, e8, q1, g⟩
      exact ⟨v1, e1, v2, e2, v3, e3, i1, j1, f1, f2, c1, l1, e4, v5, e5, v6, e6, i2, j2, f3, f4, i3, j3, f5, f6, c2, h1, e7, a1, x1, e8, q1, fun p hp => hq _ _ (g p hp)⟩
def gI (M : List (List Int)) : List (List V) := M.map fun x => x.map V.int
theorem gI_get {M : List (List Int)} {i : Nat} {x : List Int} (h : M[i]? = some x) : (gI M)[i]? = some (x.map V.int) := by unfold gI; rw [getElem?_map, h]; rfl
theorem gI_len (M : List (List Int)) : (gI M).length = M.length := by unfold gI; rw [length_map]
open TM in
def spDot : Sp := fun vs H Q _ => ∃ (a b : Addr) (ws rs : List Int) (n : Nat), vs = [.ref a, .ref b] ∧ H a = some (.lst (ws.map V.int)) ∧ H b = some (.lst (rs.map V.int)) ∧ ws.length = rs.length ∧ ws.length ≤ 900 ∧ n ≤ 1000000 ∧ (∀ x ∈ ws, M11.Bn n x) ∧ (∀ x ∈ rs, M11.Bn n x) ∧ ∀ H', Same H H' → Q (.int (dot ws rs)) H'
theorem scDot : FnScope ["numbers", "others"] ["numbers", "others"] (defScope sDot) := ⟨rfl, rfl, rfl, by decide +kernel, rfl, by decide +kernel, by decide +kernel⟩
def argAt (e : Expr) (i : Nat) : Expr := match e with
  | .Call _ es _ _ => es.getD i (.Constant .none 0 ⟨0, 0, 0, 0⟩)
  | .BinOp _ _ b _ => b
  | _ => .Constant .none 0 ⟨0, 0, 0, 0⟩
theorem lcDot : LcScopes (defScope sDot) ["numbers", "others"] (lcScope (argAt (asgVal (bodyAt sDot 0)) 0)) ["number", "other"] := ⟨by decide +kernel, rfl, by decide +kernel, by decide +kernel, by decide +kernel, by decide +kernel, by decide +kernel, by decide +kernel, by decide +kernel, by decide +kernel⟩
theorem boot_sum : bootBuiltins "sum" = some (.builtin "sum") := by decide +kernel
theorem zip_get {f : Int → Int → Int} {a b : List Int} {i : Nat} {x y : Int} (hx : a[i]? = some x) (hy : b[i]? = some y) : (List.zipWith f a b)[i]? = some (f x y) := by
  rw [List.getElem?_zipWith, hx, hy]
theorem ok_dot {f : Addr} {fd : FuncData} (B : BltR mg) (F : Fun K "sum_of_products" "sum_of_products" sDot f fd) : FnOk P w K mg base CX0 1 f fd ["numbers", "others"] spDot := by
  refine F.ok scDot (fun vs H Q E h => ?_) (fun cdv A outer s H vs Q E hr h => ?_)
  · obtain ⟨a, b, ws, rs, n, rfl, _⟩ := h
    rfl
  · obtain ⟨a, b, ws, rs, n, rfl, ha, hb, hl, hm, hn, hw, hr', q⟩ := h
    refine ⟨_, pss_one (ps_ret (pe_callB (call_sum rfl) (by rfl) B.sum boot_sum (pa_cons (pe_lcs rfl lcDot rfl (pi_zip rfl B.zip (pa_cons (pv 0) (pa_cons (pv 1) pa_nil))) (pg_two rfl lcDot) (fun _ _ _ => pts_nil) (fun _ _ _ => pe_op op_mulN (pv 2) (pv 3))) pa_nil))), ?_⟩
    refine ⟨_, rfl, _, rfl, a, b, rfl, ⟨_, SqL.of ha⟩, ⟨_, SqL.of hb⟩, ?_⟩
    refine lc_zip ((List.zipWith (fun x y => x * y) ws rs).map V.int) rfl (SqL.of ha) (SqL.of hb) (by rw [length_map, length_map, length_zipWith]; omega) (by rw [length_map, length_map, length_zipWith]; omega) (by rw [length_map, length_zipWith]; omega) ?_ ?_ ?_
    · intro i x y v H' hx hy hv s'
      obtain ⟨x, ex, rfl⟩ := map_get hx
      obtain ⟨y, ey, rfl⟩ := map_get hy
      obtain ⟨z, ez, rfl⟩ := map_get hv
      rw [zip_get ex ey] at ez
      cases ez
      exact ⟨_, rfl, _, rfl, _, _, rfl, rfl, ⟨n, hn, hw x (mem_of_getElem? ex), hr' y (mem_of_getElem? ey)⟩, rfl, Same.refl _⟩
    · intro D H' s' eD
      exact ⟨D, _, rfl, SqL.of eD, q H' s'⟩
    · rintro σ H' Q1 Q2 hq ⟨v, e, v', e', i, j, a1, a2, a3, g⟩
      exact ⟨v, e, v', e', i, j, a1, a2, a3, hq _ _ g⟩
theorem dot_comm : ∀ a b : List Int, TM.dot a b = TM.dot b a := by
  intro a b
  unfold TM.dot
  rw [List.zipWith_comm]
  congr 1
  funext
  simp only [Int.mul_comm]
theorem scEach : FnScope ["numbers", "rows"] ["numbers", "rows"] (defScope sEach) := ⟨rfl, rfl, rfl, by decide +kernel, rfl, by decide +kernel, by decide +kernel⟩
theorem lcEach : LcScopes (defScope sEach) ["numbers", "rows"] (lcScope (asgVal (bodyAt sEach 0))) ["row"] := ⟨by decide +kernel, rfl, by decide +kernel, by decide +kernel, by decide +kernel, by decide +kernel, by decide +kernel, by decide +kernel, by decide +kernel, by decide +kernel⟩
open TM in
def spEachG : Sp := fun vs H Q _ => ∃ (a l : Addr) (M : List (List Int)) (r : List Int) (n : Nat), vs = [.ref l, .ref a] ∧ GrdAt H a (gI M) ∧ H l = some (.lst (r.map V.int)) ∧ M.length ≤ 900 ∧ r.length ≤ 900 ∧ n ≤ 1000000 ∧ (∀ x ∈ M, x.length = r.length ∧ ∀ z ∈ x, M11.Bn n z) ∧ (∀ x ∈ r, M11.Bn n x) ∧
  ∀ D H', Same H H' → H D = none → H' D = some (.lst ((M.map fun w => dot w r).map V.int)) → Q (.ref D) H'
theorem ok_eachG {f fD : Addr} {fd fdD : FuncData} (F : Fun K "sums_with_each" "sums_with_each" sEach f fd) (DD : Dn K mg "sum_of_products" sDot ["numbers", "others"] fD fdD) (GD : FnOk P w K mg base CX0 1 fD fdD ["numbers", "others"] spDot) : FnOk P w K mg base CX0 2 f fd ["numbers", "rows"] spEachG := by
  refine F.ok scEach (fun vs H Q E h => ?_) (fun cdv A outer s H vs Q E hr h => ?_)
  · obtain ⟨a, l, M, r, n, rfl, _⟩ := h
    rfl
  · obtain ⟨a, l, M, r, n, rfl, ⟨rs, ha, R⟩, hl, hM, hrl, hn, hw, hr', q⟩ := h
    have lr : rs.length = M.length := by rw [R.len, gI_len]
    refine ⟨_, pss_one (ps_ret (pe_lc1 rfl lcEach rfl (pi_list (pv 1)) (fun _ _ _ => pe_fn DD GD hr rfl (pa_cons (pv 0) (pa_cons (pv 2) pa_nil))))), ?_⟩
    refine ⟨_, rfl, a, rfl, ⟨_, SqL.of ha⟩, fun D hD => ?_⟩
    refine lc_vals ((M.map fun w => TM.dot w r).map V.int) (by rw [length_map, length_map, length_map, lr]) (by rw [length_map, lr]; omega) hD (SqL.of ha) ?_ ?_ ?_
    · intro i x v H' hx hv s'
      obtain ⟨ra, hra, rfl⟩ := map_get hx
      obtain ⟨z, hz, rfl⟩ := map_get hv
      obtain ⟨row, hrow, rfl⟩ := map_get hz
      have er := R.row i ra _ hra (gI_get hrow)
      obtain ⟨w1, w2⟩ := hw row (mem_of_getElem? hrow)
      rw [dot_comm row r]
      exact ⟨_, rfl, _, rfl, l, ra, r, row, n, rfl, s' _ _ hl, s' _ _ er, w1.symm, hrl, hn, hr', w2, fun H3 s3 => ⟨rfl, s3⟩⟩
    · intro H' s' eD
      exact q D H' s' hD eD
    · rintro σ H' Q1 Q2 hq ⟨v, e, v', e', a1, a2, a3, a4, a5, a6, a7, a8, a9, a10, a11, a12, a13, g⟩
      exact ⟨v, e, v', e', a1, a2, a3, a4, a5, a6, a7, a8, a9, a10, a11, a12, a13, fun H3 s3 => hq _ _ (g H3 s3)⟩
def colsI (N : List (List Int)) (n : Nat) : List (List Int) := (List.range n).map fun j => N.map fun x => (x[j]?).getD 0
theorem cols_gI {N : List (List Int)} {n : Nat} (h : ∀ x ∈ N, x.length = n) : colsV (gI N) n = gI (colsI N n) := by
  unfold colsV colsI
  show _ = List.map (fun x : List Int => x.map V.int) _
  rw [map_map]
  refine map_congr_left fun j hj => ?_
  show ((gI N).map fun x => (x[j]?).getD .non) = (N.map fun x => (x[j]?).getD 0).map V.int
  unfold gI
  rw [map_map, map_map]
  refine map_congr_left fun x hx => ?_
  show ((x.map V.int)[j]?).getD .non = V.int ((x[j]?).getD 0)
  obtain ⟨z, hz⟩ := get_lt (l := x) (i := j) (by rw [h x hx]; exact mem_range.mp hj)
  rw [getElem?_map, hz]
  rfl
open TM in
def prodI (M N : List (List Int)) (n : Nat) : List (List Int) := M.map fun r => (colsI N n).map fun c => dot c r
def spProd : Sp := fun vs H Q _ => ∃ (a b : Addr) (M N : List (List Int)) (n k : Nat), vs = [.ref a, .ref b] ∧ GrdAt H a (gI M) ∧ GrdAt H b (gI N) ∧ M.length ≤ 900 ∧ N.length ≤ 900 ∧ n ≤ 900 ∧ k ≤ 1000000 ∧ (∀ x ∈ M, x.length = N.length ∧ ∀ z ∈ x, M11.Bn k z) ∧ (∀ x ∈ N, x.length = n ∧ ∀ z ∈ x, M11.Bn k z) ∧ (N = [] → n = 0) ∧
  ∀ D H', Same H H' → H D = none → GrdAt H' D (gI (prodI M N n)) → Q (.ref D) H'
theorem scProd : FnScope ["rows", "others", "columns"] ["rows", "others"] (defScope sProd) := ⟨rfl, rfl, rfl, by decide +kernel, rfl, by decide +kernel, by decide +kernel⟩
theorem lcProd : LcScopes (defScope sProd) ["rows", "others", "columns"] (lcScope (asgVal (bodyAt sProd 1))) ["row"] := ⟨by decide +kernel, rfl, by decide +kernel, by decide +kernel, by decide +kernel, by decide +kernel, by decide +kernel, by decide +kernel, by decide +kernel, by decide +kernel⟩
theorem ok_prod {f fC fE : Addr} {fd fdC fdE : FuncData} (F : Fun K "product_of_grids" "product_of_grids" sProd f fd) (DC : Dn K mg "columns_of" sCols ["rows"] fC fdC) (GC : FnOk P w K mg base CX0 2 fC fdC ["rows"] spCols)
    (DE : Dn K mg "sums_with_each" sEach ["numbers", "rows"] fE fdE) (GE : FnOk P w K mg base CX0 2 fE fdE ["numbers", "rows"] spEachG) : FnOk P w K mg base CX0 3 f fd ["rows", "others"] spProd := by
  refine F.ok scProd (fun vs H Q E h => ?_) (fun cdv A outer s H vs Q E hr h => ?_)
  · obtain ⟨a, b, M, N, n, k, rfl, _⟩ := h
    rfl
  · obtain ⟨a, b, M, N, n, k, rfl, ⟨rs, ha, R⟩, gb, hM, hN, hn, hk, hm, hN', h0, q⟩ := h
    have lr : rs.length = M.length := by rw [R.len, gI_len]
    refine ⟨_, pss_cons (ps_set (i := 2) scProd.nd rfl (Or.inr rfl) (pe_fn DC GC hr rfl (pa_cons (pv 1) pa_nil)))
      (pss_one (ps_ret (pe_lc1 rfl lcProd rfl (pi_list (pv 0)) (fun _ _ _ => pe_fn DE GE hr rfl (pa_cons (pv 3) (pa_cons (pv 2) pa_nil)))))), ?_⟩
    refine ⟨_, rfl, b, gI N, n, rfl, gb, by rw [gI_len]; exact hN, hn, fun x hx => ?_, fun z => h0 ?_, fun C H1 s1 nC gC => ?_⟩
    · obtain ⟨y, hy, rfl⟩ := mem_map.mp hx
      rw [length_map]
      exact (hN' y hy).1
    · exact List.map_eq_nil_iff.mp z
    rw [cols_gI fun x hx => (hN' x hx).1] at gC
    refine ⟨_, rfl, a, rfl, ⟨_, SqL.of (s1 _ _ ha)⟩, fun D hD => ?_⟩
    refine lc_list (xs := rs.map V.ref) (GrdI H1 D (gI (prodI M N n))) (GrdI.start hD) (fun i ys H' _ ⟨_, _, _, s', eD, _⟩ => ⟨SqL.of (s' _ _ (s1 _ _ ha)), eD⟩) ?_ ?_ ?_
    · rintro i x ys H' hx g
      obtain ⟨r, hr', rfl⟩ := map_get hx
      obtain ⟨row, hrow⟩ := get_lt (l := M) (i := i) (by rw [← lr]; exact lt_get hr')
      have s' : Same H1 H' := let ⟨_, _, _, z, _⟩ := g; z
      have er := (s1.trans s') _ _ (R.row i r _ hr' (gI_get hrow))
      obtain ⟨w1, w2⟩ := hm row (mem_of_getElem? hrow)
      refine ⟨_, rfl, _, rfl, C, r, colsI N n, row, k, rfl, gC.mono s', er, by unfold colsI; rw [length_map, length_range]; exact hn, by omega, hk, fun c hc => ?_, w2, fun p H3 s3 np ep => ?_⟩
      · unfold colsI at hc
        obtain ⟨j, hj, rfl⟩ := mem_map.mp hc
        refine ⟨by rw [length_map, w1], fun z hz => ?_⟩
        obtain ⟨y, hy, rfl⟩ := mem_map.mp hz
        obtain ⟨u, hu⟩ := get_lt (l := y) (i := j) (by rw [(hN' y hy).1]; exact mem_range.mp hj)
        show M11.Bn k ((y[j]?).getD 0)
        rw [hu]
        exact (hN' y hy).2 u (mem_of_getElem? hu)
      · refine g.step hD ?_ ⟨p, rfl, ep, np⟩ s3 (by have := lt_get hrow; omega)
        exact gI_get (by unfold prodI; rw [getElem?_map, hrow]; rfl)
    · intro ys H' g
      have ll : (rs.map V.ref).length = (gI (prodI M N n)).length := by rw [length_map, gI_len, lr]; unfold prodI; rw [length_map]
      rw [ll] at g
      obtain ⟨s', gg⟩ := g.done
      exact q D H' (s1.trans s') (s1.free hD) gg
    · rintro σ H' Q1 Q2 hq ⟨v, e, v', e', a1, a2, a3, a4, a5, a6, a7, a8, a9, a10, a11, a12, a13, g⟩
      exact ⟨v, e, v', e', a1, a2, a3, a4, a5, a6, a7, a8, a9, a10, a11, a12, a13, fun D H3 s3 n3 e3 => hq _ _ (g D H3 s3 n3 e3)⟩
def CDivL (_ j : Int) : Prop := j ≠ 0 ∧ j.natAbs < 2 ^ 9000
theorem op_fdivL {X : Cx} : OpR X (binaryOp .FloorDiv) (rI CDivL fun i j => .int (i.fdiv j)) :=
  opI fun _ _ _ _ _ _ _ hc q => floordiv_int hc.1 q (.inl (PyProof.noPylong_of_log2 ((Nat.log2_lt (by have := hc.1; omega)).mpr hc.2)))
def FrAt (H : Hp) (x : List V) (fs : List (Int × Int)) : Prop := x.length = fs.length ∧ ∀ (i : Nat) (v : V) (f : Int × Int), x[i]? = some v → fs[i]? = some f → ∃ p, v = .ref p ∧ H p = some (tupF f)
theorem FrAt.mono {H H' : Hp} {x : List V} {fs : List (Int × Int)} (h : FrAt H x fs) (s : Same H H') : FrAt H' x fs := ⟨h.1, fun i v f h1 h2 => by
  obtain ⟨p, e, hp⟩ := h.2 i v f h1 h2
  exact ⟨p, e, s _ _ hp⟩⟩
def Bt (f : Int × Int) : Prop := 0 < f.2 ∧ f.2.natAbs < 2 ^ 20
def botStep (b q : Int) : Int := b.fdiv (M11.G b q) * q
def botL (fs : List (Int × Int)) : Int := fs.foldl (fun b f => botStep b f.2) 1
theorem bot_step {b q : Int} (hb : 0 < b) (hq : 0 < q) : 0 < botStep b q ∧ b ∣ botStep b q ∧ q ∣ botStep b q ∧ (botStep b q).natAbs ≤ b.natAbs * q.natAbs := by
  have hg := M11.G_pos (b := q) hb
  obtain ⟨b', e1⟩ : M11.G b q ∣ b := Int.gcd_dvd_left ..
  obtain ⟨q', e2⟩ : M11.G b q ∣ q := Int.gcd_dvd_right ..
  unfold botStep
  generalize M11.G b q = g at *
  have e3 : b.fdiv g = b' := by
    rw [e1, Int.mul_fdiv_cancel_left _ (Int.ne_of_gt hg)]
  have hb' : 0 < b' := by
    rcases Int.lt_or_le 0 b' with z | z
    · exact z
    · have := Int.mul_le_mul_of_nonneg_left z (Int.le_of_lt hg)
      rw [← e1, Int.mul_zero] at this
      omega
  rw [e3]
  refine ⟨Int.mul_pos hb' hq, ⟨q', by rw [e1]; rw [e2]; grind⟩, ⟨b', by grind⟩, ?_⟩
  rw [Int.natAbs_mul, e1, Int.natAbs_mul]
  exact Nat.mul_le_mul_right _ (Nat.le_mul_of_pos_left _ (by omega))
theorem bot_fold : ∀ (fs : List (Int × Int)) (b : Int), 0 < b → (∀ f ∈ fs, Bt f) →
    0 < fs.foldl (fun b f => botStep b f.2) b ∧ b ∣ fs.foldl (fun b f => botStep b f.2) b ∧ (∀ f ∈ fs, f.2 ∣ fs.foldl (fun b f => botStep b f.2) b) ∧ (fs.foldl (fun b f => botStep b f.2) b).natAbs ≤ b.natAbs * 2 ^ (20 * fs.length)
  | [], b, hb, _ => ⟨hb, Int.dvd_refl _, fun _ h => (nomatch h), by simp⟩
  | f :: fs, b, hb, h => by
    obtain ⟨h1, h2⟩ := h f mem_cons_self
    obtain ⟨s1, s2, s3, s4⟩ := bot_step hb h1
    obtain ⟨r1, r2, r3, r4⟩ := bot_fold fs _ s1 fun g hg => h g (mem_cons_of_mem _ hg)
    refine ⟨r1, Int.dvd_trans s2 r2, fun g hg => ?_, Nat.le_trans r4 ?_⟩
    · rcases mem_cons.mp hg with e | e
      · subst e; exact Int.dvd_trans s3 r2
      · exact r3 g e
    · have e : (2 : Nat) ^ (20 * (f :: fs).length) = 2 ^ 20 * 2 ^ (20 * fs.length) := by
        rw [← Nat.pow_add]
        congr 1
        rw [length_cons]
        omega
      rw [e, ← Nat.mul_assoc]
      exact Nat.mul_le_mul_right _ (Nat.le_trans s4 (Nat.mul_le_mul_left _ (Nat.le_of_lt h2)))
theorem bot_spec {fs : List (Int × Int)} (h : ∀ f ∈ fs, Bt f) : 0 < botL fs ∧ (∀ f ∈ fs, f.2 ∣ botL fs) ∧ M11.Bn (20 * fs.length + 1) (botL fs) := by
  obtain ⟨r1, _, r3, r4⟩ := bot_fold fs 1 (by decide) h
  refine ⟨r1, r3, ?_⟩
  show (botL fs).natAbs < 2 ^ (20 * fs.length + 1)
  have := Nat.two_pow_pos (20 * fs.length)
  rw [Nat.pow_succ]
  have r4' : (botL fs).natAbs ≤ 1 * 2 ^ (20 * fs.length) := r4
  omega
theorem bot_snoc (fs : List (Int × Int)) (f : Int × Int) : botL (fs ++ [f]) = botStep (botL fs) f.2 := by
  unfold botL
  rw [foldl_append]
  rfl
theorem fdiv_le {b g : Int} (hg : 0 < g) : (b.fdiv g).natAbs ≤ b.natAbs := by
  rw [Int.fdiv_eq_ediv_of_nonneg _ (Int.le_of_lt hg)]
  exact Int.natAbs_ediv_le_natAbs b g
def spBottom : Sp := fun vs H Q _ => ∃ (a : Addr) (x : List V) (fs : List (Int × Int)), vs = [.ref a] ∧ H a = some (.lst x) ∧ FrAt H x fs ∧ fs.length ≤ 900 ∧ (∀ f ∈ fs, Bt f) ∧ Q (.int (botL fs)) H
theorem scBot : FnScope ["fractions", "bottom", "f"] ["fractions"] (defScope sBottom) := ⟨rfl, rfl, rfl, by decide +kernel, rfl, by decide +kernel, by decide +kernel⟩
theorem ok_bottom {f fG : Addr} {fd fdG : FuncData} (F : Fun K "common_bottom" "common_bottom" sBottom f fd) (DG : Dn K mg "greatest_divisor" sGd ["number", "other"] fG fdG) (GG : FnOk P w K mg base CX0 1 fG fdG ["number", "other"] spG) : FnOk P w K mg base CX0 2 f fd ["fractions"] spBottom := by
  refine F.ok scBot (fun vs H Q E h => ?_) (fun cdv A outer s H vs Q E hr h => ?_)
  · obtain ⟨a, x, fs, rfl, _⟩ := h
    rfl
  · obtain ⟨a, x, fs, rfl, ha, hx, hl, hb, q⟩ := h
    refine ⟨_, pss_cons (ps_set (i := 1) scBot.nd rfl (Or.inl rfl) pe_int)
      (pss_cons (ps_for PassesOwn.never rfl (pi_list (pv 0)) (pg_name (i := 2) scBot.nd rfl (Or.inl rfl))
        (pss_one (ps_set (i := 1) scBot.nd rfl (Or.inl rfl) (pe_op op_mulN (pe_op op_fdivL (pv 1) (pe_fn DG GG hr rfl (pa_cons (pv 1) (pa_cons (pe_ix (ix_tupK (K := K)) (pv 2) pe_int (fun _ _ => rfl)) pa_nil)))) (pe_ix (ix_tupK (K := K)) (pv 2) pe_int (fun _ _ => rfl))))))
      (pss_one (ps_ret (pv 1)))), ?_⟩
    refine ⟨_, rfl, a, rfl, ⟨_, SqL.of ha⟩, for_list (xs := x) (fun i σ H' => ∃ (o2 : Option V), σ = [some (.ref a), some (.int (botL (fs.take i))), o2] ∧ H' = H) ⟨none, rfl, rfl⟩ (fun i σ H' _ ⟨_, _, e⟩ => by rw [e]; exact SqL.of ha) ?_ ?_⟩
    · rintro i v σ H1 hv ⟨o2, rfl, rfl⟩
      obtain ⟨g, hg⟩ := get_lt (l := fs) (i := i) (by rw [← hx.1]; exact lt_get hv)
      obtain ⟨p, rfl, hp⟩ := hx.2 i v g hv hg
      obtain ⟨g1, g2⟩ := hb g (mem_of_getElem? hg)
      obtain ⟨b1, b2, b3⟩ := bot_spec (fs := fs.take i) fun y hy => hb y (mem_of_mem_take hy)
      have hG := M11.G_le (t := botL (fs.take i)) (Int.ne_of_gt g1)
      have hG0 := M11.G_pos (b := g.2) b1
      have b4 : M11.Bn 20000 (botL (fs.take i)) := b3.mono (by rw [length_take]; omega)
      refine ⟨_, rfl, _, rfl, _, rfl, p, _, _, .int g.2, rfl, rfl, SqT.of hp, at_snd _ _ _, _, _, rfl, ?_⟩
      refine ⟨_, _, rfl, rfl, ⟨Int.ne_of_gt hG0, Nat.lt_trans (by omega : (M11.G (botL (fs.take i)) g.2).natAbs < 2 ^ 20) (by decide)⟩, _, rfl, p, _, _, .int g.2, rfl, rfl, SqT.of hp, at_snd _ _ _, _, _, rfl, rfl, ⟨20020, by decide, ?_, M11.Bn.mono (n := 20) g2 (by decide)⟩, some (.ref p), ?_, rfl⟩
      · exact (M11.Bn.le b4 (fdiv_le hG0)).mono (by decide)
      · rw [take_snoc hg, bot_snoc]
        rfl
    · rintro σ H1 ⟨o2, rfl, rfl⟩
      refine ⟨_, rfl, ?_⟩
      rw [hx.1, take_length]
      exact q
def topF (f : Int × Int) (b : Int) : Int := f.1 * b.fdiv f.2
def spTopOver : Sp := fun vs H Q _ => ∃ (p : Addr) (f : Int × Int) (b : Int), vs = [.ref p, .int b] ∧ H p = some (tupF f) ∧ Bt f ∧ M11.Bn 20000 f.1 ∧ M11.Bn 20000 b ∧ Q (.int (topF f b)) H
theorem scTopOver : FnScope ["f", "bottom"] ["f", "bottom"] (defScope sTopOver) := ⟨rfl, rfl, rfl, by decide +kernel, rfl, by decide +kernel, by decide +kernel⟩
theorem ok_topOver {f : Addr} {fd : FuncData} (F : Fun K "top_over" "top_over" sTopOver f fd) : FnOk P w K mg base CX0 1 f fd ["f", "bottom"] spTopOver := by
  refine F.ok scTopOver (fun vs H Q E h => ?_) (fun cdv A outer s H vs Q E hr h => ?_)
  · obtain ⟨p, g, b, rfl, _⟩ := h
    rfl
  · obtain ⟨p, g, b, rfl, hp, hg, h1, hb, q⟩ := h
    refine ⟨_, pss_one (ps_ret (pe_op op_mulN (pe_ix (ix_tupK (K := K)) (pv 0) pe_int (fun _ _ => rfl)) (pe_op op_fdivL (pv 1) (pe_ix (ix_tupK (K := K)) (pv 0) pe_int (fun _ _ => rfl))))), ?_⟩
    refine ⟨_, rfl, p, _, _, .int g.1, rfl, rfl, SqT.of hp, at_hd _ _, _, rfl, _, rfl, p, _, _, .int g.2, rfl, rfl, SqT.of hp, at_snd _ _ _, _, _, rfl, rfl, ⟨Int.ne_of_gt hg.1, Nat.lt_trans hg.2 (by decide)⟩, _, _, rfl, rfl, ⟨20000, by decide, h1, M11.Bn.le hb (fdiv_le hg.1)⟩, q⟩
def isSqB (n : Nat) (X : List (List V)) : Bool := decide (X.length = n) && X.all fun x => decide (x.length = n)
def spIsSq : Sp := fun vs H Q _ => ∃ (a : Addr) (X : List (List V)) (n : Nat), vs = [.ref a, .int (n : Int)] ∧ GrdAt H a X ∧ X.length ≤ 900 ∧ n ≤ 900 ∧ (∀ x ∈ X, x.length ≤ 900) ∧ ∀ H', Same H H' → Q (.bl (isSqB n X)) H'
theorem scIsSq : FnScope ["rows", "size"] ["rows", "size"] (defScope sIsSq) := ⟨rfl, rfl, rfl, by decide +kernel, rfl, by decide +kernel, by decide +kernel⟩
def boolAt (e : Expr) (i : Nat) : Expr := match e with
  | .BoolOp _ es _ => es.getD i (.Constant .none 0 ⟨0, 0, 0, 0⟩)
  | _ => .Constant .none 0 ⟨0, 0, 0, 0⟩
theorem boot_all : bootBuiltins "all" = some (.builtin "all") := by decide +kernel
theorem all_map {α : Type} (f : α → Bool) (xs : List α) : (xs.map f).all id = xs.all f := by rw [List.all_map]; rfl
theorem map_bl {α : Type} (f : α → Bool) (xs : List α) : (xs.map fun x => V.bl (f x)) = (xs.map f).map V.bl := by rw [map_map]; rfl
def rLenK (K : Frag) : List V → Hp → VK → Prop := fun xs H Q => ∃ p ys, xs = [.ref p] ∧ (SqL K H p ys ∨ SqT K H p ys) ∧ Q (.int ys.length) H
theorem call_lenK {X : Cx} (h : X.K = K := by rfl) : CallR X (.builtin "len") (rLenK K) := by subst h; exact call_len_seq
structure BltG (mg : Str → Option Value) : Prop where
  len : mg "len" = none
  sum : mg "sum" = none
  zip : mg "zip" = none
  range : mg "range" = none
  all : mg "all" = none
theorem dec_nat (a b : Nat) : decide (V.int (a : Int) = V.int (b : Int)) = decide (a = b) := by
  by_cases h : a = b
  · subst h; simp
  · rw [decide_eq_false h, decide_eq_false]
    intro z
    exact h (Int.ofNat.inj (V.int.inj z))
theorem dec_intE (a b : Int) : decide (V.int a = V.int b) = decide (a = b) := by
  by_cases h : a = b
  · subst h; simp
  · rw [decide_eq_false h, decide_eq_false]
    intro z
    exact h (V.int.inj z)
theorem lcIsSq : LcScopes (defScope sIsSq) ["rows", "size"] (lcScope (argAt (boolAt (asgVal (bodyAt sIsSq 0)) 1) 0)) ["row"] := ⟨by decide +kernel, rfl, by decide +kernel, by decide +kernel, by decide +kernel, by decide +kernel, by decide +kernel, by decide +kernel, by decide +kernel, by decide +kernel⟩
theorem ok_isSq {f : Addr} {fd : FuncData} (B : BltG mg) (F : Fun K "is_square" "is_square" sIsSq f fd) : FnOk P w K mg base CX0 1 f fd ["rows", "size"] spIsSq := by
  refine F.ok scIsSq (fun vs H Q E h => ?_) (fun cdv A outer s H vs Q E hr h => ?_)
  · obtain ⟨a, X, n, rfl, _⟩ := h
    rfl
  · obtain ⟨a, X, n, rfl, ⟨rs, ha, R⟩, hX, hn, hw, q⟩ := h
    have lr := R.len
    refine ⟨_, pss_one (ps_ret (pe_and (pe_cmpR op_eq (pe_callB call_len_seq (by rfl) B.len boot_len (pa_cons (pv 0) pa_nil)) (pv 1) (nomark _))
      (pe_one (pe_callB (call_all rfl) (by rfl) B.all boot_all (pa_cons (pe_lc1 rfl lcIsSq rfl (pi_list (pv 0)) (fun _ _ _ => pe_cmpR op_eq (pe_callB (call_lenK (K := K)) (by rfl) B.len boot_len (pa_cons (pv 2) pa_nil)) (pv 1) (nomark _))) pa_nil))))), ?_⟩
    refine ⟨_, rfl, a, _, rfl, .inl (SqL.of ha), ?_⟩
    refine ⟨_, rfl, rfl, _, rfl, ?_⟩
    rw [dec_nat, length_map, lr]
    by_cases hX' : X.length = n
    · refine itDP hX' ?_
      refine ⟨_, rfl, a, rfl, ⟨_, SqL.of ha⟩, fun D hD => ?_⟩
      refine lc_vals (X.map fun x => V.bl (decide (x.length = n))) (by rw [length_map, length_map, lr]) (by rw [length_map, lr]; exact hX) hD (SqL.of ha) ?_ ?_ ?_
      · intro i x v H' hx hv s'
        obtain ⟨r, hr, rfl⟩ := map_get hx
        obtain ⟨y, hy, rfl⟩ := map_get hv
        refine ⟨_, rfl, r, _, rfl, .inl (SqL.of (s' _ _ (R.row i r y hr hy))), _, rfl, rfl, ?_, Same.refl _⟩
        rw [dec_nat]
      · intro H' s' eD
        refine ⟨D, X.map fun x => decide (x.length = n), rfl, SqL.of (by rw [eD, map_bl]), ?_⟩
        rw [all_map]
        have := q H' s'
        unfold isSqB at this
        rw [decide_eq_true hX', Bool.true_and] at this
        exact this
      · rintro σ H' Q1 Q2 hq ⟨v, e, p, ys, e1, e2, v2, e3, e4, g⟩
        exact ⟨v, e, p, ys, e1, e2, v2, e3, e4, hq _ _ g⟩
    · refine itDN hX' ?_
      have := q H (Same.refl _)
      unfold isSqB at this
      rw [decide_eq_false hX', Bool.false_and] at this
      exact this
def comeB (M : List (List Int)) (z : Int) : Bool := M.all fun r => decide (r.sum = z)
def spCome : Sp := fun vs H Q _ => ∃ (a : Addr) (M : List (List Int)) (z : Int), vs = [.ref a, .int z] ∧ GrdAt H a (gI M) ∧ M.length ≤ 900 ∧ ∀ H', Same H H' → Q (.bl (comeB M z)) H'
theorem scCome : FnScope ["rows", "whole"] ["rows", "whole"] (defScope sCome) := ⟨rfl, rfl, rfl, by decide +kernel, rfl, by decide +kernel, by decide +kernel⟩
theorem lcCome : LcScopes (defScope sCome) ["rows", "whole"] (lcScope (argAt (asgVal (bodyAt sCome 0)) 0)) ["row"] := ⟨by decide +kernel, rfl, by decide +kernel, by decide +kernel, by decide +kernel, by decide +kernel, by decide +kernel, by decide +kernel, by decide +kernel, by decide +kernel⟩
def rSumK (K : Frag) : List V → Hp → VK → Prop := fun xs H Q => ∃ (p : Addr) (ns : List Int), xs = [.ref p] ∧ SqL K H p (ns.map V.int) ∧ Q (.int ns.sum) H
theorem call_sumK {X : Cx} (hc : X.calm = true) (h : X.K = K := by rfl) : CallR X (.builtin "sum") (rSumK K) := by subst h; exact call_sum hc
theorem ok_come {f : Addr} {fd : FuncData} (B : BltG mg) (F : Fun K "come_to" "come_to" sCome f fd) : FnOk P w K mg base CX0 1 f fd ["rows", "whole"] spCome := by
  refine F.ok scCome (fun vs H Q E h => ?_) (fun cdv A outer s H vs Q E hr h => ?_)
  · obtain ⟨a, M, z, rfl, _⟩ := h
    rfl
  · obtain ⟨a, M, z, rfl, ⟨rs, ha, R⟩, hM, q⟩ := h
    have lr : rs.length = M.length := by rw [R.len, gI_len]
    refine ⟨_, pss_one (ps_ret (pe_callB (call_all rfl) (by rfl) B.all boot_all (pa_cons (pe_lc1 rfl lcCome rfl (pi_list (pv 0)) (fun _ _ _ => pe_cmpR op_eq (pe_callB (call_sumK (K := K) rfl) (by rfl) B.sum boot_sum (pa_cons (pv 2) pa_nil)) (pv 1) (nomark _))) pa_nil))), ?_⟩
    refine ⟨_, rfl, a, rfl, ⟨_, SqL.of ha⟩, fun D hD => ?_⟩
    refine lc_vals (M.map fun r => V.bl (decide (r.sum = z))) (by rw [length_map, length_map, lr]) (by rw [length_map, lr]; exact hM) hD (SqL.of ha) ?_ ?_ ?_
    · intro i x v H' hx hv s'
      obtain ⟨r, hr, rfl⟩ := map_get hx
      obtain ⟨y, hy, rfl⟩ := map_get hv
      refine ⟨_, rfl, r, y, rfl, SqL.of (s' _ _ (R.row i r _ hr (gI_get hy))), _, rfl, rfl, ?_, Same.refl _⟩
      rw [dec_intE]
    · intro H' s' eD
      refine ⟨D, M.map fun r => decide (r.sum = z), rfl, SqL.of (by rw [eD, map_bl]), ?_⟩
      rw [all_map]
      exact q H' s'
    · rintro σ H' Q1 Q2 hq ⟨v, e, p, ys, e1, e2, v2, e3, e4, g⟩
      exact ⟨v, e, p, ys, e1, e2, v2, e3, e4, hq _ _ g⟩
theorem pe_notT {X : Cx} {a : Expr} {ta : TE} {pos : Pos} (ha : PE X a ta) : PE X (.UnaryOp .Not a pos) (fun σ H Q => ta σ H fun x H1 => ∃ k, TruV X.K x H1 k ∧ Q (.bl (!k)) H1) := by
  intro pins s σ H Q I h
  refine UnaryOp_ (thn (ha pins s σ H _ I h) fun v s1 ⟨x, H1, I1, r1, q1⟩ => ?_)
  exact not_of (thn (tru_ok pins s1 σ H1 x v (fun k H' => Q (.bl (!k)) H') I1 r1 q1) fun d s2 ⟨H2, I2, q2⟩ => ⟨.bl (!d), H2, I2, rfl, q2⟩)
theorem set1 (σ : L2.St) (o : Option V) (x : V) : (σ ++ [o]).set σ.length (some x) = σ ++ [some x] := by
  rw [List.set_append_right _ _ (Nat.le_refl _), Nat.sub_self]
  rfl
theorem lc_filV {a : Addr} {xs : List V} {N : Nat} {tt : TT} {te : TE} {σ : L2.St} {H1 : Hp} {Q : VK} (hN : σ.length = N) (f : V → Bool) (ha : SqL K H1 a xs) (hm : xs.length ≤ 900)
    (ht : ∀ (x : V) (H' : Hp) (R : Bool → Hp → Prop), x ∈ xs → R (f x) H' → tt (σ ++ [some x]) H' R)
    (he : ∀ (x : V) (H' : Hp) (R : VK), R x H' → te (σ ++ [some x]) H' R)
    (hd : ∀ (D : Addr) (H' : Hp), Same H1 H' → H' D = some (.lst (xs.filter f)) → Q (.ref D) H') : LcW 1 (Itl K a) (gName N) tt te σ H1 Q := by
  subst hN
  intro D hD
  refine ⟨fun i m ys H' => m = xs.length - i ∧ i ≤ xs.length ∧ ys = (xs.take i).filter f ∧ Same H1 H' ∧ H' D = some (.lst ys), ⟨xs.length, by simp, Nat.zero_le _, rfl, Same.upd hD, upd_same⟩, ?_⟩
  rintro i m ys H2 ⟨rfl, hi, rfl, s2, eD⟩
  refine ⟨eD, ?_⟩
  by_cases hlt : i < xs.length
  · obtain ⟨x, gx⟩ := get_lt hlt
    refine .inr ⟨⟨_, _, Same.sq s2 ha, gx⟩, ?_⟩
    rintro z H3 ⟨rfl, hz⟩ os los
    have hz := hz _ (Same.sq s2 ha)
    rw [gx] at hz
    cases hz
    match os, los with
    | [o], _ =>
      refine ⟨⟨[some x], set1 σ o _, rfl⟩, ?_⟩
      rw [set1 σ o _]
      refine ht x _ _ (mem_of_getElem? gx) ?_
      have lr : ((xs.take i).filter f).length ≤ i := Nat.le_trans (List.length_filter_le _ _) (by rw [length_take]; omega)
      by_cases e : f x = true
      · rw [if_pos e]
        refine he x _ _ ⟨eD, small1000 (by omega), xs.length - (i + 1), by omega, rfl, hlt, ?_, fun b o e => ?_, upd_same⟩
        · rw [take_snoc gx, List.filter_append, List.filter_cons_of_pos e]; rfl
        · rw [upd_ne (ne_of_none e hD)]
          exact s2 _ _ e
      · rw [if_neg e]
        exact ⟨xs.length - (i + 1), by omega, rfl, hlt, by rw [take_snoc gx, List.filter_append, List.filter_cons_of_neg e, List.filter_nil, append_nil], s2, eD⟩
  · have : i = xs.length := by omega
    subst this
    rw [take_length] at eD
    rw [take_length]
    exact .inl ⟨⟨_, Same.sq s2 ha, Nat.le_refl _⟩, hd D H2 s2 eD⟩
abbrev nShared : List Str := ["shares", "whole", "below"]
theorem scShared : FnScope nShared ["shares", "whole"] (defScope sShared) := ⟨rfl, rfl, rfl, by decide +kernel, rfl, by decide +kernel, by decide +kernel⟩
theorem lcShared : LcScopes (defScope sShared) nShared (lcScope (asgVal (bodyAt sShared 0))) ["share"] := ⟨by decide +kernel, rfl, by decide +kernel, by decide +kernel, by decide +kernel, by decide +kernel, by decide +kernel, by decide +kernel, by decide +kernel, by decide +kernel⟩
def negV (v : V) : Bool := match v with | .int i => decide (i < 0) | _ => false
def sharedB (M : List (List Int)) (n : Nat) (z : Int) : Bool := (M.flatten.all fun x => decide (0 ≤ x)) && (comeB M z && comeB (colsI M n) z)
theorem gI_flat (M : List (List Int)) : (gI M).flatten = M.flatten.map V.int := by unfold gI; rw [List.map_flatten]
theorem neg_none (xs : List Int) : ((xs.map V.int).filter negV).isEmpty = xs.all fun x => decide (0 ≤ x) := by
  induction xs with
  | nil => rfl
  | cons x xs ih =>
    rw [map_cons, List.all_cons, ← ih]
    by_cases h : x < 0
    · rw [List.filter_cons_of_pos (by show decide (x < 0) = true; exact decide_eq_true h), decide_eq_false (by omega)]
      rfl
    · rw [List.filter_cons_of_neg (by show ¬ decide (x < 0) = true; rw [decide_eq_false h]; decide), decide_eq_true (by omega)]
      rfl
theorem flat_len {n : Nat} : ∀ {M : List (List Int)}, (∀ x ∈ M, x.length = n) → M.flatten.length = M.length * n
  | [], _ => by simp
  | x :: M, h => by
    rw [flatten_cons, length_append, flat_len fun y hy => h y (mem_cons_of_mem _ hy), h x mem_cons_self, length_cons, Nat.succ_mul]
    omega
def spShared : Sp := fun vs H Q _ => ∃ (a : Addr) (M : List (List Int)) (n : Nat) (z : Int), vs = [.ref a, .int z] ∧ GrdAt H a (gI M) ∧ M.length = n ∧ n ≤ 16 ∧ (∀ x ∈ M, x.length = n) ∧ ∀ H', Same H H' → Q (.bl (sharedB M n z)) H'
theorem ok_shared {f fI fC fS : Addr} {fd fdI fdC fdS : FuncData} (F : Fun K "are_shared_out" "are_shared_out" sShared f fd)
    (DI : Dn K mg "in_one_list" sInOne ["rows"] fI fdI) (GI : FnOk P w K mg base CX0 1 fI fdI ["rows"] spInOne)
    (DC : Dn K mg "come_to" sCome ["rows", "whole"] fC fdC) (GC : FnOk P w K mg base CX0 1 fC fdC ["rows", "whole"] spCome)
    (DS : Dn K mg "columns_of" sCols ["rows"] fS fdS) (GS : FnOk P w K mg base CX0 2 fS fdS ["rows"] spCols) : FnOk P w K mg base CX0 3 f fd ["shares", "whole"] spShared := by
  refine F.ok scShared (fun vs H Q E h => ?_) (fun cdv A outer s H vs Q E hr h => ?_)
  · obtain ⟨a, M, n, z, rfl, _⟩ := h
    rfl
  · obtain ⟨a, M, n, z, rfl, g, hM, hn, hw, q⟩ := h
    have r1 := hr.mono (j := 1) (by decide)
    have fl := flat_len hw
    have fl2 : M.length * n ≤ 16 * 16 := Nat.mul_le_mul (by omega) hn
    refine ⟨_, pss_cons (ps_setLcs (i := 2) scShared.nd rfl (Or.inl rfl) rfl lcShared rfl (pi_list (pe_fn DI GI r1 rfl (pa_cons (pv 0) pa_nil))) (pg_one lcShared) (fun _ _ _ => pts_one (pt_cmpR op_lt (pv 3) pe_int (nomark _))) (fun _ _ _ => pv 3))
      (pss_one (ps_ret (pe_and (pe_notT (pv 2)) (pe_and (pe_fn DC GC r1 rfl (pa_cons (pv 0) (pa_cons (pv 1) pa_nil)))
        (pe_one (pe_fn DC GC r1 rfl (pa_cons (pe_fn DS GS hr rfl (pa_cons (pv 0) pa_nil)) (pa_cons (pv 1) pa_nil)))))))), ?_⟩
    refine ⟨_, rfl, a, gI M, rfl, g, by rw [gI_flat, length_map]; omega, fun L H1 s1 nL eL => ?_⟩
    rw [gI_flat] at eL
    refine ⟨L, rfl, ⟨_, SqL.of eL⟩, ?_⟩
    refine lc_filV rfl negV (SqL.of eL) (by rw [length_map]; omega) ?_ ?_ ?_
    · intro x H' R hx hR
      obtain ⟨i, _, rfl⟩ := mem_map.mp hx
      exact ⟨_, rfl, _, _, rfl, rfl, _, rfl, hR⟩
    · intro x H' R hR
      exact ⟨_, rfl, hR⟩
    · intro D H2 s2 eD
      refine ⟨_, rfl, _, .inl ⟨_, SqL.of eD, rfl⟩, _, rfl, ?_⟩
      rw [neg_none, Bool.not_not]
      have s12 := s1.trans s2
      unfold sharedB at q
      cases h1 : M.flatten.all fun x => decide (0 ≤ x) with
      | false =>
        refine iteF ?_
        have := q H2 s12
        rw [h1] at this
        exact this
      | true =>
        refine iteT ?_
        refine ⟨_, rfl, _, rfl, a, M, z, rfl, g.mono s12, by omega, fun H3 s3 => ⟨_, rfl, ?_⟩⟩
        rw [h1] at q
        cases h2 : comeB M z with
        | false =>
          refine iteF ?_
          have := q H3 (s12.trans s3)
          rw [h2] at this
          exact this
        | true =>
          refine iteT ?_
          rw [h2] at q
          have s13 := s12.trans s3
          refine ⟨_, rfl, a, gI M, n, rfl, g.mono s13, by rw [gI_len]; omega, by omega, fun x hx => ?_, fun e => ?_, fun C H4 s4 nC gC => ?_⟩
          · obtain ⟨y, hy, rfl⟩ := mem_map.mp hx
            rw [length_map]
            exact hw y hy
          · have : M = [] := List.map_eq_nil_iff.mp e
            subst this
            exact hM.symm
          rw [cols_gI hw] at gC
          exact ⟨_, rfl, C, colsI M n, z, rfl, gC, by unfold colsI; rw [length_map, length_range]; omega, fun H5 s5 => q H5 ((s13.trans s4).trans s5)⟩
def keepB (h : Int) (hs xs : List Int) : Bool := (List.zipWith (fun x g => decide (x = 0) || decide (g = h)) xs hs).all id
def spKeepsHue : Sp := fun vs H Q _ => ∃ (hA sA : Addr) (h : Int) (hs xs : List Int), vs = [.int h, .ref hA, .ref sA] ∧ H hA = some (.lst (hs.map V.int)) ∧ H sA = some (.lst (xs.map V.int)) ∧ xs.length = hs.length ∧ hs.length ≤ 900 ∧ ∀ H', Same H H' → Q (.bl (keepB h hs xs)) H'
abbrev nKeepsHue : List Str := ["hue", "hues_there", "shares"]
theorem scKeepsHue : FnScope nKeepsHue nKeepsHue (defScope sKeepsHue) := ⟨rfl, rfl, rfl, by decide +kernel, rfl, by decide +kernel, by decide +kernel⟩
theorem lcKeepsHue : LcScopes (defScope sKeepsHue) nKeepsHue (lcScope (argAt (asgVal (bodyAt sKeepsHue 0)) 0)) ["share", "hue_there"] := ⟨by decide +kernel, rfl, by decide +kernel, by decide +kernel, by decide +kernel, by decide +kernel, by decide +kernel, by decide +kernel, by decide +kernel, by decide +kernel⟩
theorem ok_keepsHue {f : Addr} {fd : FuncData} (B : BltG mg) (F : Fun K "keeps_hue" "keeps_hue" sKeepsHue f fd) : FnOk P w K mg base CX0 1 f fd nKeepsHue spKeepsHue := by
  refine F.ok scKeepsHue (fun vs H Q E h => ?_) (fun cdv A outer s H vs Q E hr h => ?_)
  · obtain ⟨hA, sA, h, hs, xs, rfl, _⟩ := h
    rfl
  · obtain ⟨hA, sA, h, hs, xs, rfl, eh, es, hl, hm, q⟩ := h
    refine ⟨_, pss_one (ps_ret (pe_callB (call_all rfl) (by rfl) B.all boot_all (pa_cons (pe_lcs rfl lcKeepsHue rfl (pi_zip rfl B.zip (pa_cons (pv 2) (pa_cons (pv 1) pa_nil))) (pg_two rfl lcKeepsHue) (fun _ _ _ => pts_nil)
      (fun _ _ _ => pe_or (pe_cmpR op_eq (pv 3) pe_int (nomark _)) (pe_one (pe_cmpR op_eq (pv 4) (pv 0) (nomark _))))) pa_nil))), ?_⟩
    refine ⟨_, rfl, _, rfl, sA, hA, rfl, ⟨_, SqL.of es⟩, ⟨_, SqL.of eh⟩, ?_⟩
    have lz : (List.zipWith (fun x g => decide (x = 0) || decide (g = h)) xs hs).length = hs.length := by rw [length_zipWith, hl, Nat.min_self]
    refine lc_zip ((List.zipWith (fun x g => decide (x = 0) || decide (g = h)) xs hs).map V.bl) rfl (SqL.of es) (SqL.of eh) (by rw [length_map, length_map, lz, hl]) (by rw [length_map, length_map, lz]) (by rw [length_map, lz]; omega) ?_ ?_ ?_
    · intro i x y v H' hx hy hv s'
      obtain ⟨x, ex, rfl⟩ := map_get hx
      obtain ⟨y, ey, rfl⟩ := map_get hy
      obtain ⟨b, eb, rfl⟩ := map_get hv
      rw [List.getElem?_zipWith, ex, ey] at eb
      cases eb
      refine ⟨_, rfl, rfl, _, rfl, ?_⟩
      rw [dec_intE]
      by_cases h0 : x = 0
      · refine itDP h0 ⟨?_, Same.refl _⟩
        rw [decide_eq_true h0, Bool.true_or]
      · refine itDN h0 ⟨_, rfl, _, rfl, rfl, ?_, Same.refl _⟩
        rw [dec_intE, decide_eq_false h0, Bool.false_or]
    · intro D H' s' eD
      exact ⟨D, _, rfl, SqL.of eD, q H' s'⟩
    · rintro σ H' Q1 Q2 hq ⟨v, e, e2, c, ec, g⟩
      refine ⟨v, e, e2, c, ec, ?_⟩
      cases c with
      | true => exact hq _ _ g
      | false =>
        obtain ⟨v2, e3, v4, e4, e5, g⟩ := g
        exact ⟨v2, e3, v4, e4, e5, hq _ _ g⟩
def keepHB (hs hs' : List Int) (M : List (List Int)) : Bool := (List.zipWith (fun h x => keepB h hs' x) hs M).all id
def spKeepHues : Sp := fun vs H Q _ => ∃ (hA oA sA : Addr) (hs hs' : List Int) (M : List (List Int)), vs = [.ref hA, .ref oA, .ref sA] ∧ H hA = some (.lst (hs.map V.int)) ∧ H oA = some (.lst (hs'.map V.int)) ∧ GrdAt H sA (gI M) ∧ M.length = hs.length ∧ hs.length ≤ 900 ∧ hs'.length ≤ 900 ∧ (∀ x ∈ M, x.length = hs'.length) ∧ ∀ H', Same H H' → Q (.bl (keepHB hs hs' M)) H'
abbrev nKeepHues : List Str := ["hues", "hues_there", "shares"]
theorem scKeepHues : FnScope nKeepHues nKeepHues (defScope sKeepHues) := ⟨rfl, rfl, rfl, by decide +kernel, rfl, by decide +kernel, by decide +kernel⟩
theorem lcKeepHues : LcScopes (defScope sKeepHues) nKeepHues (lcScope (argAt (asgVal (bodyAt sKeepHues 0)) 0)) ["hue", "row"] := ⟨by decide +kernel, rfl, by decide +kernel, by decide +kernel, by decide +kernel, by decide +kernel, by decide +kernel, by decide +kernel, by decide +kernel, by decide +kernel⟩
theorem ok_keepHues {f fK : Addr} {fd fdK : FuncData} (B : BltG mg) (F : Fun K "keep_hues" "keep_hues" sKeepHues f fd) (DK : Dn K mg "keeps_hue" sKeepsHue nKeepsHue fK fdK) (GK : FnOk P w K mg base CX0 1 fK fdK nKeepsHue spKeepsHue) : FnOk P w K mg base CX0 2 f fd nKeepHues spKeepHues := by
  refine F.ok scKeepHues (fun vs H Q E h => ?_) (fun cdv A outer s H vs Q E hr h => ?_)
  · obtain ⟨hA, oA, sA, hs, hs', M, rfl, _⟩ := h
    rfl
  · obtain ⟨hA, oA, sA, hs, hs', M, rfl, eh, eo, ⟨rs, ea, R⟩, hl, hm, hm', hw, q⟩ := h
    have r1 := hr.mono (j := 1) (by decide)
    have lr : rs.length = M.length := by rw [R.len, gI_len]
    refine ⟨_, pss_one (ps_ret (pe_callB (call_all rfl) (by rfl) B.all boot_all (pa_cons (pe_lcs rfl lcKeepHues rfl (pi_zip rfl B.zip (pa_cons (pv 0) (pa_cons (pv 2) pa_nil))) (pg_two rfl lcKeepHues) (fun _ _ _ => pts_nil)
      (fun _ _ _ => pe_fn DK GK r1 rfl (pa_cons (pv 3) (pa_cons (pv 1) (pa_cons (pv 4) pa_nil))))) pa_nil))), ?_⟩
    refine ⟨_, rfl, _, rfl, hA, sA, rfl, ⟨_, SqL.of eh⟩, ⟨_, SqL.of ea⟩, ?_⟩
    have lz : (List.zipWith (fun h x => keepB h hs' x) hs M).length = hs.length := by rw [length_zipWith, hl, Nat.min_self]
    refine lc_zip ((List.zipWith (fun h x => keepB h hs' x) hs M).map V.bl) rfl (SqL.of eh) (SqL.of ea) (by rw [length_map, length_map, lz]) (by rw [length_map, length_map, lz, lr, hl]) (by rw [length_map, lz]; omega) ?_ ?_ ?_
    · intro i x y v H' hx hy hv s'
      obtain ⟨x, ex, rfl⟩ := map_get hx
      obtain ⟨r, er, rfl⟩ := map_get hy
      obtain ⟨b, eb, rfl⟩ := map_get hv
      obtain ⟨row, erow⟩ := get_lt (l := M) (i := i) (by rw [← lr]; exact lt_get er)
      rw [List.getElem?_zipWith, ex, erow] at eb
      cases eb
      exact ⟨_, rfl, _, rfl, _, rfl, oA, r, x, hs', row, rfl, s' _ _ eo, s' _ _ (R.row i r _ er (gI_get erow)), hw row (mem_of_getElem? erow), hm', fun H3 s3 => ⟨rfl, s3⟩⟩
    · intro D H' s' eD
      exact ⟨D, _, rfl, SqL.of eD, q H' s'⟩
    · rintro σ H' Q1 Q2 hq ⟨v, e, v', e', v'', e'', a1, a2, a3, a4, a5, a6, a7, a8, a9, a10, g⟩
      exact ⟨v, e, v', e', v'', e'', a1, a2, a3, a4, a5, a6, a7, a8, a9, a10, fun H3 s3 => hq _ _ (g H3 s3)⟩
end
section
variable {K : Frag}
end
section
variable {P : Program} {w : World} {K : Frag} {mg : Str → Option Value} {base : Heap}
structure BltL (mg : Str → Option Value) : Prop where
  len : mg "len" = none
  range : mg "range" = none
  int : mg "int" = none
  sorted : mg "sorted" = none
  enum : mg "enumerate" = none
  sum : mg "sum" = none
  zip : mg "zip" = none
  list : mg "list" = none
  isi : mg "isinstance" = none
  bool : mg "bool" = none
  max : mg "max" = none
def cellV (ns : List Int) (z : Int) : Int := (ns[z.toNat]?).getD 0
def spCell (K : Frag) : Sp := fun vs H Q _ => ∃ (a : Addr) (ns : List Int) (z : Int), vs = [.ref a, .int z] ∧ SqL K H a (ns.map V.int) ∧ 0 ≤ z ∧ ∀ x, x = cellV ns z → Q (.int x) H
theorem scCell : FnScope ["_law_script", "_law_k"] ["_law_script", "_law_k"] (defScope sCellAt) := ⟨rfl, rfl, rfl, by decide +kernel, rfl, by decide +kernel, by decide +kernel⟩
theorem ok_cell {f : Addr} {fd : FuncData} (B : BltL mg) (F : Fun K "_law_cell_at" "_law_cell_at" sCellAt f fd) : FnOk P w K mg base CX0 1 f fd ["_law_script", "_law_k"] (spCell K) := by
  refine F.ok scCell (fun vs H Q E h => ?_) (fun cdv A outer s H vs Q E hr h => ?_)
  · obtain ⟨a, ns, k, rfl, _⟩ := h
    rfl
  · obtain ⟨a, ns, z, rfl, hS, h0, k⟩ := h
    refine ⟨_, pss_cons (ps_if (pt_cmpR op_lt (pv 1) (pe_callB call_len_seq (by rfl) B.len boot_len (pa_cons (pv 0) pa_nil)) (nomark _)) (pss_one (ps_ret (pe_ix ix_list (pv 0) (pv 1) (fun _ _ => rfl)))) pss_nil)
      (pss_one (ps_ret pe_int)), ?_⟩
    refine ⟨_, rfl, _, rfl, a, _, rfl, .inl hS, _, _, rfl, rfl, _, rfl, ?_⟩
    by_cases hz : z < ((ns.map V.int).length : Int)
    · refine itDP hz ?_
      obtain ⟨j, rfl⟩ := Int.eq_ofNat_of_zero_le h0
      have hj : j < ns.length := by rw [length_map] at hz; omega
      refine ⟨_, rfl, _, rfl, a, _, _, .int ns[j], rfl, rfl, hS, atI_nat (by simp [hj]), k _ (by unfold cellV; rw [Int.toNat_natCast, getElem?_eq_getElem hj]; rfl)⟩
    · refine itDN hz (k _ ?_)
      unfold cellV
      rw [length_map] at hz
      rw [getElem?_eq_none (by omega)]
      rfl
def Drawn (b : Int) (n : Nat) (ds : List Int) : Prop := ds.length = n ∧ ∀ d ∈ ds, 0 ≤ d ∧ d < b
def spDraws : Sp := fun vs H Q _ => ∃ (c : Int) (n : Nat) (b : Int) (fr : Bool), vs = [.int c, .int (n : Int), .int b, .bl fr] ∧ n ≤ 100 ∧ b < 10000 ∧ (0 < b ∨ n = 0) ∧ ∀ p ds H', Drawn b n ds → Same H H' → H p = none → H' p = some (.lst (ds.map V.int)) → Q (.ref p) H'
abbrev nDraws : List Str := ["_law_cell", "_law_many", "_law_base", "_law_free", "_law_found", "_law_rest", "_law_k", "_law_number"]
theorem scDraws : FnScope nDraws ["_law_cell", "_law_many", "_law_base", "_law_free"] (defScope sDraws) := ⟨rfl, rfl, rfl, by decide +kernel, rfl, by decide +kernel, by decide +kernel⟩
theorem ok_draws {f : Addr} {fd : FuncData} (B : BltL mg) (F : Fun K "_law_draws" "_law_draws" sDraws f fd) : FnOk P w K mg base CX0 1 f fd ["_law_cell", "_law_many", "_law_base", "_law_free"] spDraws := by
  refine F.ok scDraws (fun vs H Q E h => ?_) (fun cdv A outer s H vs Q E hr h => ?_)
  · obtain ⟨c, n, b, fr, rfl, _⟩ := h
    rfl
  · obtain ⟨c, n, b, fr, rfl, hn, hb1, hb0, q⟩ := h
    refine ⟨_, pss_cons (ps_set (i := 4) scDraws.nd rfl (Or.inl rfl) (pe_lst pa_nil))
      (pss_cons (ps_set (i := 5) scDraws.nd rfl (Or.inl rfl) (pv 0))
      (pss_cons (ps_for PassesOwn.never rfl (pi_range1 rfl B.range (pa_cons (pv 1) pa_nil)) (pg_name (i := 6) scDraws.nd rfl (Or.inl rfl))
        (pss_one (ps_if (PW.pt (pw_and (pt_val (pv 3)) (pw_and (pt_cmpR op_ne (pv 5) pe_int (nomark _)) (pw_and1 (pt_cmpR op_ne (pv 5) (pe_un un_neg pe_int) (nomark _))))))
          (pss_cons (ps_expr (pe_bm plainAttrs_list slot_list_append type_list_append mt_append (pv 4) (pa_cons (pe_op op_mod (pv 5) (pv 2)) pa_nil)))
          (pss_one (ps_set (i := 5) scDraws.nd rfl (Or.inl rfl) (pe_op op_fdiv (pv 5) (pv 2)))))
          (pss_cons (ps_set (i := 7) scDraws.nd rfl (Or.inl rfl) (pe_op op_mod (pe_op op_add (pv 0) (pe_op op_mul pe_int (pv 6))) pe_int))
          (pss_cons (ps_set (i := 7) scDraws.nd rfl (Or.inl rfl) (pe_op op_mod (pe_op op_add (pe_op op_mul (pv 7) (pv 7)) (pv 6)) pe_int))
          (pss_one (ps_expr (pe_bm plainAttrs_list slot_list_append type_list_append mt_append (pv 4) (pa_cons (pe_op op_mod (pe_op op_mod (pe_op op_mul (pv 7) (pv 7)) pe_int) (pv 2)) pa_nil)))))))))
      (pss_one (ps_ret (pv 4))))), ?_⟩
    refine ⟨Nat.zero_le _, fun R hR => ?_⟩
    refine ⟨_, rfl, ?_⟩
    refine ⟨_, rfl, (n : Int), rfl, by omega, by omega, for_range (n := n) (fun i σ H' => ∃ (rest : Int) (o6 o7 : Option V) (ds : List Int), σ = [some (.int c), some (.int (n : Int)), some (.int b), some (.bl fr), some (.ref R), some (.int rest), o6, o7] ∧ Same H H' ∧ H' R = some (.lst (ds.map V.int)) ∧ Drawn b i ds) ?_ ?_ ?_⟩
    · exact ⟨c, none, none, [], rfl, Same.upd hR, upd_same, rfl, fun d hd => by cases hd⟩
    · rintro i σ H' hi ⟨rest, o6, o7, ds, rfl, s1, eR, lD, bD⟩
      have hb : 0 < b := hb0.resolve_right (by omega)
      have app : ∀ x : Int, 0 ≤ x → x < b → Same H (upd H' R (.lst (ds.map V.int ++ [.int x]))) ∧ upd H' R (.lst (ds.map V.int ++ [.int x])) R = some (.lst ((ds ++ [x]).map V.int)) ∧ Drawn b (i + 1) (ds ++ [x]) := by
        intro x h1 h2
        refine ⟨fun b' o e => by rw [upd_ne (ne_of_none e hR)]; exact s1 _ _ e, by rw [upd_same, map_append]; rfl, by rw [length_append, List.length_singleton, lD], fun d hd => ?_⟩
        rcases mem_append.mp hd with q' | q'
        · exact bD d q'
        · rw [mem_singleton] at q'
          subst q'
          exact ⟨h1, h2⟩
      have sm : (ds.map V.int).length < sizeLine := small1000 (by rw [length_map, lD]; omega)
      have z0 : (0 : Int) ≤ 0 + (i : Int) := by omega
      have z1 : (0 : Int) + (i : Int) < 100 := by omega
      by_cases ht : fr = true ∧ rest ≠ 0 ∧ rest ≠ -1
      · obtain ⟨rfl, hr0, hr1⟩ := ht
        refine ⟨_, rfl, _, rfl, iteT ?_⟩
        refine ⟨_, rfl, rfl, _, rfl, iteNP (fun z => hr0 (V.int.inj z)) ?_⟩
        refine ⟨_, rfl, _, rfl, rfl, _, rfl, iteNP (fun z => hr1 (V.int.inj z)) ?_⟩
        obtain ⟨g1, g2, g3⟩ := app (rest % b) (Int.emod_nonneg _ (by omega)) (Int.emod_lt_of_pos _ hb)
        refine ⟨_, rfl, .inl ⟨rfl, _, SqL.of eR⟩, _, rfl, _, rfl, _, _, rfl, rfl, hb, R, _, _, rfl, rfl, eR, sm, ?_⟩
        refine ⟨_, rfl, _, rfl, _, _, rfl, rfl, ⟨hb, by omega⟩, ?_⟩
        exact ⟨_, _, _, _, rfl, g1, g2, g3⟩
      · have test : ∀ k : Bool → Hp → Prop, k false H' → tAnd (tB (tVar 3)) (tAnd (tTest (tOp rNe (tVar 5) (tC (.int 0)))) (tTest (tOp rNe (tVar 5) (tUn (rU fun i => V.int (-i)) (tC (.int 1)))))) [some (.int c), some (.int (n : Int)), some (.int b), some (.bl fr), some (.ref R), some (.int rest), some (.int (0 + (i : Int))), o7] H' k := by
          intro k hk
          cases fr with
          | false => exact ⟨_, rfl, _, rfl, iteF hk⟩
          | true =>
            refine ⟨_, rfl, _, rfl, iteT ?_⟩
            by_cases hr0 : rest = 0
            · exact ⟨_, rfl, rfl, _, rfl, iteNS (by rw [hr0]) hk⟩
            · refine ⟨_, rfl, rfl, _, rfl, iteNP (fun z => hr0 (V.int.inj z)) ?_⟩
              have hr1 : rest = -1 := Classical.byContradiction fun z => ht ⟨rfl, hr0, z⟩
              subst hr1
              exact ⟨_, rfl, _, rfl, rfl, _, rfl, hk⟩
        refine test _ (iteF ?_)
        refine ⟨_, rfl, _, rfl, _, _, rfl, rfl, cmul_l (by decide) (by decide), _, _, rfl, rfl, _, _, rfl, rfl, (by show (0 : Int) < 2147483629; decide), ?_⟩
        have b1 := Int.emod_nonneg (c + 7919 * (0 + (i : Int))) (b := 2147483629) (by decide)
        have b2 := Int.emod_lt_of_pos (c + 7919 * (0 + (i : Int))) (b := 2147483629) (by decide)
        obtain ⟨x, ex⟩ : ∃ x, x = (c + 7919 * (0 + (i : Int))) % 2147483629 := ⟨_, rfl⟩
        rw [← ex] at b1 b2
        refine ⟨_, rfl, _, rfl, _, _, rfl, rfl, cmul_l (by show _ < (c + 7919 * (0 + (i : Int))) % 2147483629; rw [← ex]; omega) (by show (c + 7919 * (0 + (i : Int))) % 2147483629 < _; rw [← ex]; omega), _, rfl, _, _, rfl, rfl, _, _, rfl, rfl, (by show (0 : Int) < 2147483629; decide), ?_⟩
        have c1 := Int.emod_nonneg (x * x + (0 + (i : Int))) (b := 2147483629) (by decide)
        have c2 := Int.emod_lt_of_pos (x * x + (0 + (i : Int))) (b := 2147483629) (by decide)
        obtain ⟨y, ey⟩ : ∃ y, y = (x * x + (0 + (i : Int))) % 2147483629 := ⟨_, rfl⟩
        rw [← ey] at c1 c2
        rw [ex] at ey
        obtain ⟨g1, g2, g3⟩ := app (y * y % 2147483587 % b) (Int.emod_nonneg _ (by omega)) (Int.emod_lt_of_pos _ hb)
        refine ⟨_, rfl, .inl ⟨rfl, _, SqL.of eR⟩, _, rfl, _, rfl, _, _, rfl, rfl, cmul_l (by rw [← ey]; omega) (by rw [← ey]; omega), _, _, rfl, rfl, (by show (0 : Int) < 2147483587; decide), _, rfl, _, _, rfl, rfl, hb, R, _, _, rfl, rfl, eR, sm, ?_⟩
        rw [ey] at g1 g2 g3
        exact ⟨_, _, _, _, rfl, g1, g2, g3⟩
    · rintro σ H' ⟨rest, o6, o7, ds, rfl, s1, eR, dD⟩
      exact ⟨_, rfl, q R ds H' dD s1 hR eR⟩
def wMax : Nat := 10 ^ 21
structure RowsAt (H : Hp) (rs : List Addr) (M : List (List Int)) : Prop where
  len : rs.length = M.length
  row : ∀ (i : Nat) (r : Addr) (x : List Int), rs[i]? = some r → M[i]? = some x → H r = some (.lst (x.map V.int))
  nd : rs.Nodup
def ent (M : List (List Int)) (i j : Nat) : Int := ((M[i]?.getD [])[j]?).getD 0
structure Sq (n : Nat) (M : List (List Int)) : Prop where
  len : M.length = n
  row : ∀ (i : Nat) (x : List Int), M[i]? = some x → x.length = n ∧ ∀ z ∈ x, z.natAbs ≤ wMax
  sym : ∀ i j : Nat, i < n → j < n → ent M i j = ent M j i
def put (M : List (List Int)) (i j : Nat) (z : Int) : List (List Int) := M.set i ((M[i]?.getD []).set j z)
theorem ent_put (M : List (List Int)) (n i j a b : Nat) (z : Int) (hl : M.length = n) (hr : ∀ (i : Nat) (x : List Int), M[i]? = some x → x.length = n) (hi : i < n) (hj : j < n) : ent (put M i j z) a b = if a = i ∧ b = j then z else ent M a b := by
  unfold ent put
  by_cases ha : a = i
  · subst ha
    rw [getElem?_set_self (by omega)]
    have hx : ∃ x, M[a]? = some x := ⟨M[a]'(by omega), by simp [hl, hi]⟩
    obtain ⟨x, hx⟩ := hx
    have lx := hr a x hx
    rw [hx]
    simp only [Option.getD_some]
    by_cases hb : b = j
    · subst hb
      rw [getElem?_set_self (by omega)]
      simp
    · rw [getElem?_set_ne (Ne.symm hb), if_neg (fun z => hb z.2)]
  · rw [getElem?_set_ne (Ne.symm ha), if_neg (fun z => ha z.1)]
theorem put_row {M : List (List Int)} {n i j : Nat} {z : Int} (hl : M.length = n) (hz : z.natAbs ≤ wMax) (hr : ∀ (i : Nat) (x : List Int), M[i]? = some x → x.length = n ∧ ∀ z ∈ x, z.natAbs ≤ wMax) :
    (put M i j z).length = n ∧ ∀ (k : Nat) (x : List Int), (put M i j z)[k]? = some x → x.length = n ∧ ∀ z ∈ x, z.natAbs ≤ wMax := by
  unfold put
  refine ⟨by rw [length_set]; exact hl, fun k x hx => ?_⟩
  by_cases hk : k = i
  · subst hk
    by_cases hlt : k < M.length
    · rw [getElem?_set_self hlt] at hx
      have hx := Option.some.inj hx
      have hy : M[k]? = some M[k] := by simp [hlt]
      have hh := hr k _ hy
      subst hx
      rw [hy]
      simp only [Option.getD_some, length_set]
      refine ⟨hh.1, fun y hy' => ?_⟩
      rcases mem_or_eq_of_mem_set hy' with q | q
      · exact hh.2 y q
      · rw [q]; exact hz
    · rw [getElem?_eq_none (by rw [length_set]; omega)] at hx
      cases hx
  · rw [getElem?_set_ne (Ne.symm hk)] at hx
    exact hr k x hx
theorem Sq.put {n : Nat} {M : List (List Int)} (S : Sq n M) {i j : Nat} {z : Int} (hi : i < n) (hj : j < n) (hz : z.natAbs ≤ wMax) : Sq n (put (put M i j z) j i z) := by
  obtain ⟨l1, r1⟩ := put_row (i := i) (j := j) S.len hz S.row
  obtain ⟨l2, r2⟩ := put_row (i := j) (j := i) l1 hz r1
  refine ⟨l2, r2, fun a b ha hb => ?_⟩
  have hr := fun (i : Nat) (x : List Int) h => (S.row i x h).1
  have hr1 := fun (k : Nat) (x : List Int) h => (r1 k x h).1
  rw [ent_put _ n j i a b z l1 hr1 hj hi, ent_put _ n j i b a z l1 hr1 hj hi, ent_put _ n i j a b z S.len hr hi hj, ent_put _ n i j b a z S.len hr hi hj]
  have := S.sym a b ha hb
  by_cases h1 : a = j ∧ b = i
  · rw [if_pos h1]
    by_cases h2 : b = j ∧ a = i
    · rw [if_pos h2]
    · rw [if_neg h2, if_pos ⟨h1.2, h1.1⟩]
  · rw [if_neg h1]
    by_cases h2 : a = i ∧ b = j
    · rw [if_pos h2, if_pos ⟨h2.2, h2.1⟩]
    · rw [if_neg h2, if_neg (fun q => h2 ⟨q.2, q.1⟩), if_neg (fun q => h1 ⟨q.2, q.1⟩)]
      exact this
theorem RowsAt.put {H : Hp} {rs : List Addr} {M : List (List Int)} (R : RowsAt H rs M) {i : Nat} {r : Addr} {x : List Int} {j : Nat} {z : Int} (hr : rs[i]? = some r) (hx : M[i]? = some x) :
    RowsAt (upd H r (.lst ((x.set j z).map V.int))) rs (put M i j z) := by
  unfold My.put
  refine ⟨by rw [length_set]; exact R.len, fun k r' x' h1 h2 => ?_, R.nd⟩
  by_cases hk : k = i
  · subst hk
    rw [hr] at h1; cases h1
    rw [getElem?_set_self (List.getElem?_eq_some_iff.mp hx).1, hx] at h2
    cases h2
    exact upd_same
  · rw [getElem?_set_ne (Ne.symm hk)] at h2
    have ne : r' ≠ r := fun e => by
      subst e
      obtain ⟨p1, q1⟩ := List.getElem?_eq_some_iff.mp h1
      obtain ⟨p2, q2⟩ := List.getElem?_eq_some_iff.mp hr
      exact hk ((List.getElem_inj R.nd).mp (q1.trans q2.symm))
    rw [upd_ne ne]
    exact R.row k r' x' h1 h2
theorem RowsAt.keep {H H' : Hp} {rs : List Addr} {M : List (List Int)} (R : RowsAt H rs M) (k : ∀ r ∈ rs, ∀ o, H r = some o → H' r = some o) : RowsAt H' rs M :=
  ⟨R.len, fun i r x h1 h2 => k r (mem_of_getElem? h1) _ (R.row i r x h1 h2), R.nd⟩
theorem RowsAt.snoc {H H' : Hp} {rs : List Addr} {M : List (List Int)} {l : Addr} {x : List Int} (R : RowsAt H rs M) (k : ∀ r ∈ rs, ∀ o, H r = some o → H' r = some o) (hl : H' l = some (.lst (x.map V.int))) (hn : l ∉ rs) : RowsAt H' (rs ++ [l]) (M ++ [x]) := by
  refine ⟨by rw [length_append, length_append, R.len]; rfl, fun i r y h1 h2 => ?_, ?_⟩
  · by_cases hi : i < rs.length
    · rw [getElem?_append_left hi] at h1
      rw [getElem?_append_left (by rw [← R.len]; exact hi)] at h2
      exact k r (mem_of_getElem? h1) _ (R.row i r y h1 h2)
    · rw [getElem?_append_right (by omega)] at h1
      rw [getElem?_append_right (by rw [← R.len]; omega), ← R.len] at h2
      cases e : i - rs.length with
      | zero => rw [e] at h1 h2; cases h1; cases h2; exact hl
      | succ j => rw [e] at h1; cases h1
  · rw [List.nodup_append]
    refine ⟨R.nd, by simp, fun a ha b hb e => ?_⟩
    rw [mem_singleton.mp hb] at e
    exact hn (e ▸ ha)
theorem RowsAt.get {H : Hp} {rs : List Addr} {M : List (List Int)} (R : RowsAt H rs M) {i : Nat} (h : i < rs.length) : ∃ r x, rs[i]? = some r ∧ M[i]? = some x ∧ H r = some (.lst (x.map V.int)) := by
  have h1 : rs[i]? = some rs[i] := by simp [h]
  have h' : i < M.length := by rw [← R.len]; exact h
  have h2 : M[i]? = some M[i] := by simp [h']
  exact ⟨_, _, h1, h2, R.row i _ _ h1 h2⟩
theorem ixN_nat {n j : Nat} (h : j < n) : ixN n (j : Int) = some j := by
  unfold ixN
  rw [if_pos (by omega), if_pos (by omega)]
  simp
theorem zeros_map (k : Nat) : (List.replicate k [V.int 0]).flatten = (List.replicate k (0 : Int)).map V.int := by
  induction k with
  | zero => rfl
  | succ k ih => rw [replicate_succ, flatten_cons, ih, replicate_succ, map_cons]; rfl
theorem sq_zero (n : Nat) : Sq n (List.replicate n (List.replicate n 0)) := by
  refine ⟨List.length_replicate, fun i x hx => ?_, fun i j hi hj => ?_⟩
  · rw [getElem?_replicate] at hx
    split at hx
    · cases hx
      refine ⟨List.length_replicate, fun z hz => ?_⟩
      rw [List.eq_of_mem_replicate hz]
      exact Nat.zero_le _
    · cases hx
  · unfold ent
    rw [getElem?_replicate, getElem?_replicate, if_pos hi, if_pos hj]
    simp only [Option.getD_some, getElem?_replicate, if_pos hi, if_pos hj]
def triAt (n u : Nat) : Nat := u * (2 * n + 1 - u) / 2
theorem tri_step : ∀ n, n < 9 → ∀ u, u < n → triAt n u + (n - u) = triAt n (u + 1) ∧ triAt n u + (n - u) ≤ n * (n + 1) / 2 := by decide
def spSquare (K : Frag) : Sp := fun vs H Q _ => ∃ (n : Nat) (d : Addr) (y : Int) (ds : List Int), vs = [.int (n : Int), .ref d, .int y] ∧ n ≤ 8 ∧ SqL K H d (ds.map V.int) ∧ Drawn 210 (n * (n + 1) / 2) ds ∧
  ∀ (p : Addr) (rs : List Addr) (M : List (List Int)) (H' : Hp), Same H H' → H p = none → (∀ r ∈ rs, H r = none ∧ r ≠ p) → H' p = some (.lst (rs.map V.ref)) → RowsAt H' rs M → Sq n M → Q (.ref p) H'
abbrev nSquare : List Str := ["_law_many", "_law_draws_here", "_law_way", "_law_rows", "_law_u", "_law_at", "_law_v", "_law_weight"]
theorem scSquare : FnScope nSquare ["_law_many", "_law_draws_here", "_law_way"] (defScope sSquare) := ⟨rfl, rfl, rfl, by decide +kernel, rfl, by decide +kernel, by decide +kernel⟩
theorem pw20 : (10 : Int) ^ (20 : Int).toNat = 100000000000000000000 := by decide
theorem ok_square {f : Addr} {fd : FuncData} (B : BltL mg) (F : Fun K "_law_square" "_law_square" sSquare f fd) : FnOk P w K mg base CX0 1 f fd ["_law_many", "_law_draws_here", "_law_way"] (spSquare K) := by
  refine F.ok scSquare (fun vs H Q E h => ?_) (fun cdv A outer s H vs Q E hr h => ?_)
  · obtain ⟨n, d, y, ds, rfl, _⟩ := h
    rfl
  · obtain ⟨k, d, y, ds, rfl, hk, hS, ⟨lD, bD⟩, q⟩ := h
    refine ⟨_, pss_cons (ps_set (i := 3) scSquare.nd rfl (Or.inl rfl) (pe_lst pa_nil))
      (pss_cons (ps_for PassesOwn.never rfl (pi_range1 rfl B.range (pa_cons (pv 0) pa_nil)) (pg_name (i := 4) scSquare.nd rfl (Or.inl rfl))
        (pss_one (ps_expr (pe_bm plainAttrs_list slot_list_append type_list_append mt_append (pv 3) (pa_cons (pe_op op_rep (pe_lst (pa_cons pe_int pa_nil)) (pv 0)) pa_nil)))))
      (pss_cons (ps_set (i := 5) scSquare.nd rfl (Or.inl rfl) pe_int)
      (pss_cons (ps_for PassesOwn.never rfl (pi_range1 rfl B.range (pa_cons (pv 0) pa_nil)) (pg_name (i := 4) scSquare.nd rfl (Or.inl rfl))
        (pss_one (ps_for PassesOwn.never rfl (pi_range2 rfl B.range (pa_cons (pv 4) (pa_cons (pv 0) pa_nil))) (pg_name (i := 6) scSquare.nd rfl (Or.inl rfl))
          (pss_cons (ps_set (i := 7) scSquare.nd rfl (Or.inl rfl) (pe_op op_mul (pe_op op_mod (pe_ix ix_list (pv 1) (pv 5) (fun _ _ => rfl)) pe_int) (pe_callTy call_int1 (by rfl) B.int boot_int (pa_cons (pe_cmpR op_lt (pv 4) (pv 6) (nomark _)) pa_nil))))
          (pss_mid (ps_if (pt_cmpR op_eq (pv 2) pe_int (nomark _)) (pss_one (ps_set (i := 7) scSquare.nd rfl (Or.inl rfl) (pe_op op_sub (pe_op op_mod (pe_ix ix_list (pv 1) (pv 5) (fun _ _ => rfl)) pe_int) pe_int))) pss_nil)
          (pss_mid (ps_if (pt_cmpR op_eq (pv 2) pe_int (nomark _)) (pss_one (ps_set (i := 7) scSquare.nd rfl (Or.inl rfl) (pe_op op_add (pe_op op_mul (pe_op op_sub (pe_op op_mod (pe_ix ix_list (pv 1) (pv 5) (fun _ _ => rfl)) pe_int) pe_int) (pe_op op_pow pe_int pe_int)) (pe_op op_mod (pe_ix ix_list (pv 1) (pv 5) (fun _ _ => rfl)) pe_int)))) pss_nil)
          (pss_cons (ps_asg (pv 7) (pg_sub (pe_ix ix_list (pv 3) (pv 4) (fun _ _ => rfl)) (pv 6) set_list))
          (pss_cons (ps_asg (pv 7) (pg_sub (pe_ix ix_list (pv 3) (pv 6) (fun _ _ => rfl)) (pv 4) set_list))
          (pss_one (ps_set (i := 5) scSquare.nd rfl (Or.inl rfl) (pe_op op_add (pv 5) pe_int)))))))))))
      (pss_one (ps_ret (pv 3)))))), ?_⟩
    refine ⟨Nat.zero_le _, fun D hD => ?_⟩
    refine ⟨_, rfl, (k : Int), rfl, by omega, by omega, for_range (n := k) (fun i σ H' => ∃ (o4 : Option V) (rs : List Addr), σ = [some (.int (k : Int)), some (.ref d), some (.int y), some (.ref D), o4, none, none, none] ∧ rs.length = i ∧ Same H H' ∧ H' D = some (.lst (rs.map V.ref)) ∧
      RowsAt H' rs (List.replicate i (List.replicate k 0)) ∧ ∀ r ∈ rs, H r = none ∧ r ≠ D) ⟨none, [], rfl, rfl, Same.upd hD, upd_same, ⟨rfl, (fun i r x h _ => by cases h), List.nodup_nil⟩, (fun r hr => by cases hr)⟩ ?_ ?_⟩
    · rintro i σ H4 hlt ⟨o4, rs, rfl, l4, c4, eD, R4, o4⟩
      refine ⟨_, rfl, .inl ⟨rfl, _, SqL.of eD⟩, sz1, fun l1 hl1 => ?_⟩
      refine ⟨_, rfl, l1, (k : Int), _, rfl, rfl, upd_same, by omega, by omega, Nat.le_of_lt (small1000 (by show 1 * (k : Int).toNat ≤ 1000; omega)), fun l2 hl2 => ?_⟩
      have n21 : l2 ≠ l1 := (ne_of_none upd_same hl2).symm
      have hl2' : H4 l2 = none := by rw [upd_ne n21] at hl2; exact hl2
      have sm : Same H4 (upd (upd H4 l1 (.lst [.int 0])) l2 (.lst (List.replicate (k : Int).toNat [V.int 0]).flatten)) := (Same.upd hl1).trans (Same.upd hl2)
      have el : upd (upd H4 l1 (.lst [.int 0])) l2 (.lst (List.replicate (k : Int).toNat [V.int 0]).flatten) l2 = some (.lst ((List.replicate k (0 : Int)).map V.int)) := by
        rw [upd_same, Int.toNat_natCast, zeros_map]
      generalize upd (upd H4 l1 (.lst [.int 0])) l2 (.lst (List.replicate (k : Int).toNat [V.int 0]).flatten) = H5 at sm el ⊢
      have l2D : l2 ≠ D := (ne_of_none eD hl2').symm
      have l2r : l2 ∉ rs := fun hm => by
        obtain ⟨j, hj, e⟩ := List.getElem_of_mem hm
        obtain ⟨r, x, g1, g2, g3⟩ := R4.get hj
        have : rs[j]? = some l2 := by rw [getElem?_eq_getElem hj, e]
        rw [g1] at this
        cases this
        rw [g3] at hl2'
        cases hl2'
      refine ⟨D, _, _, rfl, rfl, sm _ _ eD, small1000 (by rw [length_map]; omega), ?_⟩
      refine ⟨_, rs ++ [l2], rfl, by rw [length_append, l4]; rfl, fun b o e => ?_, by rw [map_append]; exact upd_same, ?_, ?_⟩
      · rw [upd_ne (ne_of_none e hD)]
        exact sm _ _ (c4 _ _ e)
      · have R5 : RowsAt H5 (rs ++ [l2]) (List.replicate i (List.replicate k 0) ++ [List.replicate k 0]) := R4.snoc (fun r _ o e => sm r o e) el l2r
        rw [← List.replicate_succ'] at R5
        refine R5.keep fun r hr o e => ?_
        have : r ≠ D := by
          rcases mem_append.mp hr with z | z
          · exact (o4 r z).2
          · rw [mem_singleton.mp z]; exact l2D
        rw [upd_ne this]
        exact e
      · intro r hr
        rcases mem_append.mp hr with z | z
        · exact o4 r z
        · rw [mem_singleton.mp z]
          exact ⟨c4.free hl2', l2D⟩
    · rintro σ H4 ⟨o4, rs, rfl, l4, c4, eD, R4, o4⟩
      refine ⟨_, rfl, (k : Int), rfl, by omega, by omega, for_range (n := k) (fun u σ H' => ∃ (o4 o6 o7 : Option V) (M : List (List Int)), σ = [some (.int (k : Int)), some (.ref d), some (.int y), some (.ref D), o4, some (.int (triAt k u : Nat)), o6, o7] ∧ Same H H' ∧ H' D = some (.lst (rs.map V.ref)) ∧
        RowsAt H' rs M ∧ Sq k M) ⟨_, _, _, _, by rw [show triAt k 0 = 0 by simp [triAt]]; rfl, c4, eD, R4, sq_zero k⟩ ?_ ?_⟩
      · rintro u σ H5 hu ⟨o4', o6, o7, M, rfl, c5, eD5, R5, S5⟩
        obtain ⟨tr1, tr2⟩ := tri_step k (by omega) u hu
        refine ⟨_, rfl, _, rfl, (0 + (u : Nat) : Int), (k : Int), rfl, ⟨by omega, by omega, by omega, by omega⟩, ?_⟩
        have eu : ((k : Int) - (0 + (u : Nat) : Int)).toNat = k - u := by omega
        rw [eu]
        refine for_range (lo := (0 + (u : Nat) : Int)) (n := k - u) (fun v σ H' => ∃ (o6 o7 : Option V) (M : List (List Int)), σ = [some (.int (k : Int)), some (.ref d), some (.int y), some (.ref D), some (.int (0 + (u : Nat) : Int)), some (.int ((triAt k u + v : Nat) : Int)), o6, o7] ∧ Same H H' ∧ H' D = some (.lst (rs.map V.ref)) ∧
          RowsAt H' rs M ∧ Sq k M) ⟨_, _, M, rfl, c5, eD5, R5, S5⟩ ?_ ?_
        · rintro v σ H6 hv ⟨o6, o7, M, rfl, c6, eD6, R6, S6⟩
          have lat : triAt k u + v < ds.length := by rw [lD]; omega
          have hat : atI (ds.map V.int) ((triAt k u + v : Nat) : Int) = some (.int (ds[triAt k u + v]'lat)) := atI_nat (by rw [getElem?_map, getElem?_eq_getElem lat]; rfl)
          obtain ⟨d0, d1⟩ := bD _ (List.getElem_mem lat)
          generalize ds[triAt k u + v]'lat = x at hat d0 d1
          have hS6 := c6.seq hS
          refine ⟨_, rfl, _, rfl, d, _, _, _, rfl, rfl, hS6, hat, _, _, rfl, rfl, (by show (0 : Int) < 2; decide), _, rfl, _, rfl, _, _, rfl, rfl, ?_⟩
          have wm : wMax = 1000000000000000000000 := by decide
          have hu' : ∀ b : Bool, (x % 2 * (if b = true then 1 else 0)).natAbs ≤ wMax := by
            intro b
            rw [wm]
            cases b
            · rw [if_neg (by decide)]; omega
            · rw [if_pos rfl]; omega
          refine .inr ⟨_, rfl, _, _, rfl, rfl, cmul_l (by show _ < x % 2; omega) (by show x % 2 < _; omega), ?_⟩
          have w0 := hu' (decide ((0 + (u : Nat) : Int) < (0 + (u : Nat) + (v : Nat) : Int)))
          refine ⟨fun σ' H' => ∃ z : Int, z.natAbs ≤ wMax ∧ σ' = [some (.int (k : Int)), some (.ref d), some (.int y), some (.ref D), some (.int (0 + (u : Nat) : Int)), some (.int ((triAt k u + v : Nat) : Int)), some (.int (0 + (u : Nat) + (v : Nat) : Int)), some (.int z)] ∧ H' = H6, ?_, ?_⟩
          · by_cases h1 : y = 1
            · refine ⟨_, rfl, rfl, _, rfl, itDP (by rw [h1]) ?_⟩
              refine ⟨_, rfl, _, rfl, d, _, _, _, rfl, rfl, hS6, hat, _, _, rfl, rfl, (by show (0 : Int) < 7; decide), _, _, rfl, rfl, ?_⟩
              exact ⟨x % 7 - 3, by rw [wm]; omega, rfl, rfl⟩
            · refine ⟨_, rfl, rfl, _, rfl, itDN (fun z => h1 (V.int.inj z)) ?_⟩
              exact ⟨_, w0, rfl, rfl⟩
          rintro σ' H' ⟨w2, w2b, rfl, rfl⟩
          refine ⟨fun σ' H'' => ∃ z : Int, z.natAbs ≤ wMax ∧ σ' = [some (.int (k : Int)), some (.ref d), some (.int y), some (.ref D), some (.int (0 + (u : Nat) : Int)), some (.int ((triAt k u + v : Nat) : Int)), some (.int (0 + (u : Nat) + (v : Nat) : Int)), some (.int z)] ∧ H'' = H', ?_, ?_⟩
          · by_cases h1 : y = 2
            · refine ⟨_, rfl, rfl, _, rfl, itDP (by rw [h1]) ?_⟩
              refine ⟨_, rfl, _, rfl, d, _, _, _, rfl, rfl, hS6, hat, _, _, rfl, rfl, (by show (0 : Int) < 5; decide), _, _, rfl, rfl, _, _, rfl, rfl, ⟨by decide, by decide, by decide⟩, _, _, rfl, rfl, cmul_l (by show _ < x % 5 - 2; omega) (by show x % 5 - 2 < _; omega), ?_⟩
              refine ⟨_, rfl, _, rfl, d, _, _, _, rfl, rfl, hS6, hat, _, _, rfl, rfl, (by show (0 : Int) < 3; decide), _, _, rfl, rfl, ?_⟩
              exact ⟨(x % 5 - 2) * 10 ^ (20 : Int).toNat + x % 3, by rw [wm, pw20]; omega, rfl, rfl⟩
            · refine ⟨_, rfl, rfl, _, rfl, itDN (fun z => h1 (V.int.inj z)) ?_⟩
              exact ⟨w2, w2b, rfl, rfl⟩
          rintro σ' H7 ⟨z, hz, rfl, rfl⟩
          obtain ⟨ru, xu, g1, g2, g3⟩ := R6.get (i := u) (by omega)
          have hru := o4 ru (mem_of_getElem? g1)
          have lxu := (S6.row u xu g2).1
          have a1 : atI (rs.map V.ref) (0 + (u : Nat) : Int) = some (.ref ru) := by rw [Int.zero_add]; exact atI_nat (by rw [getElem?_map, g1]; rfl)
          have euv : (0 + (u : Nat) + (v : Nat) : Int) = ((u + v : Nat) : Int) := by omega
          refine ⟨_, rfl, _, rfl, _, rfl, D, _, _, _, rfl, rfl, SqL.of eD6, a1, _, rfl, ru, _, _, u + v, rfl, rfl, g3, by rw [euv, length_map]; exact ixN_nat (by omega), ?_⟩
          rw [← map_set]
          have R8 := R6.put (j := u + v) (z := z) g1 g2
          have c8 : Same H (upd H7 ru (.lst ((xu.set (u + v) z).map V.int))) := fun b o e => by rw [upd_ne (ne_of_none e hru.1)]; exact c6 _ _ e
          have eD8 : upd H7 ru (.lst ((xu.set (u + v) z).map V.int)) D = _ := (upd_ne hru.2.symm).trans eD6
          generalize upd H7 ru (.lst ((xu.set (u + v) z).map V.int)) = H8 at R8 c8 eD8 ⊢
          obtain ⟨rv, xv, k1, k2, k3⟩ := R8.get (i := u + v) (by omega)
          have hrv := o4 rv (mem_of_getElem? k1)
          have lxv := ((put_row (i := u) (j := u + v) S6.len hz S6.row).2 (u + v) xv k2).1
          have a2 : atI (rs.map V.ref) (0 + (u : Nat) + (v : Nat) : Int) = some (.ref rv) := by rw [euv]; exact atI_nat (by rw [getElem?_map, k1]; rfl)
          refine ⟨_, rfl, _, rfl, _, rfl, D, _, _, _, rfl, rfl, SqL.of eD8, a2, _, rfl, rv, _, _, u, rfl, rfl, k3, by rw [Int.zero_add, length_map]; exact ixN_nat (by omega), ?_⟩
          rw [← map_set]
          refine ⟨_, rfl, _, _, rfl, rfl, ?_⟩
          refine ⟨some (.int (0 + (u : Nat) + (v : Nat) : Int)), some (.int z), _, ?_, fun b o e => ?_, (upd_ne hrv.2.symm).trans eD8, R8.put (j := u) (z := z) k1 k2, S6.put (by omega) (by omega) hz⟩
          · rfl
          · rw [upd_ne (ne_of_none e hrv.1)]; exact c8 _ _ e
        · rintro σ H6 ⟨o6, o7, M, rfl, c6, eD6, R6, S6⟩
          exact ⟨_, _, _, M, by rw [tr1], c6, eD6, R6, S6⟩
      · rintro σ H5 ⟨o4', o6, o7, M, rfl, c5, eD5, R5, S5⟩
        exact ⟨_, rfl, q D rs M H5 c5 hD o4 eD5 R5 S5⟩
theorem pi_listK {X : Cx} {tg l : Expr} {tl : TE} (hl : PE X l tl) (h : X.K = K := by rfl) : PI X tg l (iList K tl) := by subst h; exact pi_list hl
structure WebAt (H : Hp) (p hA rA : Addr) (rs : List Addr) (n : Nat) (hs : List Int) (M : List (List Int)) : Prop where
  tup : H p = some (.tup [.ref hA, .ref rA])
  hue : H hA = some (.lst (hs.map V.int))
  rws : H rA = some (.lst (rs.map V.ref))
  row : RowsAt H rs M
  len : hs.length = n
  pos : ∀ z ∈ hs, 0 ≤ z ∧ z < 3
  sq : Sq n M
def NewW (H : Hp) (p hA rA : Addr) (rs : List Addr) : Prop := (∀ a ∈ p :: hA :: rA :: rs, H a = none) ∧ hA ≠ rA ∧ hA ∉ rs ∧ rA ∉ rs
def spWebP (K : Frag) : Sp := fun vs H Q _ => ∃ (a : Addr) (ns : List Int) (t : Int) (n : Nat) (fr : Bool), vs = [.ref a, .int t, .int (n : Int), .bl fr] ∧ SqL K H a (ns.map V.int) ∧ 0 ≤ t ∧ n ≤ 8 ∧
  ∀ (p hA rA : Addr) (rs : List Addr) (hs : List Int) (M : List (List Int)) (H' : Hp), Same H H' → NewW H p hA rA rs → WebAt H' p hA rA rs n hs M → Q (.ref p) H'
abbrev nWebP : List Str := ["_law_script", "_law_at", "_law_many", "_law_free", "_law_draws_here", "_law_hues", "_law_way", "_law_square_here"]
abbrev aWebP : List Str := ["_law_script", "_law_at", "_law_many", "_law_free"]
theorem scWebP : FnScope nWebP aWebP (defScope sWebP) := ⟨rfl, rfl, rfl, by decide +kernel, rfl, by decide +kernel, by decide +kernel⟩
theorem lcWebP : LcScope (defScope sWebP) nWebP (lcScope (asgVal (bodyAt sWebP 1))) "_law_draw" := ⟨by decide +kernel, rfl, by decide +kernel, by decide +kernel, by decide +kernel, by decide +kernel, by decide +kernel, by decide +kernel, by decide +kernel, by decide +kernel⟩
theorem cut_take (ns : List Int) (n : Nat) (h : n ≤ ns.length) : cutV (ns.map V.int) none (some (n : Int)) = (ns.take n).map V.int := by
  unfold cutV
  rw [HT.sIx_none, HT.sIx_nat, List.drop_zero, length_map, Nat.min_eq_left h, Nat.sub_zero, map_take]
theorem ok_webP {f fC fD fS : Addr} {fd fdC fdD fdS : FuncData} (B : BltL mg) (F : Fun K "_law_web" "_law_web" sWebP f fd) (DC : Dn K mg "_law_cell_at" sCellAt ["_law_script", "_law_k"] fC fdC) (GC : FnOk P w K mg base CX0 1 fC fdC ["_law_script", "_law_k"] (spCell K))
    (DD : Dn K mg "_law_draws" sDraws ["_law_cell", "_law_many", "_law_base", "_law_free"] fD fdD) (GD : FnOk P w K mg base CX0 1 fD fdD ["_law_cell", "_law_many", "_law_base", "_law_free"] spDraws)
    (DS : Dn K mg "_law_square" sSquare ["_law_many", "_law_draws_here", "_law_way"] fS fdS) (GS : FnOk P w K mg base CX0 1 fS fdS ["_law_many", "_law_draws_here", "_law_way"] (spSquare K)) : FnOk P w K mg base CX0 2 f fd aWebP (spWebP K) := by
  refine F.ok scWebP (fun vs H Q E h => ?_) (fun cdv A outer s H vs Q E hr h => ?_)
  · obtain ⟨a, ns, t, n, fr, rfl, _⟩ := h
    rfl
  · obtain ⟨a, ns, t, n, fr, rfl, hS, ht, hn, q⟩ := h
    refine ⟨_, pss_cons (ps_set (i := 4) scWebP.nd rfl (Or.inr rfl) (pe_fn DD GD hr rfl (pa_cons (pe_fn DC GC hr rfl (pa_cons (pv 0) (pa_cons (pv 1) pa_nil))) (pa_cons (pe_op op_add (pv 2) pe_int) (pa_cons pe_int (pa_cons (pv 3) pa_nil))))))
      (pss_cons (ps_setLc (i := 5) scWebP.nd rfl (Or.inl rfl) rfl lcWebP rfl (pi_list (pe_slice sl_list (pv 4) po_none (po_some (pv 2)))) (fun _ _ _ => pe_op op_mul (pv 8) (pe_callTy call_int1 (by rfl) B.int boot_int (pa_cons (pe_cmpR op_gt (pe_ix (ix_listK (K := K)) (pv 4) (pv 2) (fun _ _ => rfl)) pe_int (nomark _)) pa_nil))))
      (pss_cons (ps_set (i := 6) scWebP.nd rfl (Or.inl rfl) (pe_op op_mod (pe_fn DC GC hr rfl (pa_cons (pv 0) (pa_cons (pe_op op_add (pv 1) pe_int) pa_nil))) pe_int))
      (pss_cons (ps_set (i := 7) scWebP.nd rfl (Or.inl rfl) (pe_fn DS GS hr rfl (pa_cons (pv 2) (pa_cons (pe_fn DD GD hr rfl (pa_cons (pe_fn DC GC hr rfl (pa_cons (pv 0) (pa_cons (pe_op op_add (pv 1) pe_int) pa_nil))) (pa_cons (pe_op op_fdiv (pe_op op_mul (pv 2) (pe_op op_add (pv 2) pe_int)) pe_int) (pa_cons pe_int (pa_cons (pv 3) pa_nil))))) (pa_cons (pv 6) pa_nil)))))
      (pss_one (ps_ret (pe_tup (pa_cons (pv 5) (pa_cons (pv 7) pa_nil)))))))), ?_⟩
    refine ⟨_, rfl, _, rfl, a, ns, t, rfl, hS, ht, fun c1 _ => ?_⟩
    refine ⟨_, rfl, _, _, rfl, rfl, _, rfl, c1, n + 1, 3, fr, rfl, by omega, by decide, .inl (by decide), fun d ds H1 hd s1 nd ed => ?_⟩
    obtain ⟨ld, bd⟩ := hd
    refine ⟨_, rfl, _, rfl, _, rfl, d, _, rfl, SqL.of ed, fun p hp => ?_⟩
    rw [cut_take ds n (by omega)]
    have ep : upd H1 p (.lst ((ds.take n).map V.int)) p = some (.lst ((ds.take n).map V.int)) := upd_same
    have s2 : Same H (upd H1 p (.lst ((ds.take n).map V.int))) := s1.trans (Same.upd hp)
    have ed2 : upd H1 p (.lst ((ds.take n).map V.int)) d = some (.lst (ds.map V.int)) := by rw [upd_ne (ne_of_none ed hp)]; exact ed
    generalize upd H1 p (.lst ((ds.take n).map V.int)) = H2 at ep s2 ed2 ⊢
    refine ⟨p, rfl, ⟨_, SqL.of ep⟩, fun D hD => ?_⟩
    have hnl : n < ds.length := by omega
    have hat : atI (ds.map V.int) (n : Int) = some (.int (ds[n]'hnl)) := atI_nat (by rw [getElem?_map, getElem?_eq_getElem hnl]; rfl)
    generalize ds[n]'hnl = x at hat
    refine lc_list (K := K) (xs := (ds.take n).map V.int) (fun i ys H' => ∃ hs : List Int, ys = hs.map V.int ∧ hs.length = i ∧ Same H2 H' ∧ H' D = some (.lst ys) ∧ ∀ z ∈ hs, 0 ≤ z ∧ z < 3) ?_ ?_ ?_ ?_ ?_
    · exact ⟨[], rfl, rfl, Same.upd hD, upd_same, fun z hz => by cases hz⟩
    · rintro i ys H' _ ⟨hs, rfl, lt, s3, eD, _⟩
      exact ⟨s3.seq (SqL.of ep), eD⟩
    · rintro i v ys H' hv ⟨hs, rfl, lt, s3, eD, hb⟩
      obtain ⟨z, hz, rfl⟩ := map_get hv
      have zb := bd z (mem_of_mem_take (mem_of_getElem? hz))
      have li := (List.getElem?_eq_some_iff.mp hz).1
      rw [length_take] at li
      refine ⟨_, rfl, _, rfl, _, rfl, d, _, _, _, rfl, rfl, SqL.of (s3 _ _ ed2), hat, _, _, rfl, rfl, .inr ⟨_, rfl, _, _, rfl, rfl, cmul_l (by omega) (by omega), ?_⟩⟩
      refine ⟨eD, small1000 (by rw [length_map]; omega), hs ++ [z * (if decide (0 < x) = true then 1 else 0)], by rw [map_append]; rfl, by rw [length_append, lt]; rfl, fun b o e => ?_, upd_same, ?_⟩
      · rw [upd_ne (ne_of_none e hD)]
        exact s3 _ _ e
      · intro y hy
        rcases mem_append.mp hy with g | g
        · exact hb y g
        · rw [mem_singleton.mp g]
          split <;> omega
    · rintro ys H3 ⟨hs, rfl, lt, s3, eD, hb⟩
      rw [length_map, length_take, Nat.min_eq_left (by omega)] at lt
      have c3 := s2.trans s3
      have nD : H D = none := s2.free hD
      refine ⟨_, rfl, _, rfl, _, _, rfl, rfl, a, ns, t + 2, rfl, c3.seq hS, by omega, fun c2 _ => ⟨_, _, rfl, rfl, (by show (0 : Int) < 4; decide), ?_⟩⟩
      refine ⟨_, rfl, _, rfl, _, rfl, _, _, rfl, rfl, a, ns, t + 1, rfl, c3.seq hS, by omega, fun c4 _ => ?_⟩
      have en : (n : Int) * ((n : Int) + 1) / 2 = ((n * (n + 1) / 2 : Nat) : Int) := by
        rw [show (n : Int) * ((n : Int) + 1) = ((n * (n + 1) : Nat) : Int) by push_cast; rfl]
        rfl
      have nb : n * (n + 1) / 2 ≤ 100 := by
        have : n * (n + 1) ≤ 8 * 9 := Nat.mul_le_mul hn (by omega)
        omega
      refine ⟨_, rfl, _, rfl, _, _, rfl, rfl, _, _, rfl, rfl, cmul_l (by omega) (by omega), _, _, rfl, rfl, ⟨by decide, by decide⟩, ?_⟩
      refine ⟨_, rfl, c4, n * (n + 1) / 2, 210, fr, ?_, nb, by decide, .inl (by decide), fun d' ds' H4 hd' s4 nd' ed' => ?_⟩
      · show [V.int c4, V.int ((n : Int) * ((n : Int) + 1) / 2), _, _] = _
        rw [en]
      have c5 := c3.trans s4
      refine ⟨_, rfl, n, d', c2 % 4, ds', rfl, hn, SqL.of ed', hd', fun R rs M H5 s5 nR nrs eR RR SR => ?_⟩
      have eD5 := s5 _ _ (s4 _ _ eD)
      refine ⟨_, rfl, _, rfl, sz2, fun p' hp' => ?_⟩
      have c6 := c5.trans s5
      have np := fun {b : Addr} {o : HO} (e : H5 b = some o) => ne_of_none e hp'
      have nDR : D ≠ R := fun z => by subst z; rw [s4 _ _ eD] at nR; cases nR
      refine q p' D R rs hs M _ (c6.trans (Same.upd hp')) ⟨?_, nDR, fun z => ?_, fun z => (nrs _ z).2 rfl⟩ ⟨upd_same, by rw [upd_ne (np eD5)]; exact eD5, by rw [upd_ne (np eR)]; exact eR, RR.keep fun r hr o e => by rw [upd_ne (np e)]; exact e, lt, hb, SR⟩
      · intro b hb'
        rcases mem_cons.mp hb' with rfl | hb'
        · exact c6.free hp'
        · rcases mem_cons.mp hb' with rfl | hb'
          · exact nD
          · rcases mem_cons.mp hb' with rfl | hb'
            · exact c5.free nR
            · exact c5.free (nrs b hb').1
      · have := (nrs _ z).1
        rw [s4 _ _ eD] at this
        cases this
    · rintro σ H' Q1 Q2 hq ⟨v1, e1, v2, e2, v3, e3, a1, a2, a3, a4, b1, b2, b3, b4, i1, i2, j1, j2, g⟩
      refine ⟨v1, e1, v2, e2, v3, e3, a1, a2, a3, a4, b1, b2, b3, b4, i1, i2, j1, j2, ?_⟩
      rcases g with ⟨i, f1, m1, m2, f2, f3, f4, f5⟩ | ⟨i, f1, m1, m2, f2, f3, f4, f5⟩
      · exact .inl ⟨i, f1, m1, m2, f2, f3, f4, hq _ _ f5⟩
      · exact .inr ⟨i, f1, m1, m2, f2, f3, f4, hq _ _ f5⟩
theorem rows_some {H : Hp} {rs : List Addr} {M : List (List Int)} (R : RowsAt H rs M) {r : Addr} (h : r ∈ rs) : ∃ o, H r = some o := by
  obtain ⟨j, hj, e⟩ := List.getElem_of_mem h
  obtain ⟨r', x', h1, h2, h3⟩ := R.get hj
  have : rs[j]? = some r := by rw [getElem?_eq_getElem hj, e]
  rw [h1] at this
  cases this
  exact ⟨_, h3⟩
theorem rows_out {H : Hp} {rs : List Addr} {M : List (List Int)} (R : RowsAt H rs M) {a : Addr} (h : H a = none) : a ∉ rs := fun hm => by
  obtain ⟨o, e⟩ := rows_some R hm
  rw [h] at e
  cases e
theorem lc_rows {a : Addr} {xs : List V} {te : TE} {Q : Hp → Prop} {σ : L2.St} {H1 : Hp} {D : Addr} (M : List (List Int)) (hlen : M.length = xs.length) (hm : xs.length ≤ 900) (hD : H1 D = none) (hxs : SqL K H1 a xs)
    (hs : ∀ (i : Nat) (x : V) (row : List Int) (H' : Hp), xs[i]? = some x → M[i]? = some row → Same H1 H' → te (σ ++ [some x]) H' fun v H3 => ∃ r, v = .ref r ∧ Same H' H3 ∧ H' r = none ∧ H3 r = some (.lst (row.map V.int)))
    (hd : ∀ rs H', Same H1 H' → H' D = some (.lst (rs.map V.ref)) → RowsAt H' rs M → (∀ r ∈ rs, H1 r = none ∧ r ≠ D) → Q H')
    (mono : ∀ σ H Q Q', (∀ v H1, Q v H1 → Q' v H1) → te σ H Q → te σ H Q') :
    ∃ W : Nat → Nat → List V → Hp → Prop, (∃ m, W 0 m [] (upd H1 D (.lst []))) ∧
      ∀ i m ys H', W i m ys H' → H' D = some (.lst ys) ∧ (((Itl K a).stop i H' ∧ Q H') ∨ ((Itl K a).go i H' ∧ ∀ z H2, (Itl K a).yld i H' z H2 → te (σ ++ [some z]) H2 fun v H3 => H3 D = some (.lst ys) ∧ ys.length < sizeLine ∧ ∃ m', m' < m ∧ W (i + 1) m' (ys ++ [v]) (upd H3 D (.lst (ys ++ [v]))))) := by
  refine lc_list (xs := xs) (fun i ys H' => ∃ rs' : List Addr, ys = rs'.map V.ref ∧ rs'.length = i ∧ Same H1 H' ∧ H' D = some (.lst ys) ∧ RowsAt H' rs' (M.take i) ∧ ∀ r ∈ rs', H1 r = none ∧ r ≠ D) ⟨[], rfl, rfl, Same.upd hD, upd_same, ⟨rfl, (fun i r x h _ => by cases h), List.nodup_nil⟩, (fun r hr => by cases hr)⟩ (fun i ys H' _ ⟨_, _, _, sm, eD, _⟩ => ⟨Same.sq sm hxs, eD⟩) ?_ ?_ mono
  · rintro i x ys H4 hx ⟨rs', rfl, l4, s4, eD, R4, o4⟩
    have hi : i < M.length := by rw [hlen]; exact (List.getElem?_eq_some_iff.mp hx).1
    have hrow : M[i]? = some M[i] := getElem?_eq_getElem hi
    refine mono _ _ _ _ ?_ (hs i x M[i] H4 hx hrow s4)
    rintro v H5 ⟨r, rfl, s5, hr, er⟩
    have nDr : r ≠ D := (ne_of_none eD hr).symm
    have nR := rows_out R4 hr
    have R5 : RowsAt H5 (rs' ++ [r]) (M.take i ++ [M[i]]) := R4.snoc (fun r' _ o' z => s5 r' o' z) er nR
    refine ⟨s5 _ _ eD, small1000 (by rw [length_map]; omega), rs' ++ [r], by rw [map_append]; rfl, by rw [length_append, l4]; rfl, fun b u e => ?_, upd_same, ?_, ?_⟩
    · have : b ≠ D := fun z => by subst z; rw [hD] at e; cases e
      rw [upd_ne this]
      exact s5 _ _ (s4 _ _ e)
    · rw [take_snoc hrow]
      refine R5.keep fun r' hr' o' e => ?_
      have : r' ≠ D := by
        rcases mem_append.mp hr' with z | z
        · exact (o4 r' z).2
        · rw [mem_singleton.mp z]; exact nDr
      rw [upd_ne this]
      exact e
    · intro r' hr'
      rcases mem_append.mp hr' with z | z
      · exact o4 r' z
      · rw [mem_singleton.mp z]
        exact ⟨s4.free hr, nDr⟩
  · rintro ys H4 ⟨rs', rfl, l4, s4, eD, R4, o4⟩
    rw [← hlen, take_length] at R4
    exact hd rs' H4 s4 eD R4 o4
def rLO (K : Frag) : List V → Hp → VK → Prop := fun xs H Q => ∃ p ys, xs = [.ref p] ∧ (SqL K H p ys ∨ SqT K H p ys) ∧ ∀ l, H l = none → Q (.ref l) (upd H l (.lst ys))
theorem call_list_ofK {X : Cx} (h : X.K = K := by rfl) : CallR X (.type "list") (rLO K) := by subst h; exact call_list_of
def dW (hs : List Int) (M : List (List Int)) : PyData := .tuple [dI hs, .list (M.map dI)]
theorem lay_rows : ∀ M : List (List Int), PyData.canLayAll0 (M.map dI) = true ∧ PyData.depthAll (M.map dI) ≤ 1
  | [] => ⟨rfl, Nat.zero_le _⟩
  | x :: M => by
    obtain ⟨h1, h2⟩ := lay_rows M
    obtain ⟨a1, a2⟩ := lay_dI x
    rw [map_cons]
    simp only [PyData.canLayAll0, PyData.depthAll, h1, a1, Bool.and_self, true_and]
    omega
theorem lay_dW (hs : List Int) (M : List (List Int)) : (dW hs M).canLay0 = true ∧ (dW hs M).depth ≤ 3 := by
  obtain ⟨h1, h2⟩ := lay_rows M
  obtain ⟨a1, a2⟩ := lay_dI hs
  unfold dW
  simp only [PyData.canLay0, PyData.canLayAll0, PyData.depth, PyData.depthAll, h1, a1, Bool.and_self, true_and]
  omega
theorem das_rows {H : Hp} : ∀ {rs : List Addr} {M : List (List Int)}, rs.length = M.length → (∀ (i : Nat) (r : Addr) (x : List Int), rs[i]? = some r → M[i]? = some x → H r = some (.lst (x.map V.int))) → DAs K any H (rs.map V.ref) (M.map dI)
  | [], [], _, _ => .nil
  | r :: rs, x :: M, l, h => .cons (daI trivial (SqL.of (h 0 r x rfl rfl))) (das_rows (by simpa using l) fun i r' x' h1 h2 => h (i + 1) r' x' h1 h2)
def rI (k : Nat) : List Int := (List.range k).map fun (i : Nat) => (i : Int)
theorem rI_len (k : Nat) : (rI k).length = k := by unfold rI; rw [length_map, length_range]
structure WR (H : Hp) (p : Addr) (hs : List Int) (M : List (List Int)) : Prop where
  ex : ∃ hA rA rs, H p = some (.tup [.ref hA, .ref rA]) ∧ H hA = some (.lst (hs.map V.int)) ∧ H rA = some (.lst (rs.map V.ref)) ∧ RowsAt H rs M
theorem WR.mono {H H' : Hp} {p : Addr} {hs : List Int} {M : List (List Int)} (W : WR H p hs M) (e : Same H H') : WR H' p hs M := by
  obtain ⟨hA, rA, rs, h1, h2, h3, R⟩ := W.ex
  exact ⟨hA, rA, rs, e _ _ h1, e _ _ h2, e _ _ h3, R.keep fun r _ o z => e r o z⟩
def renH (hs : List Int) (os : List Int) : List Int := os.map fun o => hs.getD o.toNat 0
def renM (M : List (List Int)) (os : List Int) : List (List Int) := os.map fun u => renH (M.getD u.toNat []) os
theorem at_int {xs : List Int} {o : Int} (h0 : 0 ≤ o) (h1 : o < (xs.length : Int)) : atI (xs.map V.int) o = some (.int (xs.getD o.toNat 0)) := by
  obtain ⟨j, rfl⟩ := Int.eq_ofNat_of_zero_le h0
  have hj : j < xs.length := by omega
  refine atI_nat ?_
  rw [getElem?_map, getElem?_eq_getElem hj]
  show some (V.int xs[j]) = some (V.int (xs.getD (Int.toNat (j : Int)) 0))
  rw [Int.toNat_natCast, getD_eq_getElem?_getD, getElem?_eq_getElem hj]
  rfl
theorem rI_mem {k : Nat} {o : Int} (h : o ∈ rI k) : 0 ≤ o ∧ o < (k : Int) := by
  unfold rI at h
  obtain ⟨i, hi, rfl⟩ := mem_map.mp h
  have := mem_range.mp hi
  omega
def spOrder : Sp := fun vs H Q _ => ∃ (c : Int) (n : Nat) (fr : Bool), vs = [.int c, .int (n : Int), .bl fr] ∧ n ≤ 8 ∧ ∀ (p : Addr) (os : List Int) (H' : Hp), Same H H' → H p = none → H' p = some (.lst (os.map V.int)) → os.Perm (rI n) → Q (.ref p) H'
abbrev nOrder : List Str := ["_law_cell", "_law_many", "_law_free", "_law_draws_here", "_law_found", "_law_k"]
abbrev aOrder : List Str := ["_law_cell", "_law_many", "_law_free"]
theorem scOrder : FnScope nOrder aOrder (defScope sOrder) := ⟨rfl, rfl, rfl, by decide +kernel, rfl, by decide +kernel, by decide +kernel⟩
theorem rI_succ (i : Nat) : rI (i + 1) = rI i ++ [(i : Int)] := by unfold rI; rw [List.range_succ, map_append]; rfl
theorem ok_order {f fD : Addr} {fd fdD : FuncData} (B : BltL mg) (F : Fun K "_law_order" "_law_order" sOrder f fd) (DD : Dn K mg "_law_draws" sDraws ["_law_cell", "_law_many", "_law_base", "_law_free"] fD fdD) (GD : FnOk P w K mg base CX0 1 fD fdD ["_law_cell", "_law_many", "_law_base", "_law_free"] spDraws) : FnOk P w K mg base CX0 2 f fd aOrder spOrder := by
  refine F.ok scOrder (fun vs H Q E h => ?_) (fun cdv A outer s H vs Q E hr h => ?_)
  · obtain ⟨c, n, fr, rfl, _⟩ := h
    rfl
  · obtain ⟨c, n, fr, rfl, hn, q⟩ := h
    refine ⟨_, pss_cons (ps_set (i := 3) scOrder.nd rfl (Or.inl rfl) (pe_fn DD GD hr rfl (pa_cons (pv 0) (pa_cons (pv 1) (pa_cons pe_int (pa_cons (pv 2) pa_nil))))))
      (pss_cons (ps_set (i := 4) scOrder.nd rfl (Or.inl rfl) (pe_lst pa_nil))
      (pss_cons (ps_for PassesOwn.never rfl (pi_range1 rfl B.range (pa_cons (pv 1) pa_nil)) (pg_name (i := 5) scOrder.nd rfl (Or.inl rfl))
        (pss_one (ps_expr (pe_bm plainAttrs_list slot_list_insert type_list_insert mt_insert (pv 4) (pa_cons (pe_op op_mod (pe_ix ix_list (pv 3) (pv 5) (fun _ _ => rfl)) (pe_op op_add (pv 5) pe_int)) (pa_cons (pv 5) pa_nil))))))
      (pss_one (ps_ret (pv 4))))), ?_⟩
    refine ⟨_, rfl, _, rfl, _, rfl, c, n, 5040, fr, rfl, by omega, by decide, .inl (by decide), fun d ds H1 hd s1 nd ed => ?_⟩
    obtain ⟨ld, bd⟩ := hd
    refine ⟨Nat.zero_le _, fun R hR => ?_⟩
    have nR : H R = none := s1.free hR
    refine ⟨_, rfl, (n : Int), rfl, by omega, by omega, for_range (n := n) (fun i σ H' => ∃ (o5 : Option V) (os : List Int), σ = [some (.int c), some (.int (n : Int)), some (.bl fr), some (.ref d), some (.ref R), o5] ∧ Same H1 H' ∧ H' R = some (.lst (os.map V.int)) ∧ os.Perm (rI i)) ⟨none, [], rfl, Same.upd hR, upd_same, List.Perm.refl _⟩ ?_ ?_⟩
    · rintro i σ H2 hi ⟨o5, os, rfl, s2, eR, pm⟩
      have li : i < ds.length := by omega
      have hat : atI (ds.map V.int) (0 + (i : Nat) : Int) = some (.int (ds[i]'li)) := by rw [Int.zero_add]; exact atI_nat (by rw [getElem?_map, getElem?_eq_getElem li]; rfl)
      have lo : os.length = i := by rw [pm.length_eq, rI_len]
      generalize ds[i]'li = x at hat
      obtain ⟨k, ek⟩ := Int.eq_ofNat_of_zero_le (Int.emod_nonneg x (by omega : (0 + (i : Nat) + 1 : Int) ≠ 0))
      have hk : k ≤ i := by
        have := Int.emod_lt_of_pos x (by omega : (0 : Int) < (0 + (i : Nat) + 1 : Int))
        omega
      refine ⟨_, rfl, .inl ⟨rfl, _, SqL.of eR⟩, _, rfl, _, rfl, d, _, _, _, rfl, rfl, SqL.of (s2 _ _ ed), hat, _, rfl, _, _, rfl, rfl, _, _, rfl, rfl, (by show (0 : Int) < 0 + (i : Nat) + 1; omega), _, rfl, ?_⟩
      refine ⟨R, _, k, .int (0 + (i : Nat) : Int), rfl, ?_, eR, by rw [length_map]; omega, small1000 (by rw [length_map]; omega), ?_⟩
      · show [V.int (x % (0 + (i : Nat) + 1)), V.int _] = _
        rw [ek]
      · refine ⟨_, os.take k ++ (i : Int) :: os.drop k, rfl, fun b o e => by rw [upd_ne (ne_of_none e hR)]; exact s2 _ _ e, ?_, ?_⟩
        · rw [upd_same, map_append, map_cons, map_take, List.map_drop, Int.zero_add]
        · rw [rI_succ]
          refine List.perm_middle.trans ?_
          rw [take_append_drop]
          exact (List.Perm.cons _ pm).trans (List.perm_append_singleton _ _).symm
    · rintro σ H2 ⟨o5, os, rfl, s2, eR, pm⟩
      exact ⟨_, rfl, q R os H2 (s1.trans s2) nR eR pm⟩
end
section
theorem rI_get {n k : Nat} (h : k < n) : (rI n)[k]? = some (k : Int) := by
  unfold rI
  rw [getElem?_map, getElem?_range h]
  rfl
theorem map_rI {α : Type} (xs : List α) (d : α) : (rI xs.length).map (fun o => xs.getD o.toNat d) = xs := by
  apply ext_getElem?
  intro i
  rw [getElem?_map]
  by_cases hi : i < xs.length
  · rw [rI_get hi, Option.map_some, Int.toNat_natCast, getD_eq_getElem?_getD, getElem?_eq_getElem hi]
    rfl
  · rw [getElem?_eq_none (by rw [rI_len]; omega), getElem?_eq_none (by omega)]
    rfl
end
section
variable {n : Nat} {os : List Int} (hp : os.Perm (rI n))
theorem ren_len (xs os : List Int) : (renH xs os).length = os.length := by unfold renH; rw [length_map]
include hp
theorem os_at {i : Nat} {o : Int} (e : os[i]? = some o) : ∃ a : Nat, o = (a : Int) ∧ a < n := by
  have := rI_mem (hp.mem_iff.mp (mem_of_getElem? e))
  obtain ⟨a, rfl⟩ := Int.eq_ofNat_of_zero_le this.1
  exact ⟨a, rfl, by omega⟩
theorem os_len : os.length = n := by rw [hp.length_eq, rI_len]
theorem ren_perm {xs : List Int} (h : xs.length = n) : (renH xs os).Perm xs := by
  subst h
  have := hp.map fun o => xs.getD o.toNat 0
  rw [map_rI] at this
  exact this
end
section
variable {P : Program} {w : World} {K : Frag} {mg : Str → Option Value} {base : Heap}
structure SqN (n : Nat) (M : List (List Int)) : Prop where
  len : M.length = n
  row : ∀ (i : Nat) (x : List Int), M[i]? = some x → x.length = n ∧ ∀ z ∈ x, z.natAbs ≤ 2 * wMax
theorem Sq.n {n : Nat} {M : List (List Int)} (S : Sq n M) : SqN n M := ⟨S.len, fun i x h => ⟨(S.row i x h).1, fun z hz => Nat.le_trans ((S.row i x h).2 z hz) (by omega)⟩⟩
structure Wz (H : Hp) (p : Addr) (n : Nat) (hs : List Int) (M : List (List Int)) : Prop where
  wr : WR H p hs M
  len : hs.length = n
  sq : SqN n M
  hb : ∀ z ∈ hs, z.natAbs ≤ 100
theorem Wz.same {H H' : Hp} {p : Addr} {n : Nat} {hs : List Int} {M : List (List Int)} (W : Wz H p n hs M) (s : Same H H') : Wz H' p n hs M := ⟨W.wr.mono s, W.len, W.sq, W.hb⟩
structure WN (H H' : Hp) (p : Addr) (hs : List Int) (M : List (List Int)) : Prop where
  ex : ∃ hA rA rs, H' p = some (.tup [.ref hA, .ref rA]) ∧ H' hA = some (.lst (hs.map V.int)) ∧ H' rA = some (.lst (rs.map V.ref)) ∧ RowsAt H' rs M ∧ (∀ a ∈ p :: hA :: rA :: rs, H a = none) ∧ hA ≠ rA ∧ hA ∉ rs ∧ rA ∉ rs
theorem lc_ints {a : Addr} {xs : List V} {te : TE} {Q : Hp → Prop} {σ : L2.St} {H1 : Hp} {D : Addr} (zs : List Int) (hlen : zs.length = xs.length) (hm : xs.length ≤ 900) (hD : H1 D = none) (hxs : SqL K H1 a xs)
    (hs : ∀ (i : Nat) (x : V) (z : Int) (H' : Hp), xs[i]? = some x → zs[i]? = some z → Same H1 H' → te (σ ++ [some x]) H' fun v H3 => v = .int z ∧ H3 = H')
    (hd : Q (upd H1 D (.lst (zs.map V.int)))) (mono : ∀ σ H Q Q', (∀ v H1, Q v H1 → Q' v H1) → te σ H Q → te σ H Q') :
    ∃ W : Nat → Nat → List V → Hp → Prop, (∃ m, W 0 m [] (upd H1 D (.lst []))) ∧
      ∀ i m ys H', W i m ys H' → H' D = some (.lst ys) ∧ (((Itl K a).stop i H' ∧ Q H') ∨ ((Itl K a).go i H' ∧ ∀ z H2, (Itl K a).yld i H' z H2 → te (σ ++ [some z]) H2 fun v H3 => H3 D = some (.lst ys) ∧ ys.length < sizeLine ∧ ∃ m', m' < m ∧ W (i + 1) m' (ys ++ [v]) (upd H3 D (.lst (ys ++ [v]))))) := by
  refine lc_list (xs := xs) (fun i ys H' => ys = (zs.take i).map V.int ∧ H' = upd H1 D (.lst ys)) ⟨rfl, rfl⟩ (fun i ys H' _ ⟨_, e⟩ => ?_) ?_ ?_ mono
  · subst e
    exact ⟨Same.sq (Same.upd hD) hxs, upd_same⟩
  · rintro i x ys H4 hx ⟨rfl, rfl⟩
    have hi : i < zs.length := by rw [hlen]; exact (List.getElem?_eq_some_iff.mp hx).1
    have hz : zs[i]? = some zs[i] := getElem?_eq_getElem hi
    refine mono _ _ _ _ ?_ (hs i x zs[i] _ hx hz (Same.upd hD))
    rintro v H5 ⟨rfl, rfl⟩
    refine ⟨upd_same, small1000 (by rw [length_map, length_take]; omega), ?_, by rw [upd_upd]⟩
    rw [take_snoc hz, map_append]
    rfl
  · rintro ys H4 ⟨rfl, rfl⟩
    rw [← hlen, take_length]
    exact hd
end
section
theorem put_gen {M : List (List Int)} {n i j : Nat} {z : Int} {Pz : Int → Prop} (hl : M.length = n) (hz : Pz z) (hr : ∀ (i : Nat) (x : List Int), M[i]? = some x → x.length = n ∧ ∀ z ∈ x, Pz z) :
    (put M i j z).length = n ∧ ∀ (k : Nat) (x : List Int), (put M i j z)[k]? = some x → x.length = n ∧ ∀ z ∈ x, Pz z := by
  unfold put
  refine ⟨by rw [length_set]; exact hl, fun k x hx => ?_⟩
  by_cases hk : k = i
  · subst hk
    by_cases hlt : k < M.length
    · rw [getElem?_set_self hlt] at hx
      have hx := Option.some.inj hx
      have hy : M[k]? = some M[k] := by simp [hlt]
      have hh := hr k _ hy
      subst hx
      rw [hy]
      simp only [Option.getD_some, length_set]
      refine ⟨hh.1, fun y hy' => ?_⟩
      rcases mem_or_eq_of_mem_set hy' with q | q
      · exact hh.2 y q
      · rw [q]; exact hz
    · rw [getElem?_eq_none (by rw [length_set]; omega)] at hx
      cases hx
  · rw [getElem?_set_ne (Ne.symm hk)] at hx
    exact hr k x hx
theorem SqN.put {n : Nat} {M : List (List Int)} (S : SqN n M) (i j : Nat) {z : Int} (hz : z.natAbs ≤ 2 * wMax) : SqN n (put M i j z) := by
  obtain ⟨a, b⟩ := put_gen (i := i) (j := j) (Pz := fun z => z.natAbs ≤ 2 * wMax) S.len hz S.row
  exact ⟨a, b⟩
theorem SqN.ent {n : Nat} {M : List (List Int)} (S : SqN n M) {i j a b : Nat} {z : Int} (hi : i < n) (hj : j < n) : ent (My.put M i j z) a b = if a = i ∧ b = j then z else My.ent M a b :=
  ent_put M n i j a b z S.len (fun i x h => (S.row i x h).1) hi hj
theorem cell_eq {m a u s s' : Nat} (ha : a < m) (hu : u < m) (hs : s < 2) (hs' : s' < 2) : a + s * m = u + s' * m ↔ a = u ∧ s = s' := by
  have h1 : s = 0 ∨ s = 1 := by omega
  have h2 : s' = 0 ∨ s' = 1 := by omega
  constructor
  · intro h
    rcases h1 with q | q <;> rcases h2 with q' | q' <;> rw [q, q'] at h ⊢ <;> omega
  · rintro ⟨rfl, rfl⟩
    rfl
theorem cell_lt {m a s : Nat} (ha : a < m) (hs : s < 2) : a + s * m < 2 * m := by
  have h1 : s = 0 ∨ s = 1 := by omega
  rcases h1 with rfl | rfl <;> simp only [Nat.zero_mul, Nat.one_mul] <;> omega
def liftS (m : Nat) (tw : Nat → Nat → Nat) (R : Nat → Nat → Int) (N : List (List Int)) (u v s : Nat) : List (List Int) := put (put N (u + s * m) (v + (s + tw u v) % 2 * m) (R u v)) (v + (s + tw u v) % 2 * m) (u + s * m) (R u v)
def LfD (m : Nat) (tw : Nat → Nat → Nat) (R : Nat → Nat → Int) (dn : Nat → Nat → Prop) (N : List (List Int)) : Prop :=
  ∀ a b s t : Nat, a < m → b < m → s < 2 → t < 2 → (dn (min a b) (max a b) → ent N (a + s * m) (b + t * m) = if (s + t) % 2 = tw (min a b) (max a b) then R (min a b) (max a b) else 0) ∧ (¬ dn (min a b) (max a b) → ent N (a + s * m) (b + t * m) = 0)
theorem lift_pair {m : Nat} {tw : Nat → Nat → Nat} {R : Nat → Nat → Int} {dn : Nat → Nat → Prop} {N : List (List Int)} {u v : Nat} (ht : tw u v < 2) (uv : u ≤ v) (hv : v < m) (S : SqN (2 * m) N) (hR : (R u v).natAbs ≤ 2 * wMax) (nd : ¬ dn u v) (L : LfD m tw R dn N) :
    LfD m tw R (fun x y => dn x y ∨ (x = u ∧ y = v)) (liftS m tw R (liftS m tw R N u v 0) u v 1) := by
  intro a b s t ha hb hs ht'
  have hu : u < m := by omega
  have m0 : (0 + tw u v) % 2 < 2 := Nat.mod_lt _ (by decide)
  have m1 : (1 + tw u v) % 2 < 2 := Nat.mod_lt _ (by decide)
  have c1 := cell_lt (m := m) hu (show 0 < 2 by decide)
  have c2 := cell_lt (m := m) hv m0
  have c3 := cell_lt (m := m) hu (show 1 < 2 by decide)
  have c4 := cell_lt (m := m) hv m1
  have S1 := S.put (u + 0 * m) (v + (0 + tw u v) % 2 * m) hR
  have S2 := S1.put (v + (0 + tw u v) % 2 * m) (u + 0 * m) hR
  have S3 := S2.put (u + 1 * m) (v + (1 + tw u v) % 2 * m) hR
  have e : ent (liftS m tw R (liftS m tw R N u v 0) u v 1) (a + s * m) (b + t * m) =
      if (a = v ∧ s = (1 + tw u v) % 2) ∧ b = u ∧ t = 1 then R u v else if (a = u ∧ s = 1) ∧ b = v ∧ t = (1 + tw u v) % 2 then R u v else
      if (a = v ∧ s = (0 + tw u v) % 2) ∧ b = u ∧ t = 0 then R u v else if (a = u ∧ s = 0) ∧ b = v ∧ t = (0 + tw u v) % 2 then R u v else ent N (a + s * m) (b + t * m) := by
    unfold liftS
    rw [S3.ent c4 c3, S2.ent c3 c4, S1.ent c2 c1, S.ent c1 c2]
    simp only [cell_eq ha hv hs m1, cell_eq hb hu ht' (show 1 < 2 by decide), cell_eq ha hu hs (show 1 < 2 by decide), cell_eq hb hv ht' m1, cell_eq ha hv hs m0, cell_eq hb hu ht' (show 0 < 2 by decide), cell_eq ha hu hs (show 0 < 2 by decide), cell_eq hb hv ht' m0]
  rw [e]
  obtain ⟨l1, l2⟩ := L a b s t ha hb hs ht'
  have hs2 : s = 0 ∨ s = 1 := by omega
  have ht2 : t = 0 ∨ t = 1 := by omega
  have hw2 : tw u v = 0 ∨ tw u v = 1 := by omega
  by_cases cur : min a b = u ∧ max a b = v
  · have mm : (a = u ∧ b = v) ∨ (a = v ∧ b = u) := by omega
    rw [cur.1, cur.2] at l2 ⊢
    have e0 := l2 nd
    refine ⟨fun _ => ?_, fun z => absurd (Or.inr ⟨rfl, rfl⟩) z⟩
    rw [e0]
    rcases mm with ⟨ra, rb⟩ | ⟨ra, rb⟩ <;> rcases hs2 with rfl | rfl <;> rcases ht2 with rfl | rfl <;> rcases hw2 with hw | hw <;> rw [hw] <;> simp [ra, rb]
  · have n1 : ¬ (a = v ∧ b = u) := fun z => cur (by omega)
    have n2 : ¬ (a = u ∧ b = v) := fun z => cur (by omega)
    rw [if_neg (fun z => n1 ⟨z.1.1, z.2.1⟩), if_neg (fun z => n2 ⟨z.1.1, z.2.1⟩), if_neg (fun z => n1 ⟨z.1.1, z.2.1⟩), if_neg (fun z => n2 ⟨z.1.1, z.2.1⟩)]
    exact ⟨fun z => l1 (z.resolve_right cur), fun z => l2 fun y => z (.inl y)⟩
theorem ent_row {M : List (List Int)} {i j : Nat} {W : List Int} (h : M[i]? = some W) : ent M i j = W.getD j 0 := by
  unfold ent
  rw [h, getD_eq_getElem?_getD]
  rfl
end
section
variable {P : Program} {w : World} {K : Frag} {mg : Str → Option Value} {base : Heap}
def spLRen : Sp := fun vs H Q _ => ∃ (wA oA : Addr) (n : Nat) (hs : List Int) (M : List (List Int)) (os : List Int), vs = [.ref wA, .ref oA] ∧ WR H wA hs M ∧ hs.length = n ∧ SqN n M ∧ n ≤ 8 ∧ H oA = some (.lst (os.map V.int)) ∧ os.Perm (rI n) ∧
  ∀ p H', Same H H' → WN H H' p (renH hs os) (renM M os) → Q (.ref p) H'
abbrev nLRen : List Str := ["_law_web_here", "_law_order_here", "_law_hues", "_law_rows"]
def lcElt (e : Expr) : Expr := match e with
  | .ListComp x _ _ _ => x
  | _ => .Constant .none 0 ⟨0, 0, 0, 0⟩
theorem scLRen : FnScope nLRen ["_law_web_here", "_law_order_here"] (defScope sLRen) := ⟨rfl, rfl, rfl, by decide +kernel, rfl, by decide +kernel, by decide +kernel⟩
theorem lcLRen0 : LcScope (defScope sLRen) nLRen (lcScope (tupAt (asgVal (bodyAt sLRen 1)) 0)) "_law_k" := ⟨by decide +kernel, rfl, by decide +kernel, by decide +kernel, by decide +kernel, by decide +kernel, by decide +kernel, by decide +kernel, by decide +kernel, by decide +kernel⟩
theorem lcLRen1 : LcScope (defScope sLRen) nLRen (lcScope (tupAt (asgVal (bodyAt sLRen 1)) 1)) "_law_k" := ⟨by decide +kernel, rfl, by decide +kernel, by decide +kernel, by decide +kernel, by decide +kernel, by decide +kernel, by decide +kernel, by decide +kernel, by decide +kernel⟩
def blkLRen : Scope := relabel (lcScope (tupAt (asgVal (bodyAt sLRen 1)) 1)) (envOfC "" (defScope sLRen) 0 0 .none)
theorem lcLRen2 : LcScope blkLRen (blkN nLRen "_law_k") (lcScope (lcElt (tupAt (asgVal (bodyAt sLRen 1)) 1))) "_law_j" := ⟨by decide +kernel, rfl, by decide +kernel, by decide +kernel, by decide +kernel, by decide +kernel, by decide +kernel, by decide +kernel, by decide +kernel, by decide +kernel⟩
theorem ok_lren {f : Addr} {fd : FuncData} (F : Fun K "_law_renamed" "_law_renamed" sLRen f fd) : FnOk P w K mg base CX0 1 f fd ["_law_web_here", "_law_order_here"] spLRen := by
  refine F.ok scLRen (fun vs H Q E h => ?_) (fun cdv A outer s H vs Q E hr h => ?_)
  · obtain ⟨wA, oA, n, hs, M, os, rfl, _⟩ := h
    rfl
  · obtain ⟨wA, oA, n, hs, M, os, rfl, hW, hl, hS, hn, ho, hp, q⟩ := h
    obtain ⟨hA, rA, rs, w1, w2, w3, R⟩ := hW.ex
    have hmem : ∀ o ∈ os, 0 ≤ o ∧ o < (n : Int) := fun o h => rI_mem (hp.mem_iff.mp h)
    have hlos : os.length = n := by rw [hp.length_eq, rI_len]
    refine ⟨_, pss_cons (ps_asg (pv 0) (pg_tup rfl (pgs_cons (pg_name (i := 2) scLRen.nd rfl (Or.inr rfl)) (pgs_cons (pg_name (i := 3) scLRen.nd rfl (Or.inr rfl)) pgs_nil))))
      (pss_one (ps_ret (pe_tup (pa_cons (pe_lc rfl lcLRen0 rfl (pi_list (pv 1)) (fun _ _ _ => pe_ix (ix_listK (K := K)) (pv 2) (pv 4) (fun _ _ => rfl))) (pa_cons (pe_lc rfl lcLRen1 rfl (pi_list (pv 1))
        (fun _ _ _ => pe_lc rfl lcLRen2 rfl (pi_listK (K := K) (pv 1)) (fun _ _ _ => pe_ix (ix_listK (K := K)) (pe_ix (ix_listK (K := K)) (pv 3) (pv 4) (fun _ _ => rfl)) (pv 5) (fun _ _ => rfl)))) pa_nil))))), ?_⟩
    refine ⟨_, rfl, wA, _, rfl, SqT.of w1, rfl, _, _, rfl, _, _, rfl, rfl, ?_⟩
    refine ⟨_, rfl, oA, rfl, ⟨_, SqL.of ho⟩, fun D hD => ?_⟩
    refine lc_ints (xs := os.map V.int) (renH hs os) (by unfold renH; rw [length_map, length_map]) (by rw [length_map]; omega) hD (SqL.of ho) ?_ ?_ ?_
    · intro i x z H1 hx hz s1
      obtain ⟨o, ho', rfl⟩ := map_get hx
      obtain ⟨o2, ho2, rfl⟩ := map_get (show (os.map fun o => hs.getD o.toNat 0)[i]? = some z from hz)
      rw [ho'] at ho2
      cases ho2
      have hm := hmem o (mem_of_getElem? ho')
      exact ⟨_, rfl, _, rfl, hA, _, _, _, rfl, rfl, SqL.of (s1 _ _ w2), at_int hm.1 (by rw [hl]; exact hm.2), rfl, rfl⟩
    · have s1 : Same H (upd H D (.lst ((renH hs os).map V.int))) := Same.upd hD
      have e1 : upd H D (.lst ((renH hs os).map V.int)) D = some (.lst ((renH hs os).map V.int)) := upd_same
      generalize upd H D (.lst ((renH hs os).map V.int)) = H1 at s1 e1 ⊢
      refine ⟨_, rfl, oA, rfl, ⟨_, SqL.of (s1 _ _ ho)⟩, fun D2 hD2 => ?_⟩
      have nDD : D ≠ D2 := ne_of_none e1 hD2
      refine lc_rows (xs := os.map V.int) (renM M os) (by unfold renM; rw [length_map, length_map]) (by rw [length_map]; omega) hD2 (SqL.of (s1 _ _ ho)) ?_ ?_ ?_
      · intro i x row H2 hx hrow s2
        obtain ⟨o, ho', rfl⟩ := map_get hx
        obtain ⟨o2, ho2, rfl⟩ := map_get (show (os.map fun o => renH (M.getD o.toNat []) os)[i]? = some row from hrow)
        rw [ho'] at ho2
        cases ho2
        have hm := hmem o (mem_of_getElem? ho')
        obtain ⟨j, rfl⟩ := Int.eq_ofNat_of_zero_le hm.1
        have hj : j < rs.length := by rw [R.len, hS.len]; omega
        obtain ⟨r, xr, g1, g2, g3⟩ := R.get hj
        have t2 := s1.trans s2
        have hlr := (hS.row j xr g2).1
        have er : M.getD (Int.toNat (j : Int)) [] = xr := by rw [Int.toNat_natCast, getD_some g2]
        rw [er]
        refine ⟨_, rfl, oA, rfl, ⟨_, SqL.of (t2 _ _ ho)⟩, fun D3 hD3 => ?_⟩
        refine lc_ints (xs := os.map V.int) (renH xr os) (by unfold renH; rw [length_map, length_map]) (by rw [length_map]; omega) hD3 (SqL.of (t2 _ _ ho)) ?_ ?_ ?_
        · intro i' x' z H3 hx' hz' s3
          obtain ⟨o', ho1, rfl⟩ := map_get hx'
          obtain ⟨o2, ho2, rfl⟩ := map_get (show (os.map fun o => xr.getD o.toNat 0)[i']? = some z from hz')
          rw [ho1] at ho2
          cases ho2
          have hm' := hmem o' (mem_of_getElem? ho1)
          have t3 := t2.trans s3
          exact ⟨_, rfl, _, rfl, rA, _, _, _, rfl, rfl, SqL.of (t3 _ _ w3), at_ref g1, _, rfl, r, _, _, _, rfl, rfl, SqL.of (t3 _ _ g3), at_int hm'.1 (by rw [hlr]; exact hm'.2), rfl, rfl⟩
        · exact ⟨D3, rfl, Same.upd hD3, hD3, upd_same⟩
        · rintro σ H' Q1 Q2 hq ⟨v, x1, v2, x2, p2, y3, i2, z2, y4, y5, y6, y7, v4, y8, p3, u3, i3, z3, u4, u5, u6, u7, u8⟩
          exact ⟨v, x1, v2, x2, p2, y3, i2, z2, y4, y5, y6, y7, v4, y8, p3, u3, i3, z3, u4, u5, u6, u7, hq _ _ u8⟩
      · intro rs1 H2 s2 eD R2 f2
        refine ⟨sz2, fun tA htA => ?_⟩
        have s3 : Same H2 (upd H2 tA (.tup [.ref D, .ref D2])) := Same.upd htA
        refine q tA _ ((s1.trans s2).trans s3) ⟨D, D2, rs1, upd_same, s3 _ _ (s2 _ _ e1), s3 _ _ eD, R2.keep fun r _ o z => s3 r o z, ?_, nDD, fun z => ?_, fun z => (f2 _ z).2 rfl⟩
        · intro a ha
          rcases mem_cons.mp ha with rfl | ha
          · exact (s1.trans s2).free htA
          · rcases mem_cons.mp ha with rfl | ha
            · exact hD
            · rcases mem_cons.mp ha with rfl | ha
              · exact s1.free hD2
              · exact s1.free (f2 a ha).1
        · have := (f2 _ z).1
          rw [e1] at this
          cases this
      · rintro σ H' Q1 Q2 hq ⟨v, e, a, e2, e3, g⟩
        exact ⟨v, e, a, e2, e3, fun D hD => let ⟨W, m0, st⟩ := g D hD; ⟨W, m0, fun i m ys H' hw => let ⟨a1, a2⟩ := st i m ys H' hw; ⟨a1, a2.imp (fun ⟨b1, b2⟩ => ⟨b1, hq _ _ b2⟩) id⟩⟩⟩
    · rintro σ H' Q1 Q2 hq ⟨v, x1, v2, x2, p2, y3, i2, z2, y4, y5, y6, y7, y8⟩
      exact ⟨v, x1, v2, x2, p2, y3, i2, z2, y4, y5, y6, y7, hq _ _ y8⟩
def spLift (K : Frag) : Sp := fun vs H Q _ => ∃ (wA : Addr) (m : Nat) (hs : List Int) (M : List (List Int)) (c : Int) (fr : Bool), vs = [.ref wA, .int c, .bl fr] ∧ Wz H wA m hs M ∧ m ≤ 4 ∧
  ∀ (p : Addr) (N : List (List Int)) (H' : Hp), Same H H' → Wz H' p (2 * m) (hs ++ hs) N → Q (.ref p) H'
abbrev nLift : List Str := ["_law_web_here", "_law_cell", "_law_free", "_law_hues", "_law_rows", "_law_many", "_law_twists", "_law_square_here", "_law_u", "_law_v", "_law_side", "_law_there", "_law_here"]
abbrev aLift : List Str := ["_law_web_here", "_law_cell", "_law_free"]
theorem scLift : FnScope nLift aLift (defScope sLift) := ⟨rfl, rfl, rfl, by decide +kernel, rfl, by decide +kernel, by decide +kernel⟩
theorem sqN_zero (n : Nat) : SqN n (List.replicate n (List.replicate n 0)) := (sq_zero n).n
theorem lf_zero {m : Nat} {tw : Nat → Nat → Nat} {R : Nat → Nat → Int} {dn : Nat → Nat → Prop} (h : ∀ x y, ¬ dn x y) : LfD m tw R dn (List.replicate (2 * m) (List.replicate (2 * m) 0)) := by
  intro a b s t ha hb hs ht
  refine ⟨fun z => absurd z (h _ _), fun _ => ?_⟩
  unfold ent
  rw [getElem?_replicate, if_pos (cell_lt ha hs)]
  simp only [Option.getD_some, getElem?_replicate, if_pos (cell_lt hb ht)]
theorem LfD.mono {m : Nat} {tw : Nat → Nat → Nat} {R : Nat → Nat → Int} {dn dn' : Nat → Nat → Prop} {N : List (List Int)} (L : LfD m tw R dn N) (h : ∀ x y, x ≤ y → y < m → (dn x y ↔ dn' x y)) : LfD m tw R dn' N := by
  intro a b s t ha hb hs ht
  obtain ⟨l1, l2⟩ := L a b s t ha hb hs ht
  have e := h (min a b) (max a b) (by omega) (by omega)
  exact ⟨fun z => l1 (e.mpr z), fun z => l2 fun y => z (e.mp y)⟩
theorem ok_lift {f fD : Addr} {fd fdD : FuncData} (B : BltL mg) (F : Fun K "_law_lift" "_law_lift" sLift f fd) (DD : Dn K mg "_law_draws" sDraws ["_law_cell", "_law_many", "_law_base", "_law_free"] fD fdD) (GD : FnOk P w K mg base CX0 1 fD fdD ["_law_cell", "_law_many", "_law_base", "_law_free"] spDraws) : FnOk P w K mg base CX0 2 f fd aLift (spLift K) := by
  refine F.ok scLift (fun vs H Q E h => ?_) (fun cdv A outer s H vs Q E hr h => ?_)
  · obtain ⟨wA, m, hs, M, c, fr, rfl, _⟩ := h
    rfl
  · obtain ⟨wA, m, hs, M, c, fr, rfl, W, hm, q⟩ := h
    obtain ⟨hA, rA, rs, w1, w2, w3, RM⟩ := W.wr.ex
    refine ⟨_, pss_cons (ps_asg (pv 0) (pg_tup rfl (pgs_cons (pg_name (i := 3) scLift.nd rfl (Or.inl rfl)) (pgs_cons (pg_name (i := 4) scLift.nd rfl (Or.inl rfl)) pgs_nil))))
      (pss_cons (ps_set (i := 5) scLift.nd rfl (Or.inl rfl) (pe_callB call_len_seq (by rfl) B.len boot_len (pa_cons (pv 3) pa_nil)))
      (pss_cons (ps_set (i := 6) scLift.nd rfl (Or.inl rfl) (pe_fn DD GD hr rfl (pa_cons (pv 1) (pa_cons (pe_op op_mul (pv 5) (pv 5)) (pa_cons pe_int (pa_cons (pv 2) pa_nil))))))
      (pss_cons (ps_set (i := 7) scLift.nd rfl (Or.inl rfl) (pe_lst pa_nil))
      (pss_cons (ps_for PassesOwn.never rfl (pi_range1 rfl B.range (pa_cons (pe_op op_mul pe_int (pv 5)) pa_nil)) (pg_name (i := 8) scLift.nd rfl (Or.inl rfl))
        (pss_one (ps_expr (pe_bm plainAttrs_list slot_list_append type_list_append mt_append (pv 7) (pa_cons (pe_op op_rep (pe_lst (pa_cons pe_int pa_nil)) (pe_op op_mul pe_int (pv 5))) pa_nil)))))
      (pss_cons (ps_for PassesOwn.never rfl (pi_range1 rfl B.range (pa_cons (pv 5) pa_nil)) (pg_name (i := 8) scLift.nd rfl (Or.inl rfl))
        (pss_one (ps_for PassesOwn.never rfl (pi_range2 rfl B.range (pa_cons (pv 8) (pa_cons (pv 5) pa_nil))) (pg_name (i := 9) scLift.nd rfl (Or.inl rfl))
          (pss_one (ps_for PassesOwn.never rfl (pi_range1 rfl B.range (pa_cons pe_int pa_nil)) (pg_name (i := 10) scLift.nd rfl (Or.inl rfl))
            (pss_cons (ps_set (i := 11) scLift.nd rfl (Or.inl rfl) (pe_op op_mod (pe_op op_add (pv 10) (pe_ix ix_list (pv 6) (pe_op op_add (pe_op op_mul (pv 8) (pv 5)) (pv 9)) (fun _ _ => rfl))) pe_int))
            (pss_cons (ps_set (i := 12) scLift.nd rfl (Or.inl rfl) (pe_op op_add (pv 8) (pe_op op_mul (pv 10) (pv 5))))
            (pss_cons (ps_set (i := 11) scLift.nd rfl (Or.inl rfl) (pe_op op_add (pv 9) (pe_op op_mul (pv 11) (pv 5))))
            (pss_cons (ps_asg (pe_ix ix_list (pe_ix ix_list (pv 4) (pv 8) (fun _ _ => rfl)) (pv 9) (fun _ _ => rfl)) (pg_sub (pe_ix ix_list (pv 7) (pv 12) (fun _ _ => rfl)) (pv 11) set_list))
            (pss_one (ps_asg (pe_ix ix_list (pe_ix ix_list (pv 4) (pv 8) (fun _ _ => rfl)) (pv 9) (fun _ _ => rfl)) (pg_sub (pe_ix ix_list (pv 7) (pv 11) (fun _ _ => rfl)) (pv 12) set_list))))))))))))
      (pss_one (ps_ret (pe_tup (pa_cons (pe_op op_cat (pv 3) (pv 3)) (pa_cons (pv 7) pa_nil)))))))))), ?_⟩
    refine ⟨_, rfl, wA, _, rfl, SqT.of w1, rfl, _, _, rfl, _, _, rfl, rfl, ?_⟩
    refine ⟨_, rfl, hA, _, rfl, .inl (SqL.of w2), ?_⟩
    rw [length_map, W.len]
    have mm : m * m ≤ 16 := Nat.mul_le_mul hm hm
    refine ⟨_, rfl, _, rfl, _, rfl, _, _, rfl, rfl, cmul_l (by omega) (by omega), _, rfl, c, m * m, 2, fr, ?_, by omega, by decide, .inl (by decide), fun T ds H1 hd s1 nT eT => ?_⟩
    · show [V.int c, V.int ((m : Int) * (m : Int)), _, _] = _
      rw [show (m : Int) * (m : Int) = ((m * m : Nat) : Int) by push_cast; rfl]
    obtain ⟨ld, bd⟩ := hd
    refine ⟨Nat.zero_le _, fun D hD => ?_⟩
    have nD : H D = none := s1.free hD
    have e2m : (2 : Int) * (m : Int) = ((2 * m : Nat) : Int) := by push_cast; rfl
    refine ⟨_, rfl, _, _, rfl, rfl, cmul_l (by decide) (by decide), _, rfl, by omega, by omega, ?_⟩
    have etn : ((2 : Int) * (m : Int)).toNat = 2 * m := by omega
    rw [etn]
    refine for_range (n := 2 * m) (fun i σ H' => ∃ (o8 : Option V) (rs' : List Addr), σ = [some (.ref wA), some (.int c), some (.bl fr), some (.ref hA), some (.ref rA), some (.int (m : Int)), some (.ref T), some (.ref D), o8, none, none, none, none] ∧ rs'.length = i ∧ Same H1 H' ∧ H' D = some (.lst (rs'.map V.ref)) ∧
      RowsAt H' rs' (List.replicate i (List.replicate (2 * m) 0)) ∧ ∀ r ∈ rs', H1 r = none ∧ r ≠ D) ⟨none, [], rfl, rfl, Same.upd hD, upd_same, ⟨rfl, (fun i r x h _ => by cases h), List.nodup_nil⟩, (fun r hr => by cases hr)⟩ ?_ ?_
    · rintro i σ H4 hlt ⟨o8, rs', rfl, l4, c4, eD, R4, o4⟩
      refine ⟨_, rfl, .inl ⟨rfl, _, SqL.of eD⟩, sz1, fun l1 hl1 => ?_⟩
      refine ⟨_, rfl, _, _, rfl, rfl, cmul_l (by decide) (by decide), l1, _, _, rfl, rfl, upd_same, by omega, by omega, Nat.le_of_lt (small1000 (by rw [etn]; show 1 * (2 * m) ≤ 1000; omega)), fun l2 hl2 => ?_⟩
      rw [etn, zeros_map] at *
      have n21 : l2 ≠ l1 := (ne_of_none upd_same hl2).symm
      have hl2' : H4 l2 = none := by rw [upd_ne n21] at hl2; exact hl2
      have sm : Same H4 (upd (upd H4 l1 (.lst [.int 0])) l2 (.lst ((List.replicate (2 * m) (0 : Int)).map V.int))) := (Same.upd hl1).trans (Same.upd hl2)
      have el : upd (upd H4 l1 (.lst [.int 0])) l2 (.lst ((List.replicate (2 * m) (0 : Int)).map V.int)) l2 = some (.lst ((List.replicate (2 * m) (0 : Int)).map V.int)) := upd_same
      generalize upd (upd H4 l1 (.lst [.int 0])) l2 (.lst ((List.replicate (2 * m) (0 : Int)).map V.int)) = H5 at sm el ⊢
      have l2D : l2 ≠ D := (ne_of_none eD hl2').symm
      have l2r : l2 ∉ rs' := rows_out R4 hl2'
      refine ⟨D, _, _, rfl, rfl, sm _ _ eD, small1000 (by rw [length_map]; omega), ?_⟩
      refine ⟨_, rs' ++ [l2], rfl, by rw [length_append, l4]; rfl, fun b o e => ?_, by rw [map_append]; exact upd_same, ?_, ?_⟩
      · rw [upd_ne (ne_of_none e hD)]
        exact sm _ _ (c4 _ _ e)
      · have R5 : RowsAt H5 (rs' ++ [l2]) (List.replicate i (List.replicate (2 * m) 0) ++ [List.replicate (2 * m) 0]) := R4.snoc (fun r _ o e => sm r o e) el l2r
        rw [← List.replicate_succ'] at R5
        refine R5.keep fun r hr o e => ?_
        have : r ≠ D := by
          rcases mem_append.mp hr with z | z
          · exact (o4 r z).2
          · rw [mem_singleton.mp z]; exact l2D
        rw [upd_ne this]
        exact e
      · intro r hr
        rcases mem_append.mp hr with z | z
        · exact o4 r z
        · rw [mem_singleton.mp z]
          exact ⟨c4.free hl2', l2D⟩
    · rintro σ H4 ⟨o8, rs', rfl, l4, c4, eD, R4, o4⟩
      obtain ⟨tw, htw⟩ : ∃ tw : Nat → Nat → Nat, tw = fun u v => ((ds[u * m + v]?).getD 0).toNat := ⟨_, rfl⟩
      have ix : ∀ {u v : Nat}, u < m → v < m → u * m + v < m * m := fun {u v} hu hv => by
        have h1 : (u + 1) * m ≤ m * m := Nat.mul_le_mul_right m hu
        rw [Nat.add_mul, Nat.one_mul] at h1
        omega
      have twd : ∀ {u v : Nat}, u < m → v < m → ds[u * m + v]? = some ((tw u v : Nat) : Int) ∧ tw u v < 2 := fun {u v} hu hv => by
        obtain ⟨d, ed⟩ := get_lt (l := ds) (i := u * m + v) (by rw [ld]; exact ix hu hv)
        obtain ⟨d0, d1⟩ := bd d (mem_of_getElem? ed)
        have e : tw u v = d.toNat := by rw [htw]; show ((ds[u * m + v]?).getD 0).toNat = _; rw [ed]; rfl
        rw [e, ed]
        exact ⟨by congr 1; omega, by omega⟩
      clear htw
      have t4 := s1.trans c4
      refine ⟨_, rfl, (m : Int), rfl, by omega, by omega, for_range (n := m) (fun u σ H' => ∃ (o8 o9 o10 o11 o12 : Option V) (N : List (List Int)), σ = [some (.ref wA), some (.int c), some (.bl fr), some (.ref hA), some (.ref rA), some (.int (m : Int)), some (.ref T), some (.ref D), o8, o9, o10, o11, o12] ∧ Same H1 H' ∧ H' D = some (.lst (rs'.map V.ref)) ∧
        RowsAt H' rs' N ∧ SqN (2 * m) N ∧ LfD m tw (ent M) (fun x _ => x < u) N) ⟨_, _, _, _, _, _, rfl, c4, eD, R4, sqN_zero _, lf_zero fun x y z => absurd z (Nat.not_lt_zero _)⟩ ?_ ?_⟩
      · rintro u σ H5 hu ⟨o8, o9, o10, o11, o12, N, rfl, c5, eD5, R5, S5, L5⟩
        refine ⟨_, rfl, _, rfl, (0 + (u : Nat) : Int), (m : Int), rfl, ⟨by omega, by omega, by omega, by omega⟩, ?_⟩
        have eu : ((m : Int) - (0 + (u : Nat) : Int)).toNat = m - u := by omega
        rw [eu]
        refine for_range (lo := (0 + (u : Nat) : Int)) (n := m - u) (fun i σ H' => ∃ (o9 o10 o11 o12 : Option V) (N : List (List Int)), σ = [some (.ref wA), some (.int c), some (.bl fr), some (.ref hA), some (.ref rA), some (.int (m : Int)), some (.ref T), some (.ref D), some (.int (0 + (u : Nat) : Int)), o9, o10, o11, o12] ∧ Same H1 H' ∧ H' D = some (.lst (rs'.map V.ref)) ∧
          RowsAt H' rs' N ∧ SqN (2 * m) N ∧ LfD m tw (ent M) (fun x y => x < u ∨ (x = u ∧ y < u + i)) N) ⟨_, _, _, _, N, rfl, c5, eD5, R5, S5, L5.mono fun x y h1 h2 => by omega⟩ ?_ ?_
        · rintro i σ H6 hi ⟨o9, o10, o11, o12, N, rfl, c6, eD6, R6, S6, L6⟩
          have hv : u + i < m := by omega
          have evi : (0 + (u : Nat) + (i : Nat) : Int) = ((u + i : Nat) : Int) := by omega
          obtain ⟨ed, tlt⟩ := twd hu hv
          obtain ⟨ru, xu, gu1, gu2, gu3⟩ := RM.get (i := u) (by rw [RM.len, W.sq.len]; exact hu)
          have lxu := (W.sq.row u xu gu2)
          obtain ⟨z, ez⟩ := get_lt (l := xu) (i := u + i) (by rw [lxu.1]; exact hv)
          have ezn : ent M u (u + i) = z := by rw [ent_row gu2, getD_eq_getElem?_getD, ez]; rfl
          have hz : z.natAbs ≤ 2 * wMax := lxu.2 z (mem_of_getElem? ez)
          have L7 := lift_pair (u := u) (v := u + i) tlt (by omega) hv S6 (by rw [ezn]; exact hz) (by omega) L6
          have aT : atI (ds.map V.int) ((0 + (u : Nat) : Int) * (m : Int) + (0 + (u : Nat) + (i : Nat) : Int)) = some (.int ((tw u (u + i) : Nat) : Int)) := by
            rw [show (0 + (u : Nat) : Int) * (m : Int) + (0 + (u : Nat) + (i : Nat) : Int) = ((u * m + (u + i) : Nat) : Int) by rw [Int.zero_add]; push_cast; rfl]
            exact atI_nat (by rw [getElem?_map, ed]; rfl)
          have aru : atI (rs.map V.ref) (0 + (u : Nat) : Int) = some (.ref ru) := by rw [Int.zero_add]; exact at_ref gu1
          have axv : atI (xu.map V.int) (0 + (u : Nat) + (i : Nat) : Int) = some (.int z) := by rw [evi]; exact atI_nat (by rw [getElem?_map, ez]; rfl)
          refine ⟨2, rfl, by decide, by decide, for_range (n := 2) (fun sd σ H' => ∃ (o10 o11 o12 : Option V), σ = [some (.ref wA), some (.int c), some (.bl fr), some (.ref hA), some (.ref rA), some (.int (m : Int)), some (.ref T), some (.ref D), some (.int (0 + (u : Nat) : Int)), some (.int (0 + (u : Nat) + (i : Nat) : Int)), o10, o11, o12] ∧ Same H1 H' ∧ H' D = some (.lst (rs'.map V.ref)) ∧
            RowsAt H' rs' ((List.range sd).foldl (fun N s => liftS m tw (ent M) N u (u + i) s) N) ∧ SqN (2 * m) ((List.range sd).foldl (fun N s => liftS m tw (ent M) N u (u + i) s) N)) ⟨_, _, _, rfl, c6, eD6, R6, S6⟩ ?_ ?_⟩
          · rintro sd σ H7 hsd ⟨o10, o11, o12, rfl, c7, eD7, R7, S7⟩
            rw [List.range_succ, foldl_append]
            generalize (List.range sd).foldl (fun N s => liftS m tw (ent M) N u (u + i) s) N = Nn at R7 S7
            show _
            have t7 := s1.trans c7
            obtain ⟨th, eth⟩ : ∃ th : Nat, th = (sd + tw u (u + i)) % 2 := ⟨_, rfl⟩
            have hth : th < 2 := by rw [eth]; exact Nat.mod_lt _ (by decide)
            have ethI : ((0 + (sd : Nat) : Int) + ((tw u (u + i) : Nat) : Int)) % 2 = ((th : Nat) : Int) := by rw [eth]; omega
            have ehe : (0 + (u : Nat) : Int) + (0 + (sd : Nat) : Int) * (m : Int) = ((u + sd * m : Nat) : Int) := by rw [Int.zero_add, Int.zero_add]; push_cast; rfl
            have eth2 : (0 + (u : Nat) + (i : Nat) : Int) + ((th : Nat) : Int) * (m : Int) = ((u + i + th * m : Nat) : Int) := by rw [Int.zero_add]; push_cast; rfl
            have c1 := cell_lt (m := m) hu hsd
            have c2 := cell_lt (m := m) hv hth
            refine ⟨_, rfl, _, rfl, _, rfl, _, rfl, _, _, rfl, rfl, cmul_l (by omega) (by omega), _, rfl, _, _, rfl, rfl, T, _, _, _, rfl, rfl, SqL.of (c7 _ _ eT), aT, _, _, rfl, rfl, _, _, rfl, rfl, (by show (0 : Int) < 2; decide), ?_⟩
            refine ⟨_, rfl, _, rfl, _, rfl, _, _, rfl, rfl, cmul_l (by omega) (by omega), _, _, rfl, rfl, ?_⟩
            refine ⟨_, rfl, _, rfl, _, rfl, _, _, rfl, rfl, cmul_l (by show _ < ((0 + (sd : Nat) : Int) + ((tw u (u + i) : Nat) : Int)) % 2; omega) (by show ((0 + (sd : Nat) : Int) + ((tw u (u + i) : Nat) : Int)) % 2 < _; omega), _, _, rfl, rfl, ?_⟩
            dsimp only
            rw [ethI, ehe, eth2]
            obtain ⟨ra, xa, ga1, ga2, ga3⟩ := R7.get (i := u + sd * m) (by rw [R7.len, S7.len]; exact c1)
            have hra := o4 ra (mem_of_getElem? ga1)
            have lxa := (S7.row _ xa ga2).1
            have x7 := t7 _ _ gu3
            refine ⟨_, rfl, _, rfl, rA, _, _, _, rfl, rfl, SqL.of (t7 _ _ w3), aru, _, rfl, ru, _, _, _, rfl, rfl, SqL.of x7, axv, ?_⟩
            refine ⟨_, rfl, _, rfl, D, _, _, _, rfl, rfl, SqL.of eD7, at_ref ga1, _, rfl, ra, _, _, u + i + th * m, rfl, rfl, ga3, by rw [length_map, lxa]; exact ixN_nat c2, ?_⟩
            rw [← map_set]
            have R8 := R7.put (j := u + i + th * m) (z := z) ga1 ga2
            have c8 : Same H1 (upd H7 ra (.lst ((xa.set (u + i + th * m) z).map V.int))) := fun b o e => by rw [upd_ne (ne_of_none e hra.1)]; exact c7 _ _ e
            have eD8 : upd H7 ra (.lst ((xa.set (u + i + th * m) z).map V.int)) D = _ := (upd_ne hra.2.symm).trans eD7
            generalize upd H7 ra (.lst ((xa.set (u + i + th * m) z).map V.int)) = H8 at R8 c8 eD8 ⊢
            have S8 := S7.put (u + sd * m) (u + i + th * m) hz
            have t8 := s1.trans c8
            obtain ⟨rb, xb, gb1, gb2, gb3⟩ := R8.get (i := u + i + th * m) (by rw [R8.len, S8.len]; exact c2)
            have hrb := o4 rb (mem_of_getElem? gb1)
            have lxb := (S8.row _ xb gb2).1
            refine ⟨_, rfl, _, rfl, rA, _, _, _, rfl, rfl, SqL.of (t8 _ _ w3), aru, _, rfl, ru, _, _, _, rfl, rfl, SqL.of (t8 _ _ gu3), axv, ?_⟩
            refine ⟨_, rfl, _, rfl, D, _, _, _, rfl, rfl, SqL.of eD8, at_ref gb1, _, rfl, rb, _, _, u + sd * m, rfl, rfl, gb3, by rw [length_map, lxb]; exact ixN_nat c1, ?_⟩
            rw [← map_set]
            have R9 := R8.put (j := u + sd * m) (z := z) gb1 gb2
            have S9 := S8.put (u + i + th * m) (u + sd * m) hz
            refine ⟨_, _, _, rfl, fun b o e => by rw [upd_ne (ne_of_none e hrb.1)]; exact c8 _ _ e, (upd_ne hrb.2.symm).trans eD8, ?_, ?_⟩
            · show RowsAt _ _ (liftS m tw (ent M) Nn u (u + i) sd)
              unfold liftS
              rw [ezn, ← eth]
              exact R9
            · show SqN _ (liftS m tw (ent M) Nn u (u + i) sd)
              unfold liftS
              rw [ezn, ← eth]
              exact S9
          · rintro σ H7 ⟨o10, o11, o12, rfl, c7, eD7, R7, S7⟩
            refine ⟨_, _, _, _, _, rfl, c7, eD7, R7, S7, ?_⟩
            exact LfD.mono (dn := fun x y => (x < u ∨ (x = u ∧ y < u + i)) ∨ (x = u ∧ y = u + i)) L7 fun x y h1 h2 => by omega
        · rintro σ H6 ⟨o9, o10, o11, o12, N, rfl, c6, eD6, R6, S6, L6⟩
          exact ⟨_, _, _, _, _, N, rfl, c6, eD6, R6, S6, L6.mono fun x y h1 h2 => by omega⟩
      · rintro σ H5 ⟨o8, o9, o10, o11, o12, N, rfl, c5, eD5, R5, S5, L5⟩
        have t5 := s1.trans c5
        refine ⟨_, rfl, _, rfl, hA, hA, _, _, rfl, rfl, t5 _ _ w2, t5 _ _ w2, Nat.le_of_lt (small1000 (by rw [length_map, W.len]; omega)), fun pA hpA => ?_⟩
        have s6 : Same H5 (upd H5 pA (.lst (hs.map V.int ++ hs.map V.int))) := Same.upd hpA
        have e6 : upd H5 pA (.lst (hs.map V.int ++ hs.map V.int)) pA = some (.lst ((hs ++ hs).map V.int)) := by rw [upd_same, map_append]
        generalize upd H5 pA (.lst (hs.map V.int ++ hs.map V.int)) = H6 at s6 e6 ⊢
        refine ⟨_, rfl, sz2, fun tA htA => ?_⟩
        have s7 : Same H6 (upd H6 tA (.tup [.ref pA, .ref D])) := Same.upd htA
        refine q tA N _ ((t5.trans s6).trans s7) ⟨⟨pA, D, rs', upd_same, s7 _ _ e6, s7 _ _ (s6 _ _ eD5), R5.keep fun r _ o e => s7 _ _ (s6 _ _ e)⟩, by rw [length_append, W.len]; omega, S5, fun z hz => W.hb z (by simpa using hz)⟩
theorem WebAt.wz {H : Hp} {p hA rA : Addr} {rs : List Addr} {n : Nat} {hs : List Int} {M : List (List Int)} (W : WebAt H p hA rA rs n hs M) : Wz H p n hs M :=
  ⟨⟨hA, rA, rs, W.tup, W.hue, W.rws, W.row⟩, W.len, W.sq.n, fun z hz => by have := W.pos z hz; omega⟩
theorem renM_sq {n : Nat} {M : List (List Int)} {os : List Int} (S : SqN n M) (hp : os.Perm (rI n)) : SqN n (renM M os) := by
  have lo := os_len hp
  refine ⟨by unfold renM; rw [length_map, lo], fun i x hx => ?_⟩
  unfold renM at hx
  obtain ⟨o, ho, rfl⟩ := map_get hx
  refine ⟨by rw [ren_len, lo], fun z hz => ?_⟩
  obtain ⟨a, rfl, ha⟩ := os_at hp ho
  obtain ⟨W, hW⟩ := get_lt (l := M) (i := a) (by rw [S.len]; exact ha)
  rw [Int.toNat_natCast, getD_some hW] at hz
  exact (S.row a W hW).2 z ((ren_perm hp (S.row a W hW).1).mem_iff.mp hz)
theorem renM_bd {n : Nat} {M : List (List Int)} {os : List Int} (S : Sq n M) (hp : os.Perm (rI n)) {i : Nat} {x : List Int} (hx : (renM M os)[i]? = some x) : ∀ z ∈ x, z.natAbs ≤ wMax := by
  unfold renM at hx
  obtain ⟨o, ho, rfl⟩ := map_get hx
  intro z hz
  obtain ⟨a, rfl, ha⟩ := os_at hp ho
  obtain ⟨W, hW⟩ := get_lt (l := M) (i := a) (by rw [S.len]; exact ha)
  rw [Int.toNat_natCast, getD_some hW] at hz
  exact (S.row a W hW).2 z ((ren_perm hp (S.row a W hW).1).mem_iff.mp hz)
theorem ren_hb {n : Nat} {hs os : List Int} (hp : os.Perm (rI n)) (lh : hs.length = n) {Pz : Int → Prop} (h : ∀ z ∈ hs, Pz z) : ∀ z ∈ renH hs os, Pz z := fun z hz => h z ((ren_perm hp lh).mem_iff.mp hz)
def spTwo (K : Frag) : Sp := fun vs H Q _ => ∃ (a : Addr) (ns : List Int) (mo : Nat), vs = [.ref a, .int (mo : Int)] ∧ SqL K H a (ns.map V.int) ∧ mo ≤ 8 ∧
  ∀ (p wA oA : Addr) (n m : Nat) (hs hs' : List Int) (M M' : List (List Int)) (H' : Hp), Same H H' → H' p = some (.tup [.ref wA, .ref oA]) → Wz H' wA n hs M → Wz H' oA m hs' M' → n ≤ 8 → m ≤ 8 →Q (.ref p) H'
abbrev nTwo : List Str := ["_law_script", "_law_most", "_law_first", "_law_free", "_law_many", "_law_way", "_law_small", "_law_web_here", "_law_other", "_law_u", "_law_v"]
theorem scTwo : FnScope nTwo ["_law_script", "_law_most"] (defScope sTwo) := ⟨rfl, rfl, rfl, by decide +kernel, rfl, by decide +kernel, by decide +kernel⟩
theorem ok_two {f fC fW fO fL fR : Addr} {fd fdC fdW fdO fdL fdR : FuncData} (B : BltL mg) (F : Fun K "_law_two" "_law_two" sTwo f fd)
    (DC : Dn K mg "_law_cell_at" sCellAt ["_law_script", "_law_k"] fC fdC) (GC : FnOk P w K mg base CX0 1 fC fdC ["_law_script", "_law_k"] (spCell K))
    (DW : Dn K mg "_law_web" sWebP aWebP fW fdW) (GW : FnOk P w K mg base CX0 2 fW fdW aWebP (spWebP K))
    (DO : Dn K mg "_law_order" sOrder aOrder fO fdO) (GO : FnOk P w K mg base CX0 2 fO fdO aOrder spOrder)
    (DL : Dn K mg "_law_lift" sLift aLift fL fdL) (GL : FnOk P w K mg base CX0 2 fL fdL aLift (spLift K))
    (DR : Dn K mg "_law_renamed" sLRen ["_law_web_here", "_law_order_here"] fR fdR) (GR : FnOk P w K mg base CX0 1 fR fdR ["_law_web_here", "_law_order_here"] spLRen) :
    FnOk P w K mg base CX0 3 f fd ["_law_script", "_law_most"] (spTwo K) := by
  refine F.ok scTwo (fun vs H Q E h => ?_) (fun cdv A outer s H vs Q E hr h => ?_)
  · obtain ⟨a, ns, mo, rfl, _⟩ := h
    rfl
  · obtain ⟨a, ns, mo, rfl, hS, hmo, q⟩ := h
    have r1 := hr.mono (j := 1) (by decide)
    refine ⟨_, pss_cons (ps_set (i := 2) scTwo.nd rfl (Or.inl rfl) (pe_fn DC GC r1 rfl (pa_cons (pv 0) (pa_cons pe_int pa_nil))))
      (pss_cons (ps_set (i := 3) scTwo.nd rfl (Or.inl rfl) (pe_cmpR op_eq (pe_op op_mod (pv 2) pe_int) pe_int (nomark _)))
      (pss_cons (ps_set (i := 4) scTwo.nd rfl (Or.inl rfl) (pe_op op_mod (pe_op op_fdiv (pv 2) pe_int) (pe_op op_add (pv 1) pe_int)))
      (pss_cons (ps_set (i := 5) scTwo.nd rfl (Or.inl rfl) (pe_op op_mod (pe_op op_fdiv (pv 2) pe_int) pe_int))
      (pss_cons (ps_if (pt_cmpR op_eq (pv 5) pe_int (nomark _))
        (pss_cons (ps_set (i := 6) scTwo.nd rfl (Or.inl rfl) (pe_fn DW GW hr rfl (pa_cons (pv 0) (pa_cons pe_int (pa_cons (pe_op op_fdiv (pv 4) pe_int) (pa_cons (pv 3) pa_nil))))))
        (pss_cons (ps_set (i := 7) scTwo.nd rfl (Or.inl rfl) (pe_fn DL GL hr rfl (pa_cons (pv 6) (pa_cons (pe_fn DC GC r1 rfl (pa_cons (pv 0) (pa_cons pe_int pa_nil))) (pa_cons (pv 3) pa_nil)))))
        (pss_cons (ps_set (i := 8) scTwo.nd rfl (Or.inl rfl) (pe_fn DL GL hr rfl (pa_cons (pv 6) (pa_cons (pe_fn DC GC r1 rfl (pa_cons (pv 0) (pa_cons pe_int pa_nil))) (pa_cons (pv 3) pa_nil)))))
        (pss_one (ps_ret (pe_tup (pa_cons (pv 7) (pa_cons (pe_fn DR GR r1 rfl (pa_cons (pv 8) (pa_cons (pe_fn DO GO hr rfl (pa_cons (pe_fn DC GC r1 rfl (pa_cons (pv 0) (pa_cons pe_int pa_nil))) (pa_cons (pe_callB call_len_seq (by rfl) B.len boot_len (pa_cons (pe_ix ix_tup (pv 8) pe_int (fun _ _ => rfl)) pa_nil)) (pa_cons (pv 3) pa_nil)))) pa_nil))) pa_nil)))))))) pss_nil)
      (pss_cons (ps_set (i := 7) scTwo.nd rfl (Or.inl rfl) (pe_fn DW GW hr rfl (pa_cons (pv 0) (pa_cons pe_int (pa_cons (pv 4) (pa_cons (pv 3) pa_nil))))))
      (pss_cons (ps_if (pt_cmpR op_eq (pv 5) pe_int (nomark _))
        (pss_one (ps_ret (pe_tup (pa_cons (pv 7) (pa_cons (pe_fn DW GW hr rfl (pa_cons (pv 0) (pa_cons pe_int (pa_cons (pe_op op_mod (pe_op op_fdiv (pv 2) pe_int) (pe_op op_add (pv 1) pe_int)) (pa_cons (pv 3) pa_nil))))) pa_nil))))) pss_nil)
      (pss_cons (ps_set (i := 8) scTwo.nd rfl (Or.inl rfl) (pe_fn DR GR r1 rfl (pa_cons (pv 7) (pa_cons (pe_fn DO GO hr rfl (pa_cons (pe_fn DC GC r1 rfl (pa_cons (pv 0) (pa_cons pe_int pa_nil))) (pa_cons (pv 4) (pa_cons (pv 3) pa_nil)))) pa_nil))))
      (pss_mid (ps_if (PW.pt (pw_and (pt_cmpR op_eq (pv 5) pe_int (nomark _)) (pw_and1 (pt_cmpR op_gt (pv 4) pe_int (nomark _)))))
        (pss_cons (ps_set (i := 9) scTwo.nd rfl (Or.inl rfl) (pe_op op_mod (pe_fn DC GC r1 rfl (pa_cons (pv 0) (pa_cons pe_int pa_nil))) (pv 4)))
        (pss_cons (ps_set (i := 10) scTwo.nd rfl (Or.inl rfl) (pe_op op_mod (pe_fn DC GC r1 rfl (pa_cons (pv 0) (pa_cons pe_int pa_nil))) (pv 4)))
        (pss_cons (ps_asg (pe_op op_add (pe_ix ix_list (pe_ix ix_list (pe_ix ix_tup (pv 8) pe_int (fun _ _ => rfl)) (pv 9) (fun _ _ => rfl)) (pv 10) (fun _ _ => rfl)) pe_int) (pg_sub (pe_ix ix_list (pe_ix ix_tup (pv 8) pe_int (fun _ _ => rfl)) (pv 9) (fun _ _ => rfl)) (pv 10) set_list))
        (pss_one (ps_asg (pe_ix ix_list (pe_ix ix_list (pe_ix ix_tup (pv 8) pe_int (fun _ _ => rfl)) (pv 9) (fun _ _ => rfl)) (pv 10) (fun _ _ => rfl)) (pg_sub (pe_ix ix_list (pe_ix ix_tup (pv 8) pe_int (fun _ _ => rfl)) (pv 10) (fun _ _ => rfl)) (pv 9) set_list)))))) pss_nil)
      (pss_mid (ps_if (PW.pt (pw_and (pt_cmpR op_eq (pv 5) pe_int (nomark _)) (pw_and1 (pt_cmpR op_gt (pv 4) pe_int (nomark _)))))
        (pss_one (ps_asg (pe_op op_mod (pe_fn DC GC r1 rfl (pa_cons (pv 0) (pa_cons pe_int pa_nil))) pe_int) (pg_sub (pe_ix ix_tup (pv 8) pe_int (fun _ _ => rfl)) (pe_op op_mod (pe_fn DC GC r1 rfl (pa_cons (pv 0) (pa_cons pe_int pa_nil))) (pv 4)) set_list))) pss_nil)
      (pss_one (ps_ret (pe_tup (pa_cons (pv 7) (pa_cons (pv 8) pa_nil)))))))))))))), ?_⟩
    refine ⟨_, rfl, a, ns, 0, rfl, hS, by decide, fun c0 hc0 => ?_⟩
    refine ⟨_, rfl, _, _, rfl, rfl, (by show (0 : Int) < 2; decide), rfl, ?_⟩
    generalize decide ((fun i j => V.int (i % j)) c0 2 = V.int 0) = fr
    refine ⟨_, rfl, _, _, rfl, rfl, ⟨by decide, by decide⟩, _, rfl, _, _, rfl, rfl, _, _, rfl, rfl, (by show (0 : Int) < (mo : Int) + 1; omega), ?_⟩
    obtain ⟨n, en⟩ := Int.eq_ofNat_of_zero_le (Int.emod_nonneg (c0 / 2) (by omega : ((mo : Int) + 1) ≠ 0))
    have hn : n ≤ 8 := by
      have := Int.emod_lt_of_pos (c0 / 2) (by omega : (0 : Int) < (mo : Int) + 1)
      omega
    refine ⟨_, rfl, _, _, rfl, rfl, ⟨by decide, by decide⟩, _, _, rfl, rfl, (by show (0 : Int) < 5; decide), ?_⟩
    dsimp only
    rw [en]
    refine ⟨_, rfl, rfl, _, rfl, ?_⟩
    by_cases h4 : c0 / 14 % 5 = 4
    · refine itDP (by rw [h4]) ?_
      refine ⟨_, rfl, _, rfl, _, _, rfl, rfl, ⟨by decide, by decide⟩, _, rfl, a, ns, 1, n / 2, fr, ?_, hS, by decide, by omega, fun pS hAs rAs rss hs M H1 s1 nw WS => ?_⟩
      · show [V.ref a, V.int 1, V.int ((n : Int) / 2), V.bl fr] = _
        rw [show (n : Int) / 2 = ((n / 2 : Nat) : Int) by omega]
      have Z1 := WS.wz
      refine ⟨_, rfl, _, rfl, a, ns, 5, rfl, s1.seq hS, by decide, fun c5 _ => ?_⟩
      refine ⟨_, rfl, pS, n / 2, hs, M, c5, fr, rfl, Z1, by omega, fun p1 N1 H2 s2 Z2 => ?_⟩
      have Z12 := Z1.same s2
      have t2 := s1.trans s2
      refine ⟨_, rfl, _, rfl, a, ns, 6, rfl, t2.seq hS, by decide, fun c6 _ => ?_⟩
      refine ⟨_, rfl, pS, n / 2, hs, M, c6, fr, rfl, Z12, by omega, fun p2 N2 H3 s3 Z3 => ?_⟩
      have t3 := t2.trans s3
      have Z23 := Z2.same s3
      obtain ⟨hA3, rA3, rs3, w1, w2, w3, R3⟩ := Z3.wr.ex
      refine ⟨_, rfl, _, rfl, _, rfl, a, ns, 4, rfl, t3.seq hS, by decide, fun c4 _ => ?_⟩
      refine ⟨_, rfl, p2, _, _, _, rfl, rfl, SqT.of w1, rfl, hA3, _, rfl, .inl (SqL.of w2), ?_⟩
      rw [length_map, Z3.len]
      refine ⟨_, rfl, c4, 2 * (n / 2), fr, rfl, by omega, fun O os H4 s4 nO eO pm => ?_⟩
      have Z34 := Z3.same s4
      refine ⟨p2, O, 2 * (n / 2), hs ++ hs, N2, os, rfl, Z34.wr, Z3.len, Z3.sq, by omega, eO, pm, fun pR H5 s5 WN5 => ?_⟩
      obtain ⟨hR, rR, rsR, g1, g2, g3, RR, _⟩ := WN5.ex
      refine ⟨sz2, fun tA htA => ?_⟩
      have s6 : Same H5 (upd H5 tA (.tup [.ref p1, .ref pR])) := Same.upd htA
      have s36 := (s4.trans s5).trans s6
      have ZR : Wz H5 pR (2 * (n / 2)) (renH (hs ++ hs) os) (renM N2 os) := ⟨⟨hR, rR, rsR, g1, g2, g3, RR⟩, by rw [ren_len, os_len pm], renM_sq Z3.sq pm, ren_hb pm Z3.len Z3.hb⟩
      have rw2 : ∀ ws ∈ N2, ws.length = 2 * (n / 2) := fun ws hws => by
        obtain ⟨j, hj⟩ := mem_iff_getElem?.mp hws
        exact (Z3.sq.row j ws hj).1
      refine q tA p1 pR _ _ _ _ _ _ _ (t3.trans s36) upd_same (Z23.same s36) (ZR.same s6) (by omega) (by omega)
    · refine itDN (fun z => h4 (V.int.inj z)) ?_
      refine ⟨_, rfl, _, rfl, _, rfl, a, ns, 1, n, fr, rfl, hS, by decide, hn, fun p1 hA1 rA1 rs1 hs M H1 s1 nw W1 => ?_⟩
      have Z1 := W1.wz
      refine ⟨_, rfl, rfl, _, rfl, ?_⟩
      by_cases h0 : c0 / 14 % 5 = 0
      · refine itDP (by rw [h0]) ?_
        refine ⟨_, rfl, _, rfl, _, rfl, _, _, rfl, rfl, ⟨by decide, by decide⟩, _, rfl, _, _, rfl, rfl, _, _, rfl, rfl, (by show (0 : Int) < (mo : Int) + 1; omega), ?_⟩
        obtain ⟨n', en'⟩ := Int.eq_ofNat_of_zero_le (Int.emod_nonneg (c0 / 70) (by omega : ((mo : Int) + 1) ≠ 0))
        have hn' : n' ≤ 8 := by
          have := Int.emod_lt_of_pos (c0 / 70) (by omega : (0 : Int) < (mo : Int) + 1)
          omega
        refine ⟨_, rfl, a, ns, 4, n', fr, by rw [← en']; rfl, s1.seq hS, by decide, hn', fun p2 hA2 rA2 rs2 hs' M' H2 s2 nw2 W2 => ?_⟩
        refine ⟨sz2, fun tA htA => ?_⟩
        have s3 : Same H2 (upd H2 tA (.tup [.ref p1, .ref p2])) := Same.upd htA
        exact q tA p1 p2 _ _ _ _ _ _ _ ((s1.trans s2).trans s3) upd_same ((Z1.same s2).same s3) (W2.wz.same s3) hn hn'
      · refine itDN (fun z => h0 (V.int.inj z)) ?_
        refine ⟨_, rfl, _, rfl, a, ns, 4, rfl, s1.seq hS, by decide, fun c4 _ => ?_⟩
        refine ⟨_, rfl, _, rfl, c4, n, fr, rfl, hn, fun O os H2 s2 nO eO pm => ?_⟩
        have Z12 := Z1.same s2
        refine ⟨p1, O, n, hs, M, os, rfl, Z12.wr, Z1.len, Z1.sq, hn, eO, pm, fun pR H3 s3 WN3 => ?_⟩
        have lo := os_len pm
        have lRen : (renH hs os).length = n := by rw [ren_len, lo]
        have hbR := ren_hb pm Z1.len Z1.hb
        have t2 := s1.trans s2
        have rwM : ∀ ws ∈ M, ws.length = n := fun ws hws => by
          obtain ⟨j, hj⟩ := mem_iff_getElem?.mp hws
          exact (Z1.sq.row j ws hj).1
        refine ⟨fun σ' H' => ∃ (o9 o10 : Option V) (M' : List (List Int)), σ' = [some (.ref a), some (.int (mo : Int)), some (.int c0), some (.bl fr), some (.int (n : Int)), some (.int (c0 / 14 % 5)), none, some (.ref p1), some (.ref pR), o9, o10] ∧ Same H2 H' ∧ WN H2 H' pR (renH hs os) M' ∧ SqN n M' ∧ (c0 / 14 % 5 = 1 → M' = renM M os), ?_, ?_⟩
        · obtain ⟨hR, rR, rsR, g1, g2, g3, RR, nw3, d1, d2, d3⟩ := WN3.ex
          have nh : ∀ r ∈ rsR, hR ≠ r := fun r hr q => by subst q; exact d2 hr
          have nr : ∀ r ∈ rsR, rR ≠ r := fun r hr q => by subst q; exact d3 hr
          have keep0 : ∃ (o9 o10 : Option V) (M' : List (List Int)), ([some (.ref a), some (.int (mo : Int)), some (.int c0), some (.bl fr), some (.int (n : Int)), some (.int (c0 / 14 % 5)), none, some (.ref p1), some (.ref pR), none, none] : L2.St) = [some (.ref a), some (.int (mo : Int)), some (.int c0), some (.bl fr), some (.int (n : Int)), some (.int (c0 / 14 % 5)), none, some (.ref p1), some (.ref pR), o9, o10] ∧ Same H2 H3 ∧ WN H2 H3 pR (renH hs os) M' ∧ SqN n M' ∧ (c0 / 14 % 5 = 1 → M' = renM M os) :=
            ⟨none, none, _, rfl, s3, WN3, renM_sq Z1.sq pm, fun _ => rfl⟩
          refine ⟨_, rfl, rfl, _, rfl, ?_⟩
          by_cases h2 : c0 / 14 % 5 = 2
          · refine itDP (by rw [h2]) ?_
            refine ⟨_, rfl, _, _, rfl, rfl, _, rfl, ?_⟩
            by_cases hn0 : (0 : Int) < (n : Int)
            · refine itDP hn0 ?_
              have t3 := t2.trans s3
              refine ⟨_, rfl, a, ns, 5, rfl, t3.seq hS, by decide, fun c5 _ => ⟨_, rfl, _, _, rfl, rfl, hn0, ?_⟩⟩
              refine ⟨_, rfl, a, ns, 6, rfl, t3.seq hS, by decide, fun c6 _ => ⟨_, rfl, _, _, rfl, rfl, hn0, ?_⟩⟩
              obtain ⟨u, eu⟩ := Int.eq_ofNat_of_zero_le (Int.emod_nonneg c5 (by omega : (n : Int) ≠ 0))
              obtain ⟨v, ev⟩ := Int.eq_ofNat_of_zero_le (Int.emod_nonneg c6 (by omega : (n : Int) ≠ 0))
              have hu : u < n := by have := Int.emod_lt_of_pos c5 hn0; omega
              have hv : v < n := by have := Int.emod_lt_of_pos c6 hn0; omega
              dsimp only
              rw [eu, ev]
              have SR := renM_sq Z1.sq pm
              obtain ⟨ru, xu, gu1, gu2, gu3⟩ := RR.get (i := u) (by rw [RR.len, SR.len]; exact hu)
              have lxu := (SR.row u xu gu2).1
              obtain ⟨z, ez⟩ := get_lt (l := xu) (i := v) (by omega)
              have hz : (z + 1).natAbs ≤ 2 * wMax := by
                have h1 := renM_bd W1.sq pm gu2 z (mem_of_getElem? ez)
                have h2' : wMax = 1000000000000000000000 := by decide
                omega
              have nru : H2 ru = none := nw3 ru (by simp [mem_of_getElem? gu1])
              have az : atI (xu.map V.int) (v : Int) = some (.int z) := atI_nat (by rw [getElem?_map, ez]; rfl)
              refine ⟨_, rfl, pR, _, _, _, rfl, rfl, SqT.of g1, rfl, _, rfl, rR, _, _, _, rfl, rfl, SqL.of g3, at_ref gu1, _, rfl, ru, _, _, _, rfl, rfl, SqL.of gu3, az, _, _, rfl, rfl, ?_⟩
              refine ⟨_, rfl, pR, _, _, _, rfl, rfl, SqT.of g1, rfl, _, rfl, rR, _, _, _, rfl, rfl, SqL.of g3, at_ref gu1, _, rfl, ru, _, _, v, rfl, rfl, gu3, by rw [length_map, lxu]; exact ixN_nat hv, ?_⟩
              rw [← map_set]
              have R4 := RR.put (j := v) (z := z + 1) gu1 gu2
              have S4 := SR.put u v hz
              have npr : ∀ {r : Addr} {o : List V}, H3 r = some (.lst o) → pR ≠ r := fun e q => by subst q; rw [g1] at e; cases e
              have s4 : Same H2 (upd H3 ru (.lst ((xu.set v (z + 1)).map V.int))) := fun b o e => by rw [upd_ne (ne_of_none e nru)]; exact s3 _ _ e
              have g1' : upd H3 ru (.lst ((xu.set v (z + 1)).map V.int)) pR = _ := (upd_ne (npr gu3)).trans g1
              have g2' : upd H3 ru (.lst ((xu.set v (z + 1)).map V.int)) hR = _ := (upd_ne (nh _ (mem_of_getElem? gu1))).trans g2
              have g3' : upd H3 ru (.lst ((xu.set v (z + 1)).map V.int)) rR = _ := (upd_ne (nr _ (mem_of_getElem? gu1))).trans g3
              generalize upd H3 ru (.lst ((xu.set v (z + 1)).map V.int)) = H4 at R4 s4 g1' g2' g3' ⊢
              obtain ⟨rv, xv, gv1, gv2, gv3⟩ := R4.get (i := v) (by rw [R4.len, S4.len]; exact hv)
              obtain ⟨ru', xu', gw1, gw2, gw3⟩ := R4.get (i := u) (by rw [R4.len, S4.len]; exact hu)
              have lxv := (S4.row v xv gv2).1
              have lxw := (S4.row u xu' gw2).1
              obtain ⟨y, ey⟩ := get_lt (l := xu') (i := v) (by omega)
              have hy := (S4.row u xu' gw2).2 y (mem_of_getElem? ey)
              have ay : atI (xu'.map V.int) (v : Int) = some (.int y) := atI_nat (by rw [getElem?_map, ey]; rfl)
              have nrv : H2 rv = none := nw3 rv (by simp [mem_of_getElem? gv1])
              refine ⟨_, rfl, pR, _, _, _, rfl, rfl, SqT.of g1', rfl, _, rfl, rR, _, _, _, rfl, rfl, SqL.of g3', at_ref gw1, _, rfl, ru', _, _, _, rfl, rfl, SqL.of gw3, ay, ?_⟩
              refine ⟨_, rfl, pR, _, _, _, rfl, rfl, SqT.of g1', rfl, _, rfl, rR, _, _, _, rfl, rfl, SqL.of g3', at_ref gv1, _, rfl, rv, _, _, u, rfl, rfl, gv3, by rw [length_map, lxv]; exact ixN_nat hu, ?_⟩
              rw [← map_set]
              have R5 := R4.put (j := u) (z := y) gv1 gv2
              have S5 := S4.put v u hy
              have npr' : pR ≠ rv := fun q => by subst q; rw [g1'] at gv3; cases gv3
              refine ⟨_, _, _, rfl, fun b o e => by rw [upd_ne (ne_of_none e nrv)]; exact s4 _ _ e, ⟨hR, rR, rsR, (upd_ne npr').trans g1', (upd_ne (nh _ (mem_of_getElem? gv1))).trans g2', (upd_ne (nr _ (mem_of_getElem? gv1))).trans g3', R5, nw3, d1, d2, d3⟩, S5, fun q => by omega⟩
            · exact itDN hn0 keep0
          · exact itDN (fun z => h2 (V.int.inj z)) (iteF keep0)
        · rintro σ' H4 ⟨o9, o10, M', rfl, s4, WN4, SN, hM⟩
          refine ⟨fun σ' H' => ∃ (hs' : List Int), σ' = [some (.ref a), some (.int (mo : Int)), some (.int c0), some (.bl fr), some (.int (n : Int)), some (.int (c0 / 14 % 5)), none, some (.ref p1), some (.ref pR), o9, o10] ∧ Same H2 H' ∧ WN H2 H' pR hs' M' ∧ hs'.length = n ∧ (∀ z ∈ hs', z.natAbs ≤ 100) ∧ (c0 / 14 % 5 = 1 → hs' = renH hs os), ?_, ?_⟩
          · obtain ⟨hR, rR, rsR, g1, g2, g3, RR, nw4, d1, d2, d3⟩ := WN4.ex
            have nh : ∀ r ∈ rsR, hR ≠ r := fun r hr q => by subst q; exact d2 hr
            refine ⟨_, rfl, rfl, _, rfl, ?_⟩
            by_cases h3 : c0 / 14 % 5 = 3
            · refine itDP (by rw [h3]) ?_
              refine ⟨_, rfl, _, _, rfl, rfl, _, rfl, ?_⟩
              by_cases hn0 : (0 : Int) < (n : Int)
              · refine itDP hn0 ?_
                have t4 := t2.trans s4
                refine ⟨_, rfl, a, ns, 6, rfl, t4.seq hS, by decide, fun c6 _ => ⟨_, _, rfl, rfl, (by show (0 : Int) < 4; decide), ?_⟩⟩
                refine ⟨_, rfl, pR, _, _, _, rfl, rfl, SqT.of g1, rfl, ?_⟩
                refine ⟨_, rfl, a, ns, 5, rfl, t4.seq hS, by decide, fun c5 _ => ⟨_, rfl, _, _, rfl, rfl, hn0, ?_⟩⟩
                obtain ⟨u, eu⟩ := Int.eq_ofNat_of_zero_le (Int.emod_nonneg c5 (by omega : (n : Int) ≠ 0))
                have hu : u < n := by have := Int.emod_lt_of_pos c5 hn0; omega
                have nhR : H2 hR = none := nw4 hR (by simp)
                refine ⟨hR, _, _, u, rfl, rfl, g2, ?_, ?_⟩
                · show ixN _ (c5 % (n : Int)) = _
                  rw [eu, length_map, lRen]
                  exact ixN_nat hu
                rw [← map_set]
                have npr : pR ≠ hR := fun q => by subst q; rw [g1] at g2; cases g2
                refine ⟨(renH hs os).set u (c6 % 4), rfl, fun b o e => by rw [upd_ne (ne_of_none e nhR)]; exact s4 _ _ e, ⟨hR, rR, rsR, (upd_ne npr).trans g1, upd_same, (upd_ne d1.symm).trans g3, RR.keep fun r hr o e => by rw [upd_ne (nh r hr).symm]; exact e, nw4, d1, d2, d3⟩, by rw [length_set, lRen], fun z hz => ?_, fun q => by omega⟩
                rcases mem_or_eq_of_mem_set hz with q | q
                · exact hbR z q
                · rw [q]
                  omega
              · exact itDN hn0 ⟨_, rfl, s4, WN4, lRen, hbR, fun _ => rfl⟩
            · exact itDN (fun z => h3 (V.int.inj z)) (iteF ⟨_, rfl, s4, WN4, lRen, hbR, fun _ => rfl⟩)
          · rintro σ' H5 ⟨hs', rfl, s5, WN5, lh, hb, hh⟩
            obtain ⟨hR, rR, rsR, g1, g2, g3, RR, _⟩ := WN5.ex
            refine ⟨_, rfl, _, rfl, sz2, fun tA htA => ?_⟩
            have s6 : Same H5 (upd H5 tA (.tup [.ref p1, .ref pR])) := Same.upd htA
            have ZR : Wz H5 pR n hs' M' := ⟨⟨hR, rR, rsR, g1, g2, g3, RR⟩, lh, SN, hb⟩
            refine q tA p1 pR _ _ _ _ _ _ _ ((t2.trans s5).trans s6) upd_same ((Z12.same s5).same s6) (ZR.same s6) hn hn
end
section
open M11
def addL (s f : Int × Int) : Int × Int := low (s.1 * f.2 + f.1 * s.2) (s.2 * f.2)
def sumL (fs : List (Int × Int)) : Int × Int := fs.foldl addL (0, 1)
def PosF (fs : List (Int × Int)) : Prop := ∀ f ∈ fs, 0 < f.2
def Lw (s : Int × Int) : Prop := 0 < s.2 ∧ Int.gcd s.1 s.2 = 1
theorem addL_lw {s f : Int × Int} (hs : 0 < s.2) (hf : 0 < f.2) : Lw (addL s f) := by
  have h : s.2 * f.2 ≠ 0 := Int.ne_of_gt (Int.mul_pos hs hf)
  exact ⟨low_pos h, low_cop h⟩
def over (W : Int) (f : Int × Int) : Int := f.1 * W.fdiv f.2
theorem over_mul {W : Int} {f : Int × Int} (hf : 0 < f.2) (h : f.2 ∣ W) : over W f * f.2 = f.1 * W := by
  obtain ⟨q, e, e2⟩ := fdiv_of_dvd hf h
  unfold over
  rw [e2]
  rw [e]
  grind
theorem addL_over {W x : Int} {s f : Int × Int} (hs : 0 < s.2) (hf : 0 < f.2) (h : f.2 ∣ W) (e : s.1 * W = x * s.2) : (addL s f).1 * W = (x + over W f) * (addL s f).2 := by
  have hp : s.2 * f.2 ≠ 0 := Int.ne_of_gt (Int.mul_pos hs hf)
  have c := low_cross (t := s.1 * f.2 + f.1 * s.2) hp
  have o := over_mul hf h
  show (low (s.1 * f.2 + f.1 * s.2) (s.2 * f.2)).1 * W = (x + over W f) * (low (s.1 * f.2 + f.1 * s.2) (s.2 * f.2)).2
  generalize low (s.1 * f.2 + f.1 * s.2) (s.2 * f.2) = l at c
  refine Int.eq_of_mul_eq_mul_right hp ?_
  have e1 : l.1 * W * (s.2 * f.2) = l.1 * (s.2 * f.2) * W := by grind
  rw [e1, c]
  have e2 : (s.1 * f.2 + f.1 * s.2) * l.2 * W = l.2 * (s.1 * W * f.2 + f.1 * W * s.2) := by grind
  rw [e2, e, ← o]
  grind
theorem sum_fold {W : Int} : ∀ (fs : List (Int × Int)) (s : Int × Int) (x : Int), Lw s → PosF fs → (∀ f ∈ fs, f.2 ∣ W) → s.1 * W = x * s.2 → Lw (fs.foldl addL s) ∧ (fs.foldl addL s).1 * W = (x + (fs.map (over W)).sum) * (fs.foldl addL s).2
  | [], s, x, hs, _, _, e => ⟨hs, by simpa using e⟩
  | f :: fs, s, x, hs, hp, hd, e => by
    have hf := hp f mem_cons_self
    have r := sum_fold fs (addL s f) (x + over W f) (addL_lw hs.1 hf) (fun g hg => hp g (mem_cons_of_mem _ hg)) (fun g hg => hd g (mem_cons_of_mem _ hg)) (addL_over hs.1 hf (hd f mem_cons_self) e)
    refine ⟨r.1, ?_⟩
    rw [map_cons, List.sum_cons, ← Int.add_assoc]
    exact r.2
theorem sumL_spec {W : Int} {fs : List (Int × Int)} (hp : PosF fs) (hd : ∀ f ∈ fs, f.2 ∣ W) : Lw (sumL fs) ∧ (sumL fs).1 * W = (fs.map (over W)).sum * (sumL fs).2 := by
  have r := sum_fold (W := W) fs (0, 1) 0 ⟨by decide, by decide⟩ hp hd (by simp)
  rw [Int.zero_add] at r
  exact r
theorem Lw.eq {s t : Int × Int} (hs : Lw s) (ht : Lw t) (h : s.1 * t.2 = t.1 * s.2) : s = t := by
  have h1 := low_self hs.1 hs.2
  have h2 := low_self ht.1 ht.2
  have h3 := low_eq (t := s.1) (t' := t.1) (Int.ne_of_gt hs.1) (Int.ne_of_gt ht.1) h
  rw [h1, h2] at h3
  exact h3
theorem sumL_eq {W : Int} (hW : 0 < W) {fs gs : List (Int × Int)} (hp : PosF fs) (hd : ∀ f ∈ fs, f.2 ∣ W) (hp' : PosF gs) (hd' : ∀ f ∈ gs, f.2 ∣ W) : sumL fs = sumL gs ↔ (fs.map (over W)).sum = (gs.map (over W)).sum := by
  obtain ⟨l1, e1⟩ := sumL_spec hp hd
  obtain ⟨l2, e2⟩ := sumL_spec hp' hd'
  generalize (fs.map (over W)).sum = x at e1
  generalize (gs.map (over W)).sum = y at e2
  constructor
  · intro h
    rw [h] at e1
    have := e1.symm.trans e2
    exact Int.eq_of_mul_eq_mul_right (Int.ne_of_gt l2.1) this
  · intro h
    subst h
    refine l1.eq l2 ?_
    refine Int.eq_of_mul_eq_mul_right (Int.ne_of_gt hW) ?_
    have a : (sumL fs).1 * (sumL gs).2 * W = (sumL fs).1 * W * (sumL gs).2 := by grind
    have b : (sumL gs).1 * (sumL fs).2 * W = (sumL gs).1 * W * (sumL fs).2 := by grind
    rw [a, b, e1, e2]
    grind
theorem sumL_one {W : Int} (hW : 0 < W) {fs : List (Int × Int)} (hp : PosF fs) (hd : ∀ f ∈ fs, f.2 ∣ W) : sumL fs = (1, 1) ↔ (fs.map (over W)).sum = W := by
  have h := sumL_eq hW hp hd (gs := [(1, 1)]) (fun f hf => by rw [mem_singleton.mp hf]; decide) (fun f hf => by rw [mem_singleton.mp hf]; exact Int.one_dvd _)
  have e1 : sumL [(1, 1)] = (1, 1) := by decide
  have e2 : ([((1 : Int), (1 : Int))].map (over W)).sum = W := by
    show 1 * W.fdiv 1 + 0 = W
    rw [Int.fdiv_one]
    omega
  rw [e1, e2] at h
  exact h
theorem bn_low {k : Nat} {t b : Int} (hb : b ≠ 0) (h1 : Bn k t) (h2 : Bn k b) : Bn k (low t b).1 ∧ Bn k (low t b).2 := ⟨h1.le (low_le hb).1, h2.le (low_le hb).2⟩
theorem sumL_snoc (fs : List (Int × Int)) (f : Int × Int) : sumL (fs ++ [f]) = addL (sumL fs) f := by
  unfold sumL
  rw [foldl_append]
  rfl
theorem sumL_bn : ∀ (n : Nat) (fs : List (Int × Int)), fs.length = n → PosF fs → (∀ f ∈ fs, Bn 200 f.1 ∧ Bn 200 f.2) → 0 < (sumL fs).2 ∧ Bn (1 + 201 * n) (sumL fs).1 ∧ Bn (1 + 201 * n) (sumL fs).2 := by
  intro n
  induction n with
  | zero =>
    intro fs e _ _
    have : fs = [] := List.eq_nil_of_length_eq_zero e
    subst this
    exact ⟨by decide, show (0 : Nat) < 2 ^ 1 by decide, show (1 : Nat) < 2 ^ 1 by decide⟩
  | succ n ih =>
    intro fs e hp hb
    obtain ⟨gs, f, rfl⟩ : ∃ gs f, fs = gs ++ [f] := ⟨fs.dropLast, fs.getLast (by intro z; rw [z] at e; cases e), (List.dropLast_concat_getLast _).symm⟩
    obtain ⟨i1, i2, i3⟩ := ih gs (by rw [length_append] at e; simpa using e) (fun g hg => hp g (List.mem_append_left _ hg)) (fun g hg => hb g (List.mem_append_left _ hg))
    obtain ⟨b1, b2⟩ := hb f (List.mem_append_right _ mem_cons_self)
    have hf := hp f (List.mem_append_right _ mem_cons_self)
    have hne : (sumL gs).2 * f.2 ≠ 0 := Int.ne_of_gt (Int.mul_pos i1 hf)
    rw [sumL_snoc]
    have e1 : 1 + 201 * (n + 1) = (1 + 201 * n + 200) + 1 := by omega
    have t1 : Bn (1 + 201 * (n + 1)) ((sumL gs).1 * f.2 + f.1 * (sumL gs).2) := by
      rw [e1]
      exact (i2.mul b2).add (by rw [Int.mul_comm]; exact i3.mul b1)
    have t2 : Bn (1 + 201 * (n + 1)) ((sumL gs).2 * f.2) := (i3.mul b2).mono (by omega)
    obtain ⟨c1, c2⟩ := bn_low hne t1 t2
    exact ⟨low_pos hne, c1, c2⟩
end
section
variable {P : Program} {w : World} {K : Frag} {mg : Str → Option Value} {base : Heap}
def FGrd (H : Hp) (a : Addr) (F : List (List (Int × Int))) : Prop := ∃ X : List (List V), GrdAt H a X ∧ X.length = F.length ∧ ∀ (i : Nat) (x : List V) (fs : List (Int × Int)), X[i]? = some x → F[i]? = some fs → FrAt H x fs
theorem FGrd.mono {H H' : Hp} {a : Addr} {F : List (List (Int × Int))} (g : FGrd H a F) (s : Same H H') : FGrd H' a F := by
  obtain ⟨X, g, l, r⟩ := g
  exact ⟨X, g.mono s, l, fun i x fs h1 h2 => (r i x fs h1 h2).mono s⟩
theorem FrAt.app {H : Hp} {x y : List V} {fs gs : List (Int × Int)} (a : FrAt H x fs) (b : FrAt H y gs) : FrAt H (x ++ y) (fs ++ gs) := by
  refine ⟨by rw [length_append, length_append, a.1, b.1], fun i v f h1 h2 => ?_⟩
  by_cases hi : i < x.length
  · rw [getElem?_append_left hi] at h1
    rw [getElem?_append_left (by rw [← a.1]; exact hi)] at h2
    exact a.2 i v f h1 h2
  · rw [getElem?_append_right (by omega)] at h1
    rw [getElem?_append_right (by rw [← a.1]; omega), ← a.1] at h2
    exact b.2 _ v f h1 h2
theorem frat_flat {H : Hp} : ∀ {X : List (List V)} {F : List (List (Int × Int))}, X.length = F.length → (∀ (i : Nat) (x : List V) (fs : List (Int × Int)), X[i]? = some x → F[i]? = some fs → FrAt H x fs) → FrAt H X.flatten F.flatten
  | [], [], _, _ => ⟨rfl, fun i v f h _ => by simp at h⟩
  | x :: X, r :: F, l, h => (h 0 x r rfl rfl).app (frat_flat (by simpa using l) fun i y fs h1 h2 => h (i + 1) y fs h1 h2)
theorem flat_lenF {α : Type} {n : Nat} : ∀ {M : List (List α)}, (∀ x ∈ M, x.length = n) → M.flatten.length = M.length * n
  | [], _ => by simp
  | x :: M, h => by
    rw [flatten_cons, length_append, flat_lenF fun y hy => h y (mem_cons_of_mem _ hy), h x mem_cons_self, length_cons, Nat.succ_mul]
    omega
theorem row_flat {n : Nat} : ∀ {M : List (List V)} {i : Nat} {x : List V}, (∀ x ∈ M, x.length = n) → M[i]? = some x → (M.flatten.drop (n * i)).take n = x
  | y :: M, 0, x, h, e => by
    cases e
    rw [flatten_cons, Nat.mul_zero, List.drop_zero, List.take_append_of_le_length (by rw [h _ mem_cons_self]; exact Nat.le_refl _), List.take_of_length_le (by rw [h _ mem_cons_self]; exact Nat.le_refl _)]
  | y :: M, i + 1, x, h, e => by
    rw [flatten_cons, Nat.mul_succ, List.drop_append, List.drop_of_length_le (by rw [h _ mem_cons_self]; omega), nil_append, h _ mem_cons_self, Nat.add_sub_cancel]
    exact row_flat (fun x hx => h x (mem_cons_of_mem _ hx)) (by simpa using e)
theorem sq_flat {n : Nat} {M : List (List V)} (hl : M.length = n) (h : ∀ x ∈ M, x.length = n) : squareV M.flatten n = M := by
  refine ext_getElem? fun i => ?_
  unfold squareV
  rw [getElem?_map]
  by_cases hi : i < n
  · obtain ⟨x, hx⟩ := get_lt (l := M) (i := i) (by omega)
    rw [getElem?_range hi, hx, Option.map_some, row_flat h hx]
  · rw [getElem?_eq_none (by rw [length_range]; omega), getElem?_eq_none (by omega)]
    rfl
theorem eqv_gI : ∀ A B : List (List Int), PyData.eqvAll (A.map dI) (B.map dI) = decide (A = B)
  | [], [] => rfl
  | [], _ :: _ => rfl
  | _ :: _, [] => rfl
  | a :: A, b :: B => by
    rw [map_cons, map_cons]
    simp only [PyData.eqvAll, eqv_dI, eqv_gI A B]
    by_cases h : a = b
    · subst h
      by_cases h2 : A = B
      · subst h2; simp
      · simp [h2]
    · simp [h]
theorem GrdAt.da {H : Hp} {a : Addr} {M : List (List Int)} (g : GrdAt H a (gI M)) : DA K any H (.ref a) (.list (M.map dI)) := by
  obtain ⟨rs, h, R⟩ := g
  exact .lst trivial (SqL.of h) (das_rows (by rw [R.len, gI_len]) fun i r x h1 h2 => R.row i r _ h1 (gI_get h2))
theorem lay_gI (M : List (List Int)) : (PyData.list (M.map dI)).canLay0 = true ∧ (PyData.list (M.map dI)).depth ≤ 64 := by
  obtain ⟨h1, h2⟩ := lay_rows M
  refine ⟨by simp only [PyData.canLay0, h1], ?_⟩
  simp only [PyData.depth]
  omega
theorem grd_rows {H : Hp} {a : Addr} {rs : List Addr} {M : List (List Int)} (h : H a = some (.lst (rs.map V.ref))) (R : RowsAt H rs M) : GrdAt H a (gI M) :=
  ⟨rs, h, by rw [R.len, gI_len], fun i r x h1 h2 => by
    obtain ⟨y, hy, rfl⟩ := map_get (show (M.map fun x => x.map V.int)[i]? = some x from h2)
    exact R.row i r y h1 hy⟩
def isSqF (n : Nat) (F : List (List (Int × Int))) : Bool := decide (F.length = n) && F.all fun r => decide (r.length = n)
theorem isSq_F {H : Hp} {n : Nat} {X : List (List V)} {F : List (List (Int × Int))} (l : X.length = F.length) (h : ∀ (i : Nat) (x : List V) (fs : List (Int × Int)), X[i]? = some x → F[i]? = some fs → FrAt H x fs) : isSqB n X = isSqF n F := by
  unfold isSqB isSqF
  rw [l]
  congr 1
  induction X generalizing F with
  | nil =>
    cases F with
    | nil => rfl
    | cons => cases l
  | cons x X ih =>
    cases F with
    | nil => cases l
    | cons r F =>
      rw [List.all_cons, List.all_cons, ih (F := F) (by simpa using l) fun i y fs h1 h2 => h (i + 1) y fs h1 h2, (h 0 x r rfl rfl).1]
def topsI (F : List (List (Int × Int))) (W : Int) : List (List Int) := F.map fun r => r.map fun f => topF f W
def goesB (n : Nat) (hs hs' : List Int) (M M' : List (List Int)) (F : List (List (Int × Int))) : Bool :=
  decide (hs'.length = n) && (isSqF n F && (sharedB (topsI F (botL F.flatten)) n (botL F.flatten) && (keepHB hs hs' (topsI F (botL F.flatten)) && decide (prodI M (topsI F (botL F.flatten)) n = prodI (topsI F (botL F.flatten)) M' n))))
def FrB (f : Int × Int) : Prop := Bt f ∧ M11.Bn 100 f.1
def spGoes : Sp := fun vs H Q _ => ∃ (wA oA tA : Addr) (n m : Nat) (hs hs' : List Int) (M M' : List (List Int)) (F : List (List (Int × Int))), vs = [.ref wA, .ref oA, .ref tA] ∧ WR H wA hs M ∧ WR H oA hs' M' ∧ hs.length = n ∧ hs'.length = m ∧ SqN n M ∧ SqN m M' ∧ n ≤ 8 ∧ m ≤ 8 ∧
  FGrd H tA F ∧ F.length ≤ 16 ∧ (∀ r ∈ F, r.length ≤ 16 ∧ ∀ f ∈ r, FrB f) ∧ ∀ b H', b = goesB n hs hs' M M' F → Same H H' → Q (.bl b) H'
abbrev nGoes : List Str := ["web", "other", "table", "size", "fractions", "whole", "shares"]
abbrev aGoes : List Str := ["web", "other", "table"]
theorem scGoes : FnScope nGoes aGoes (defScope sGoes) := ⟨rfl, rfl, rfl, by decide +kernel, rfl, by decide +kernel, by decide +kernel⟩
theorem lcGoes : LcScopes (defScope sGoes) nGoes (lcScope (argAt (asgVal (bodyAt sGoes 4)) 0)) ["f"] := ⟨by decide +kernel, rfl, by decide +kernel, by decide +kernel, by decide +kernel, by decide +kernel, by decide +kernel, by decide +kernel, by decide +kernel, by decide +kernel⟩
theorem sqF_spec {n : Nat} {F : List (List (Int × Int))} (h : isSqF n F = true) : F.length = n ∧ ∀ r ∈ F, r.length = n := by
  unfold isSqF at h
  rw [Bool.and_eq_true] at h
  exact ⟨of_decide_eq_true h.1, fun r hr => of_decide_eq_true (all_eq_true.mp h.2 r hr)⟩
theorem tops_row {F : List (List (Int × Int))} {W : Int} {x : List Int} (h : x ∈ topsI F W) : ∃ r ∈ F, x = r.map fun f => topF f W := by
  obtain ⟨r, hr, e⟩ := mem_map.mp h
  exact ⟨r, hr, e.symm⟩
theorem tops_flat (F : List (List (Int × Int))) (W : Int) : (F.flatten.map fun f => topF f W) = (topsI F W).flatten := by unfold topsI; rw [List.map_flatten]
theorem mem_flat {α : Type} {F : List (List α)} {f : α} (h : f ∈ F.flatten) : ∃ r ∈ F, f ∈ r := by simpa using mem_flatten.mp h
theorem ok_goes {f fIs fIn fBo fTo fSq fSh fKe fPr : Addr} {fd fdIs fdIn fdBo fdTo fdSq fdSh fdKe fdPr : FuncData} (B : BltG mg) (F : Fun K "goes_through" "goes_through" sGoes f fd)
    (DIs : Dn K mg "is_square" sIsSq ["rows", "size"] fIs fdIs) (GIs : FnOk P w K mg base CX0 1 fIs fdIs ["rows", "size"] spIsSq)
    (DIn : Dn K mg "in_one_list" sInOne ["rows"] fIn fdIn) (GIn : FnOk P w K mg base CX0 1 fIn fdIn ["rows"] spInOne)
    (DBo : Dn K mg "common_bottom" sBottom ["fractions"] fBo fdBo) (GBo : FnOk P w K mg base CX0 2 fBo fdBo ["fractions"] spBottom)
    (DTo : Dn K mg "top_over" sTopOver ["f", "bottom"] fTo fdTo) (GTo : FnOk P w K mg base CX0 1 fTo fdTo ["f", "bottom"] spTopOver)
    (DSq : Dn K mg "in_square" sInSq ["things", "size"] fSq fdSq) (GSq : FnOk P w K mg base CX0 1 fSq fdSq ["things", "size"] (spInSq K))
    (DSh : Dn K mg "are_shared_out" sShared ["shares", "whole"] fSh fdSh) (GSh : FnOk P w K mg base CX0 3 fSh fdSh ["shares", "whole"] spShared)
    (DKe : Dn K mg "keep_hues" sKeepHues nKeepHues fKe fdKe) (GKe : FnOk P w K mg base CX0 2 fKe fdKe nKeepHues spKeepHues)
    (DPr : Dn K mg "product_of_grids" sProd ["rows", "others"] fPr fdPr) (GPr : FnOk P w K mg base CX0 3 fPr fdPr ["rows", "others"] spProd) : FnOk P w K mg base CX0 4 f fd aGoes spGoes := by
  refine F.ok scGoes (fun vs H Q E h => ?_) (fun cdv A outer s H vs Q E hr h => ?_)
  · obtain ⟨wA, oA, tA, n, m, hs, hs', M, M', F, rfl, _⟩ := h
    rfl
  · obtain ⟨wA, oA, tA, n, m, hs, hs', M, M', F, rfl, W, W', hl, hl', S, S', hn, hm, g, hF, hFr, q⟩ := h
    have r1 := hr.mono (j := 1) (by decide)
    have r2 := hr.mono (j := 2) (by decide)
    obtain ⟨hA, rA, rs, w1, w2, w3, R⟩ := W.ex
    obtain ⟨hA', rA', rs', v1, v2, v3, R'⟩ := W'.ex
    obtain ⟨X, gX, lX, fX⟩ := g
    refine ⟨_, pss_cons (ps_set (i := 3) scGoes.nd rfl (Or.inl rfl) (pe_callB call_len_seq (by rfl) B.len boot_len (pa_cons (pe_ix ix_tup (pv 0) pe_int (fun _ _ => rfl)) pa_nil)))
      (pss_cons (ps_if (PW.pt (pw_or (pt_cmpR op_ne (pe_callB call_len_seq (by rfl) B.len boot_len (pa_cons (pe_ix ix_tup (pv 1) pe_int (fun _ _ => rfl)) pa_nil)) (pv 3) (nomark _)) (pw_or1 (pt_not (pt_val (pe_fn DIs GIs r1 rfl (pa_cons (pv 2) (pa_cons (pv 3) pa_nil)))))))) (pss_one (ps_ret pe_bl)) pss_nil)
      (pss_cons (ps_set (i := 4) scGoes.nd rfl (Or.inl rfl) (pe_fn DIn GIn r1 rfl (pa_cons (pv 2) pa_nil)))
      (pss_cons (ps_set (i := 5) scGoes.nd rfl (Or.inr rfl) (pe_fn DBo GBo r2 rfl (pa_cons (pv 4) pa_nil)))
      (pss_cons (ps_set (i := 6) scGoes.nd rfl (Or.inl rfl) (pe_fn DSq GSq r1 rfl (pa_cons (pe_lc1 rfl lcGoes rfl (pi_list (pv 4)) (fun _ _ _ => pe_fn DTo GTo r1 rfl (pa_cons (pv 7) (pa_cons (pv 5) pa_nil)))) (pa_cons (pv 3) pa_nil))))
      (pss_cons (ps_if (PW.pt (pw_or (pt_not (pt_val (pe_fn DSh GSh hr rfl (pa_cons (pv 6) (pa_cons (pv 5) pa_nil))))) (pw_or1 (pt_not (pt_val (pe_fn DKe GKe r2 rfl (pa_cons (pe_ix ix_tup (pv 0) pe_int (fun _ _ => rfl)) (pa_cons (pe_ix ix_tup (pv 1) pe_int (fun _ _ => rfl)) (pa_cons (pv 6) pa_nil))))))))) (pss_one (ps_ret pe_bl)) pss_nil)
      (pss_one (ps_ret (pe_cmpR (op_eqD hr.units) (pe_fn DPr GPr hr rfl (pa_cons (pe_ix ix_tup (pv 0) pe_int (fun _ _ => rfl)) (pa_cons (pv 6) pa_nil))) (pe_fn DPr GPr hr rfl (pa_cons (pv 6) (pa_cons (pe_ix ix_tup (pv 1) pe_int (fun _ _ => rfl)) pa_nil))) (nomark _))))))))), ?_⟩
    refine ⟨_, rfl, wA, _, _, _, rfl, rfl, SqT.of w1, at_hd _ _, hA, _, rfl, .inl (SqL.of w2), ?_⟩
    rw [length_map, hl]
    refine ⟨_, rfl, oA, _, _, _, rfl, rfl, SqT.of v1, at_hd _ _, hA', _, rfl, .inl (SqL.of v2), ?_⟩
    rw [length_map]
    refine ⟨_, rfl, rfl, _, rfl, ?_⟩
    unfold goesB at q
    by_cases hmn : hs'.length = n
    case neg =>
      refine iteNP (fun z => hmn (by have := V.int.inj z; omega)) (iteT (q false H ?_ (Same.refl _)))
      rw [decide_eq_false hmn, Bool.false_and]
    rw [decide_eq_true hmn, Bool.true_and] at q
    refine iteNS (by rw [hmn]) ?_
    refine ⟨_, rfl, _, rfl, tA, X, n, rfl, gX, by omega, by omega, fun x hx => ?_, fun H1 s1 => ⟨_, rfl, ?_⟩⟩
    · obtain ⟨i, hi⟩ := mem_iff_getElem?.mp hx
      obtain ⟨fs, hfs⟩ := get_lt (l := F) (i := i) (by rw [← lX]; exact lt_get hi)
      rw [(fX i x fs hi hfs).1]
      have := (hFr fs (mem_of_getElem? hfs)).1
      omega
    rw [isSq_F lX fX]
    cases hsq : isSqF n F with
    | false =>
      refine iteT (q false H1 ?_ s1)
      rw [hsq, Bool.false_and]
    | true =>
      refine iteF ?_
      rw [hsq, Bool.true_and] at q
      obtain ⟨sq1, sq2⟩ := sqF_spec hsq
      have flF : F.flatten.length = n * n := by rw [flat_lenF sq2, sq1]
      have nn : n * n ≤ 64 := Nat.mul_le_mul hn hn
      have ff := frat_flat lX fX
      have hB : ∀ f ∈ F.flatten, FrB f := fun f hf => by
        obtain ⟨r, hr, hf⟩ := mem_flat hf
        exact (hFr r hr).2 f hf
      refine ⟨_, rfl, tA, X, rfl, gX.mono s1, by rw [ff.1, flF]; omega, fun fA H2 s2 nf ef => ?_⟩
      have s12 := s1.trans s2
      refine ⟨_, rfl, fA, X.flatten, F.flatten, rfl, ef, ff.mono s12, by omega, fun f hf => (hB f hf).1, ?_⟩
      obtain ⟨b1, b2, b3⟩ := bot_spec (fs := F.flatten) fun f hf => (hB f hf).1
      generalize botL F.flatten = Wh at b1 b2 b3 q ⊢
      have b4 : M11.Bn 1300 Wh := b3.mono (by rw [flF]; omega)
      refine ⟨_, rfl, fA, rfl, ⟨_, SqL.of ef⟩, fun D hD => ?_⟩
      refine lc_vals ((F.flatten.map fun f => topF f Wh).map V.int) (by rw [length_map, length_map, ff.1]) (by rw [ff.1, flF]; omega) hD (SqL.of ef) ?_ ?_ ?_
      · intro i x v H' hx hv s'
        obtain ⟨z, hz, rfl⟩ := map_get hv
        obtain ⟨g, hg, rfl⟩ := map_get hz
        obtain ⟨p, rfl, hp⟩ := ff.2 i x g hx hg
        obtain ⟨g1, g2⟩ := hB g (mem_of_getElem? hg)
        exact ⟨_, rfl, _, rfl, p, g, Wh, rfl, s' _ _ (s12 _ _ hp), g1, g2.mono (by decide), b4.mono (by decide), rfl, Same.refl _⟩
      · intro H3 s3 eD
        rw [tops_flat] at eD
        have s13 := s12.trans s3
        have tw : ∀ x ∈ topsI F Wh, x.length = n := fun x hx => by
          obtain ⟨r, hr, rfl⟩ := tops_row hx
          rw [length_map, sq2 r hr]
        have tl : (topsI F Wh).length = n := by unfold topsI; rw [length_map, sq1]
        have tb : ∀ x ∈ topsI F Wh, ∀ z ∈ x, M11.Bn 2000 z := fun x hx z hz => by
          obtain ⟨r, hr, rfl⟩ := tops_row hx
          obtain ⟨g, hg, rfl⟩ := mem_map.mp hz
          obtain ⟨g1, g2⟩ := (hFr r hr).2 g hg
          exact (g2.mul (M11.Bn.le b4 (fdiv_le g1.1))).mono (by decide)
        generalize topsI F Wh = T at eD tw tl tb q
        refine ⟨_, rfl, D, _, n, rfl, SqL.of eD, by rw [length_map, flat_len tw, tl], by omega, fun sA H4 s4 nS gS => ?_⟩
        rw [← gI_flat, sq_flat (by rw [gI_len]; exact tl) (fun x hx => by
          obtain ⟨y, hy, rfl⟩ := mem_map.mp hx
          rw [length_map]; exact tw y hy)] at gS
        have s14 := s13.trans s4
        refine ⟨_, rfl, _, rfl, sA, T, n, Wh, rfl, gS, tl, by omega, tw, fun H5 s5 => ⟨_, rfl, ?_⟩⟩
        have s15 := s14.trans s5
        cases hsh : sharedB T n Wh with
        | false =>
          refine iteT (q false H5 ?_ s15)
          rw [hsh, Bool.false_and]
        | true =>
          refine iteF ?_
          rw [hsh, Bool.true_and] at q
          refine ⟨_, rfl, wA, _, _, _, rfl, rfl, SqT.of (s15 _ _ w1), at_hd _ _, _, rfl, oA, _, _, _, rfl, rfl, SqT.of (s15 _ _ v1), at_hd _ _, _, rfl, ?_⟩
          refine ⟨hA, hA', sA, hs, hs', T, rfl, s15 _ _ w2, s15 _ _ v2, gS.mono s5, by omega, by omega, by omega, fun x hx => by rw [hmn]; exact tw x hx, fun H6 s6 => ⟨_, rfl, ?_⟩⟩
          have s16 := s15.trans s6
          cases hk : keepHB hs hs' T with
          | false =>
            refine iteT (q false H6 ?_ s16)
            rw [hk, Bool.false_and]
          | true =>
            refine iteF ?_
            rw [hk, Bool.true_and] at q
            have hwx : (2 * wMax : Nat) < 2 ^ 2000 := by
              have : wMax = 1000000000000000000000 := by decide
              rw [this]
              exact Nat.lt_of_lt_of_le (show (2 * 1000000000000000000000 : Nat) < 2 ^ 100 by decide) (Nat.pow_le_pow_right (by decide) (by decide))
            have mr : ∀ {k : Nat} {N : List (List Int)}, SqN k N → ∀ x ∈ N, x.length = k ∧ ∀ z ∈ x, M11.Bn 2000 z := fun Sq x hx => by
              obtain ⟨i, hi⟩ := mem_iff_getElem?.mp hx
              exact ⟨(Sq.row i x hi).1, fun z hz => Nat.lt_of_le_of_lt ((Sq.row i x hi).2 z hz) hwx⟩
            have nil0 : ∀ {N : List (List Int)}, N.length = n → N = [] → n = 0 := fun e z => by rw [z] at e; exact e.symm
            have em : m = n := by omega
            refine ⟨_, rfl, wA, _, _, _, rfl, rfl, SqT.of (s16 _ _ w1), at_snd _ _ _, _, rfl, ?_⟩
            refine ⟨rA, sA, M, T, n, 2000, rfl, (grd_rows w3 R).mono s16, gS.mono (s5.trans s6), by rw [S.len]; omega, by omega, by omega, by decide, fun x hx => ?_, fun x hx => ⟨tw x hx, tb x hx⟩, nil0 tl, fun pA H7 s7 n7 g7 => ?_⟩
            · obtain ⟨h1, h2⟩ := mr S x hx
              exact ⟨by rw [h1, tl], h2⟩
            have s17 := s16.trans s7
            refine ⟨_, rfl, _, rfl, oA, _, _, _, rfl, rfl, SqT.of (s17 _ _ v1), at_snd _ _ _, ?_⟩
            refine ⟨sA, rA', T, M', n, 2000, rfl, gS.mono ((s5.trans s6).trans s7), (grd_rows v3 R').mono s17, by omega, by rw [S'.len]; omega, by omega, by decide, fun x hx => ⟨by rw [tw x hx, S'.len, em], tb x hx⟩, fun x hx => ?_, nil0 (by rw [S'.len, em]), fun pB H8 s8 n8 g8 => ?_⟩
            · obtain ⟨h1, h2⟩ := mr S' x hx
              exact ⟨by rw [h1, em], h2⟩
            refine ⟨_, _, (g7.mono s8).da, g8.da, ⟨(lay_gI _).1, (lay_gI _).1, (lay_gI _).2⟩, q _ H8 ?_ (s17.trans s8)⟩
            simp only [PyData.eqv]
            exact eqv_gI _ _
      · rintro σ H' Q1 Q2 hq ⟨v, e, v', e', a1, a2, a3, a4, a5, a6, a7, a8, g⟩
        exact ⟨v, e, v', e', a1, a2, a3, a4, a5, a6, a7, a8, hq _ _ g⟩
abbrev nLow : List Str := ["_law_top", "_law_bottom", "_law_one", "_law_other", "_law_rest"]
abbrev aLow : List Str := ["_law_top", "_law_bottom"]
theorem scLow : FnScope nLow aLow (defScope sLow) := ⟨rfl, rfl, rfl, by decide +kernel, rfl, by decide +kernel, by decide +kernel⟩
def spLow : Sp := fun vs H Q _ => ∃ t b : Int, vs = [.int t, .int b] ∧ 0 < b ∧ M11.Bn 8000 b ∧ ∀ p H', Same H H' → H p = none → H' p = some (tupF (M11.low t b)) → Q (.ref p) H'
theorem ok_low {f : Addr} {fd : FuncData} (B : BltR mg) (F : Fun K "_law_lowest" "_law_lowest" sLow f fd) : FnOk P w K mg base CX0 1 f fd aLow spLow := by
  refine F.ok scLow (fun vs H Q E h => ?_) (fun cdv A outer s H vs Q E hr h => ?_)
  · obtain ⟨t, b, rfl, _⟩ := h
    rfl
  · obtain ⟨t, b, rfl, hb, hbn, k⟩ := h
    refine ⟨_, pss_cons (ps_set (i := 2) scLow.nd rfl (Or.inl rfl) (pe_callB call_abs (by rfl) B.abs boot_abs (pa_cons (pv 0) pa_nil)))
      (pss_cons (ps_set (i := 3) scLow.nd rfl (Or.inl rfl) (pv 1))
      (pss_cons (ps_while PassesOwn.never (pt_cmpR op_ne (pv 2) pe_int (nomark _))
        (pss_cons (ps_set (i := 4) scLow.nd rfl (Or.inl rfl) (pe_op op_modN (pv 3) (pv 2)))
        (pss_cons (ps_set (i := 3) scLow.nd rfl (Or.inl rfl) (pv 2))
        (pss_one (ps_set (i := 2) scLow.nd rfl (Or.inl rfl) (pv 4))))))
      (pss_one (ps_ret (pe_tup (pa_cons (pe_op op_fdivL (pv 0) (pv 3)) (pa_cons (pe_op op_fdivL (pv 1) (pv 3)) pa_nil))))))), ?_⟩
    refine ⟨_, rfl, t, rfl, _, rfl, ?_⟩
    refine while_by (fun σ H' => ∃ (x y : Int) (r : Option V), σ = [some (.int t), some (.int b), some (.int x), some (.int y), r] ∧ H' = H ∧ 0 ≤ x ∧ 0 < y ∧ Int.gcd x y = Int.gcd t b)
      (fun σ _ => match σ with | [_, _, some (.int x), _, _] => x.natAbs | _ => 0) ⟨_, b, none, rfl, rfl, ?_, hb, ?_⟩ ?_ ?_
    · split <;> omega
    · split
      · rw [Int.neg_gcd]
      · rfl
    · rintro σ H' ⟨x, y, r, rfl, rfl, hx, hy, hg⟩
      refine ⟨_, rfl, rfl, _, rfl, ?_⟩
      by_cases h0 : x = 0
      · subst h0
        refine iteNS rfl ?_
        rw [Int.gcd_zero_left] at hg
        have eG : M11.sgn t b = y := by
          unfold M11.sgn
          rw [if_neg (by omega)]
          show ((Int.gcd t b : Nat) : Int) = y
          rw [← hg]
          omega
        have hle := M11.sgn_le (t := t) (Int.ne_of_gt hb)
        rw [eG] at hle
        have hly : y.natAbs < 2 ^ 9000 := Nat.lt_of_le_of_lt hle (hbn.mono (m := 9000) (by decide))
        refine ⟨_, rfl, _, rfl, _, _, rfl, rfl, ⟨Int.ne_of_gt hy, hly⟩, _, rfl, _, rfl, _, _, rfl, rfl, ⟨Int.ne_of_gt hy, hly⟩, sz2, fun p hp => k p _ (Same.upd hp) hp ?_⟩
        rw [upd_same]
        unfold M11.low tupF
        rw [eG]
      · refine iteNP (fun z => h0 (V.int.inj z)) ?_
        refine ⟨_, rfl, _, rfl, y, x, rfl, rfl, h0, _, rfl, _, rfl, ?_⟩
        refine ⟨⟨y.fmod x, x, _, rfl, rfl, Int.fmod_nonneg_of_pos _ (by omega), by omega, ?_⟩, M11.fmod_small y x h0⟩
        rw [Int.gcd_comm, M11.gcd_step, Int.gcd_comm]
        exact hg
    · rintro σ H' Q1 Q2 hq ⟨v, e, sc, c, ec, q⟩
      exact ⟨v, e, sc, c, ec, hq _ _ q⟩
def FrI (H1 : Hp) (D : Addr) (fs : List (Int × Int)) (i : Nat) (ys : List V) (H' : Hp) : Prop := ∃ ps : List Addr, ys = ps.map V.ref ∧ ps.length = i ∧ Same H1 H' ∧ H' D = some (.lst ys) ∧ (∀ r ∈ ps, r ≠ D) ∧ ∀ (j : Nat) (r : Addr) (f : Int × Int), ps[j]? = some r → fs[j]? = some f → H' r = some (tupF f)
theorem FrI.start {H1 : Hp} {D : Addr} {fs : List (Int × Int)} (hD : H1 D = none) : FrI H1 D fs 0 [] (upd H1 D (.lst [])) := ⟨[], rfl, rfl, Same.upd hD, upd_same, (fun r h => by cases h), (fun j r x h _ => by cases h)⟩
theorem FrI.same {H1 H' : Hp} {D : Addr} {fs : List (Int × Int)} {i : Nat} {ys : List V} (g : FrI H1 D fs i ys H') : Same H1 H' := let ⟨_, _, _, z, _⟩ := g; z
theorem FrI.at {H1 H' : Hp} {D : Addr} {fs : List (Int × Int)} {i : Nat} {ys : List V} (g : FrI H1 D fs i ys H') : H' D = some (.lst ys) := let ⟨_, _, _, _, z, _⟩ := g; z
theorem FrI.step {H1 H4 H5 : Hp} {D p : Addr} {fs : List (Int × Int)} {i : Nat} {ys : List V} {f : Int × Int} (hD : H1 D = none) (g : FrI H1 D fs i ys H4) (hf : fs[i]? = some f) (hp : H5 p = some (tupF f)) (hn : H4 p = none) (s5 : Same H4 H5) (hm : i < 900) :
    H5 D = some (.lst ys) ∧ ys.length < sizeLine ∧ FrI H1 D fs (i + 1) (ys ++ [.ref p]) (upd H5 D (.lst (ys ++ [.ref p]))) := by
  obtain ⟨rs, rfl, lr, s4, eD, nD, hr⟩ := g
  have npD : p ≠ D := fun z => by rw [z, eD] at hn; cases hn
  refine ⟨s5 _ _ eD, small1000 (by rw [length_map]; omega), rs ++ [p], by rw [map_append]; rfl, by rw [length_append, lr]; rfl, fun b o e => ?_, upd_same, fun r h => ?_, fun j r y h1 h2 => ?_⟩
  · rw [upd_ne (ne_of_none e hD)]
    exact s5 _ _ (s4 _ _ e)
  · rcases mem_append.mp h with z | z
    · exact nD r z
    · rw [mem_singleton.mp z]; exact npD
  · rcases snoc_get h1 with z | ⟨e, z⟩
    · rw [upd_ne (nD r (mem_of_getElem? z))]
      exact s5 _ _ (hr j r y z h2)
    · subst z
      rw [e, lr, hf] at h2
      cases h2
      rw [upd_ne npD]
      exact hp
theorem FrI.done {H1 H' : Hp} {D : Addr} {fs : List (Int × Int)} {ys : List V} {n : Nat} (g : FrI H1 D fs n ys H') (e : fs.length = n) : H' D = some (.lst ys) ∧ FrAt H' ys fs := by
  obtain ⟨rs, rfl, lr, s4, eD, nD, hr⟩ := g
  refine ⟨eD, by rw [length_map, lr, e], fun i v f h1 h2 => ?_⟩
  obtain ⟨r, hr', rfl⟩ := map_get h1
  exact ⟨r, rfl, hr i r f hr' h2⟩
abbrev nLSum : List Str := ["_law_terms", "_law_top", "_law_bottom", "_law_one"]
theorem scLSum : FnScope nLSum ["_law_terms"] (defScope sLSum) := ⟨rfl, rfl, rfl, by decide +kernel, rfl, by decide +kernel, by decide +kernel⟩
def FrQ (f : Int × Int) : Prop := 0 < f.2 ∧ M11.Bn 200 f.1 ∧ M11.Bn 200 f.2
def spLSum : Sp := fun vs H Q _ => ∃ (a : Addr) (x : List V) (fs : List (Int × Int)), vs = [.ref a] ∧ H a = some (.lst x) ∧ FrAt H x fs ∧ fs.length ≤ 16 ∧ (∀ f ∈ fs, FrQ f) ∧ ∀ p H', Same H H' → H' p = some (tupF (sumL fs)) → Q (.ref p) H'
theorem ok_lsum {f fL : Addr} {fd fdL : FuncData} (F : Fun K "_law_sum" "_law_sum" sLSum f fd) (DL : Dn K mg "_law_lowest" sLow aLow fL fdL) (GL : FnOk P w K mg base CX0 1 fL fdL aLow spLow) : FnOk P w K mg base CX0 2 f fd ["_law_terms"] spLSum := by
  refine F.ok scLSum (fun vs H Q E h => ?_) (fun cdv A outer s H vs Q E hr h => ?_)
  · obtain ⟨a, x, fs, rfl, _⟩ := h
    rfl
  · obtain ⟨a, x, fs, rfl, ha, hx, hl, hb, q⟩ := h
    refine ⟨_, pss_cons (ps_set (i := 1) scLSum.nd rfl (Or.inl rfl) pe_int)
      (pss_cons (ps_set (i := 2) scLSum.nd rfl (Or.inl rfl) pe_int)
      (pss_cons (ps_for PassesOwn.never rfl (pi_list (pv 0)) (pg_name (i := 3) scLSum.nd rfl (Or.inl rfl))
        (pss_one (ps_asg (pe_fn DL GL hr rfl (pa_cons (pe_op op_add (pe_op op_mulN (pv 1) (pe_ix (ix_tupK (K := K)) (pv 3) pe_int (fun _ _ => rfl))) (pe_op op_mulN (pe_ix (ix_tupK (K := K)) (pv 3) pe_int (fun _ _ => rfl)) (pv 2))) (pa_cons (pe_op op_mulN (pv 2) (pe_ix (ix_tupK (K := K)) (pv 3) pe_int (fun _ _ => rfl))) pa_nil)))
          (pg_tup rfl (pgs_cons (pg_name (i := 1) scLSum.nd rfl (Or.inl rfl)) (pgs_cons (pg_name (i := 2) scLSum.nd rfl (Or.inl rfl)) pgs_nil))))))
      (pss_one (ps_ret (pe_tup (pa_cons (pv 1) (pa_cons (pv 2) pa_nil))))))), ?_⟩
    refine ⟨_, rfl, a, rfl, ⟨_, SqL.of ha⟩, for_list (xs := x) (fun i σ H' => ∃ (o3 : Option V), σ = [some (.ref a), some (.int (sumL (fs.take i)).1), some (.int (sumL (fs.take i)).2), o3] ∧ Same H H') ⟨none, rfl, Same.refl _⟩ (fun i σ H' _ ⟨_, _, s'⟩ => SqL.of (s' _ _ ha)) ?_ ?_⟩
    · rintro i v σ H1 hv ⟨o3, rfl, s1⟩
      obtain ⟨g, hg⟩ := get_lt (l := fs) (i := i) (by rw [← hx.1]; exact lt_get hv)
      obtain ⟨p, rfl, hp⟩ := hx.2 i v g hv hg
      have hp1 := s1 _ _ hp
      obtain ⟨g1, g2, g3⟩ := hb g (mem_of_getElem? hg)
      obtain ⟨b1, b2, b3⟩ := sumL_bn _ (fs.take i) rfl (fun f hf => (hb f (mem_of_mem_take hf)).1) (fun f hf => (hb f (mem_of_mem_take hf)).2)
      have hle : 1 + 201 * (fs.take i).length ≤ 4000 := by rw [length_take]; omega
      have c2 := b2.mono hle
      have c3 := b3.mono hle
      have sn : sumL (fs.take (i + 1)) = addL (sumL (fs.take i)) g := by rw [take_snoc hg, sumL_snoc]
      generalize sumL (fs.take i) = u at b1 c2 c3 sn ⊢
      refine ⟨_, rfl, _, rfl, p, _, _, .int g.2, rfl, rfl, SqT.of hp1, at_snd _ _ _, _, _, rfl, rfl, ⟨4000, by decide, c2, g3.mono (by decide)⟩, ?_⟩
      refine ⟨_, rfl, p, _, _, .int g.1, rfl, rfl, SqT.of hp1, at_hd _ _, _, rfl, _, _, rfl, rfl, ⟨4000, by decide, g2.mono (by decide), c3⟩, _, _, rfl, rfl, ?_⟩
      refine ⟨_, rfl, _, rfl, p, _, _, .int g.2, rfl, rfl, SqT.of hp1, at_snd _ _ _, _, _, rfl, rfl, ⟨4000, by decide, c3, g3.mono (by decide)⟩, ?_⟩
      refine ⟨_, _, rfl, Int.mul_pos b1 g1, (c3.mul g3).mono (by decide), fun r H2 s2 nr er => ?_⟩
      refine ⟨r, _, rfl, SqT.of er, rfl, _, _, rfl, _, _, rfl, rfl, ?_⟩
      refine ⟨some (.ref p), ?_, s1.trans s2⟩
      rw [sn]
      rfl
    · rintro σ H1 ⟨o3, rfl, s1⟩
      refine ⟨_, rfl, _, rfl, sz2, fun p hp => ?_⟩
      refine q p _ (s1.trans (Same.upd hp)) ?_
      rw [upd_same, hx.1, take_length]
      rfl
def dF (f : Int × Int) : PyData := .tuple [.int f.1, .int f.2]
theorem eqv_dF (f g : Int × Int) : PyData.eqv (dF f) (dF g) = decide (f = g) := by
  obtain ⟨a, b⟩ := f
  obtain ⟨c, d⟩ := g
  unfold dF
  simp only [PyData.eqv, PyData.eqvAll]
  by_cases h1 : a = c
  · subst h1
    by_cases h2 : b = d
    · subst h2; simp
    · simp [h2]
  · simp [h1]
theorem lay_dF (f : Int × Int) : (dF f).canLay0 = true ∧ (dF f).depth ≤ 1 := by
  unfold dF
  refine ⟨by simp only [PyData.canLay0, PyData.canLayAll0, Bool.and_self], ?_⟩
  simp only [PyData.depth, PyData.depthAll]
  omega
theorem daF {H : Hp} {p : Addr} {f : Int × Int} (h : H p = some (tupF f)) : DA K any H (.ref p) (dF f) := .tup trivial (SqT.of h) (.cons (.int _) (.cons (.int _) .nil))
theorem FGrd.get {H : Hp} {a : Addr} {F : List (List (Int × Int))} (g : FGrd H a F) : ∃ rs : List Addr, H a = some (.lst (rs.map V.ref)) ∧ rs.length = F.length ∧ ∀ (i : Nat) (fs : List (Int × Int)), F[i]? = some fs → ∃ r x, rs[i]? = some r ∧ H r = some (.lst x) ∧ FrAt H x fs := by
  obtain ⟨X, ⟨rs, h, R⟩, lX, fX⟩ := g
  refine ⟨rs, h, by rw [R.len, lX], fun i fs hf => ?_⟩
  have hi := lt_get hf
  obtain ⟨x, hx⟩ := get_lt (l := X) (i := i) (by omega)
  obtain ⟨r, hr⟩ := get_lt (l := rs) (i := i) (by rw [R.len]; omega)
  exact ⟨r, x, hr, R.row i r x hr hx, fX i x fs hx hf⟩
theorem FrAt.get {H : Hp} {x : List V} {fs : List (Int × Int)} {i : Nat} {f : Int × Int} (h : FrAt H x fs) (hf : fs[i]? = some f) : ∃ p, x[i]? = some (.ref p) ∧ H p = some (tupF f) := by
  obtain ⟨v, hv⟩ := get_lt (l := x) (i := i) (by rw [h.1]; exact lt_get hf)
  obtain ⟨p, rfl, hp⟩ := h.2 i v f hv hf
  exact ⟨p, hv, hp⟩
def rowF (F : List (List (Int × Int))) (u : Nat) : List (Int × Int) := (F[u]?).getD []
def atF (F : List (List (Int × Int))) (u w : Nat) : Int × Int := ((rowF F u)[w]?).getD (0, 1)
def colF (F : List (List (Int × Int))) (u : Nat) : List (Int × Int) := F.map fun r => (r[u]?).getD (0, 1)
def hereF (M : List (List Int)) (F : List (List (Int × Int))) (n u w : Nat) : List (Int × Int) := (List.range n).map fun v => (ent M u v * (atF F v w).1, (atF F v w).2)
def thereF (M' : List (List Int)) (F : List (List (Int × Int))) (n u w : Nat) : List (Int × Int) := (List.range n).map fun x => ((atF F u x).1 * ent M' x w, (atF F u x).2)
def badF (hs hs' : List Int) (F : List (List (Int × Int))) (u w : Nat) : Prop := (atF F u w).1 < 0 ∨ (0 < (atF F u w).1 ∧ hs.getD u 0 ≠ hs'.getD w 0)
structure LgRow (n : Nat) (hs hs' : List Int) (F : List (List (Int × Int))) (u : Nat) : Prop where
  row : sumL (rowF F u) = (1, 1)
  col : sumL (colF F u) = (1, 1)
  ok : ∀ w < n, ¬ badF hs hs' F u w
structure LG (n : Nat) (hs hs' : List Int) (M M' : List (List Int)) (F : List (List (Int × Int))) : Prop where
  len' : hs'.length = n
  len : F.length = n
  rows : ∀ u < n, (rowF F u).length = n
  one : ∀ u < n, LgRow n hs hs' F u
  two : ∀ u < n, ∀ w < n, sumL (hereF M F n u w) = sumL (thereF M' F n u w)
def spLGoes : Sp := fun vs H Q _ => ∃ (wA oA tA : Addr) (n m : Nat) (hs hs' : List Int) (M M' : List (List Int)) (F : List (List (Int × Int))), vs = [.ref wA, .ref oA, .ref tA] ∧ WR H wA hs M ∧ WR H oA hs' M' ∧ hs.length = n ∧ hs'.length = m ∧ SqN n M ∧ SqN m M' ∧ n ≤ 8 ∧ m ≤ 8 ∧
  FGrd H tA F ∧ F.length ≤ 16 ∧ (∀ r ∈ F, r.length ≤ 16 ∧ ∀ f ∈ r, FrB f) ∧ ∀ b H', (b = true ↔ LG n hs hs' M M' F) → Same H H' → Q (.bl b) H'
abbrev nLG : List Str := ["_law_web_here", "_law_other", "_law_table_here", "_law_many", "_law_u", "_law_w", "_law_share", "_law_here", "_law_there"]
abbrev aLG : List Str := ["_law_web_here", "_law_other", "_law_table_here"]
def forBody (s : Stmt) (i : Nat) : Stmt := match s with
  | .For _ _ b _ _ => b.getD i (.Pass ⟨0, 0, 0, 0⟩)
  | _ => .Pass ⟨0, 0, 0, 0⟩
def ifTest (s : Stmt) : Expr := match s with
  | .If c _ _ _ => c
  | _ => .Constant .none 0 ⟨0, 0, 0, 0⟩
def cmpL (e : Expr) : Expr := match e with
  | .Compare a _ _ _ => a
  | _ => .Constant .none 0 ⟨0, 0, 0, 0⟩
theorem scLG : FnScope nLG aLG (defScope sLGoes) := ⟨rfl, rfl, rfl, by decide +kernel, rfl, by decide +kernel, by decide +kernel⟩
theorem lcLG1 : LcScopes (defScope sLGoes) nLG (lcScope (argAt (cmpL (boolAt (ifTest (forBody (bodyAt sLGoes 3) 0)) 1)) 0)) ["_law_row_here"] := ⟨by decide +kernel, rfl, by decide +kernel, by decide +kernel, by decide +kernel, by decide +kernel, by decide +kernel, by decide +kernel, by decide +kernel, by decide +kernel⟩
theorem lcLG2 : LcScopes (defScope sLGoes) nLG (lcScope (argAt (asgVal (forBody (forBody (bodyAt sLGoes 4) 0) 0)) 0)) ["_law_v"] := ⟨by decide +kernel, rfl, by decide +kernel, by decide +kernel, by decide +kernel, by decide +kernel, by decide +kernel, by decide +kernel, by decide +kernel, by decide +kernel⟩
theorem lcLG3 : LcScopes (defScope sLGoes) nLG (lcScope (argAt (asgVal (forBody (forBody (bodyAt sLGoes 4) 0) 1)) 0)) ["_law_x"] := ⟨by decide +kernel, rfl, by decide +kernel, by decide +kernel, by decide +kernel, by decide +kernel, by decide +kernel, by decide +kernel, by decide +kernel, by decide +kernel⟩
theorem FrB.q {f : Int × Int} (h : FrB f) : FrQ f := ⟨h.1.1, h.2.mono (by decide), M11.Bn.mono (n := 20) h.1.2 (by decide)⟩
theorem FrB.mulL {f : Int × Int} {z : Int} (h : FrB f) (hz : z.natAbs ≤ 2 * wMax) : M11.Bn 100 z ∧ FrQ (z * f.1, f.2) ∧ FrQ (f.1 * z, f.2) := by
  have hw : wMax = 1000000000000000000000 := by decide
  have b : M11.Bn 100 z := Nat.lt_of_le_of_lt hz (by rw [hw]; decide)
  have e := h.q
  exact ⟨b, ⟨e.1, b.mul h.2, e.2.2⟩, ⟨e.1, h.2.mul b, e.2.2⟩⟩
theorem ok_lgoes {f fS : Addr} {fd fdS : FuncData} (B : BltL mg) (F0 : Fun K "_law_goes" "_law_goes" sLGoes f fd) (DS : Dn K mg "_law_sum" sLSum ["_law_terms"] fS fdS) (GS : FnOk P w K mg base CX0 2 fS fdS ["_law_terms"] spLSum) : FnOk P w K mg base CX0 3 f fd aLG spLGoes := by
  refine F0.ok scLG (fun vs H Q E h => ?_) (fun cdv A outer s H vs Q E hr h => ?_)
  · obtain ⟨wA, oA, tA, n, m, hs, hs', M, M', F, rfl, _⟩ := h
    rfl
  · obtain ⟨wA, oA, tA, n, m, hs, hs', M, M', F, rfl, W, W', hl, hl', S, S', hn, hm, g, hF, hFr, q⟩ := h
    obtain ⟨hA, rA, rs, w1, w2, w3, R⟩ := W.ex
    obtain ⟨hA', rA', rs', v1, v2, v3, R'⟩ := W'.ex
    obtain ⟨ts, t1, lt, tr⟩ := g.get
    refine ⟨_, pss_cons (ps_set (i := 3) scLG.nd rfl (Or.inl rfl) (pe_callB call_len_seq (by rfl) B.len boot_len (pa_cons (pe_ix ix_tup (pv 0) pe_int (fun _ _ => rfl)) pa_nil)))
      (pss_cons (ps_if (PW.pt (pw_or (pt_cmpR op_ne (pe_callB call_len_seq (by rfl) B.len boot_len (pa_cons (pe_ix ix_tup (pv 1) pe_int (fun _ _ => rfl)) pa_nil)) (pv 3) (nomark _)) (pw_or1 (pt_cmpR op_ne (pe_callB call_len_seq (by rfl) B.len boot_len (pa_cons (pv 2) pa_nil)) (pv 3) (nomark _))))) (pss_one (ps_ret pe_bl)) pss_nil)
      (pss_cons (ps_for PassesOwn.never rfl (pi_range1 rfl B.range (pa_cons (pv 3) pa_nil)) (pg_name (i := 4) scLG.nd rfl (Or.inr rfl))
        (pss_one (ps_if (pt_cmpR op_ne (pe_callB call_len_seq (by rfl) B.len boot_len (pa_cons (pe_ix ix_list (pv 2) (pv 4) (fun _ _ => rfl)) pa_nil)) (pv 3) (nomark _)) (pss_one (ps_ret pe_bl)) pss_nil)))
      (pss_cons (ps_for PassesOwn.never rfl (pi_range1 rfl B.range (pa_cons (pv 3) pa_nil)) (pg_name (i := 4) scLG.nd rfl (Or.inr rfl))
        (pss_cons (ps_if (PW.pt (pw_or (pt_cmpR (op_neD hr.units) (pe_fn DS GS hr rfl (pa_cons (pe_ix ix_list (pv 2) (pv 4) (fun _ _ => rfl)) pa_nil)) (pe_tup (pa_cons pe_int (pa_cons pe_int pa_nil))) (nomark _))
          (pw_or1 (pt_cmpR (op_neD hr.units) (pe_fn DS GS hr rfl (pa_cons (pe_lc1 rfl lcLG1 rfl (pi_list (pv 2)) (fun _ _ _ => pe_ix (ix_listK (K := K)) (pv 9) (pv 4) (fun _ _ => rfl))) pa_nil)) (pe_tup (pa_cons pe_int (pa_cons pe_int pa_nil))) (nomark _))))) (pss_one (ps_ret pe_bl)) pss_nil)
        (pss_one (ps_for PassesOwn.never rfl (pi_enum rfl B.enum (pa_cons (pe_ix ix_list (pv 2) (pv 4) (fun _ _ => rfl)) pa_nil)) (pg_tup rfl (pgs_cons (pg_name (i := 5) scLG.nd rfl (Or.inr rfl)) (pgs_cons (pg_name (i := 6) scLG.nd rfl (Or.inl rfl)) pgs_nil)))
          (pss_one (ps_if (PW.pt (pw_or (pt_cmpR op_lt (pe_ix ix_tup (pv 6) pe_int (fun _ _ => rfl)) pe_int (nomark _)) (pw_or1 (PW.pt (pw_and (pt_cmpR op_gt (pe_ix ix_tup (pv 6) pe_int (fun _ _ => rfl)) pe_int (nomark _))
            (pw_and1 (pt_cmpR op_ne (pe_ix ix_list (pe_ix ix_tup (pv 0) pe_int (fun _ _ => rfl)) (pv 4) (fun _ _ => rfl)) (pe_ix ix_list (pe_ix ix_tup (pv 1) pe_int (fun _ _ => rfl)) (pv 5) (fun _ _ => rfl)) (nomark _)))))))) (pss_one (ps_ret pe_bl)) pss_nil))))))
      (pss_cons (ps_for PassesOwn.never rfl (pi_range1 rfl B.range (pa_cons (pv 3) pa_nil)) (pg_name (i := 4) scLG.nd rfl (Or.inr rfl))
        (pss_one (ps_for PassesOwn.never rfl (pi_range1 rfl B.range (pa_cons (pv 3) pa_nil)) (pg_name (i := 5) scLG.nd rfl (Or.inr rfl))
          (pss_cons (ps_set (i := 7) scLG.nd rfl (Or.inl rfl) (pe_fn DS GS hr rfl (pa_cons (pe_lc1 rfl lcLG2 rfl (pi_range1 rfl B.range (pa_cons (pv 3) pa_nil)) (fun _ _ _ => pe_tup (pa_cons (pe_op op_mulN
              (pe_ix (ix_listK (K := K)) (pe_ix (ix_listK (K := K)) (pe_ix (ix_tupK (K := K)) (pv 0) pe_int (fun _ _ => rfl)) (pv 4) (fun _ _ => rfl)) (pv 9) (fun _ _ => rfl))
              (pe_ix (ix_tupK (K := K)) (pe_ix (ix_listK (K := K)) (pe_ix (ix_listK (K := K)) (pv 2) (pv 9) (fun _ _ => rfl)) (pv 5) (fun _ _ => rfl)) pe_int (fun _ _ => rfl)))
            (pa_cons (pe_ix (ix_tupK (K := K)) (pe_ix (ix_listK (K := K)) (pe_ix (ix_listK (K := K)) (pv 2) (pv 9) (fun _ _ => rfl)) (pv 5) (fun _ _ => rfl)) pe_int (fun _ _ => rfl)) pa_nil)))) pa_nil)))
          (pss_cons (ps_set (i := 8) scLG.nd rfl (Or.inl rfl) (pe_fn DS GS hr rfl (pa_cons (pe_lc1 rfl lcLG3 rfl (pi_range1 rfl B.range (pa_cons (pv 3) pa_nil)) (fun _ _ _ => pe_tup (pa_cons (pe_op op_mulN
              (pe_ix (ix_tupK (K := K)) (pe_ix (ix_listK (K := K)) (pe_ix (ix_listK (K := K)) (pv 2) (pv 4) (fun _ _ => rfl)) (pv 9) (fun _ _ => rfl)) pe_int (fun _ _ => rfl))
              (pe_ix (ix_listK (K := K)) (pe_ix (ix_listK (K := K)) (pe_ix (ix_tupK (K := K)) (pv 1) pe_int (fun _ _ => rfl)) (pv 9) (fun _ _ => rfl)) (pv 5) (fun _ _ => rfl)))
            (pa_cons (pe_ix (ix_tupK (K := K)) (pe_ix (ix_listK (K := K)) (pe_ix (ix_listK (K := K)) (pv 2) (pv 4) (fun _ _ => rfl)) (pv 9) (fun _ _ => rfl)) pe_int (fun _ _ => rfl)) pa_nil)))) pa_nil)))
          (pss_one (ps_if (pt_cmpR (op_neD hr.units) (pv 7) (pv 8) (nomark _)) (pss_one (ps_ret pe_bl)) pss_nil)))))))
      (pss_one (ps_ret pe_bl)))))), ?_⟩
    refine ⟨_, rfl, wA, _, _, _, rfl, rfl, SqT.of w1, at_hd _ _, hA, _, rfl, .inl (SqL.of w2), ?_⟩
    rw [length_map, hl]
    refine ⟨_, rfl, oA, _, _, _, rfl, rfl, SqT.of v1, at_hd _ _, hA', _, rfl, .inl (SqL.of v2), ?_⟩
    rw [length_map]
    refine ⟨_, rfl, rfl, _, rfl, ?_⟩
    by_cases hmn : hs'.length = n
    case neg => exact iteNP (fun z => hmn (by have := V.int.inj z; omega)) (iteT (q false H ⟨fun z => (by cases z), fun L => absurd L.len' hmn⟩ (Same.refl _)))
    refine iteNS (by rw [hmn]) ?_
    have em : m = n := by omega
    subst em
    refine ⟨_, rfl, tA, _, rfl, .inl (SqL.of t1), ?_⟩
    rw [length_map, lt]
    refine ⟨_, rfl, rfl, _, rfl, ?_⟩
    by_cases hFn : F.length = m
    case neg => exact iteNP (fun z => hFn (by have := V.int.inj z; omega)) (q false H ⟨fun z => (by cases z), fun L => absurd L.len hFn⟩ (Same.refl _))
    refine iteNS (by rw [hFn]) ?_
    have gr : ∀ u, u < m → ∃ fs r x, F[u]? = some fs ∧ rowF F u = fs ∧ ts[u]? = some r ∧ H r = some (.lst x) ∧ FrAt H x fs := fun u hu => by
      obtain ⟨fs, hfs⟩ := get_lt (l := F) (i := u) (by omega)
      obtain ⟨r, x, h1, h2, h3⟩ := tr u fs hfs
      exact ⟨fs, r, x, hfs, by unfold rowF; rw [hfs]; rfl, h1, h2, h3⟩
    refine ⟨_, rfl, (m : Int), rfl, by omega, by omega, for_range (n := m) (fun i σ H' => ∃ (o4 : Option V), σ = [some (.ref wA), some (.ref oA), some (.ref tA), some (.int (m : Int)), o4, none, none, none, none] ∧ H' = H ∧ ∀ u < i, (rowF F u).length = m) ⟨none, rfl, rfl, fun u hu => absurd hu (Nat.not_lt_zero _)⟩ ?_ ?_⟩
    · rintro i σ H' hi ⟨o4, rfl, rfl, hj⟩
      rw [show ((0 : Int) + (i : Nat)) = (i : Int) by omega]
      obtain ⟨fs, r, x, e1, e2, e3, e4, e5⟩ := gr i hi
      refine ⟨_, rfl, _, rfl, tA, _, _, _, rfl, rfl, SqL.of t1, at_ref e3, r, _, rfl, .inl (SqL.of e4), _, rfl, rfl, _, rfl, ?_⟩
      rw [e5.1]
      by_cases hx : fs.length = m
      · refine iteNS (by rw [hx]) ⟨_, rfl, rfl, fun u hu => ?_⟩
        by_cases e : u = i
        · rw [e, e2, hx]
        · exact hj u (by omega)
      · exact iteNP (fun z => hx (by have := V.int.inj z; omega)) (q false H' ⟨fun z => (by cases z), fun L => absurd (by rw [← e2]; exact L.rows i hi) hx⟩ (Same.refl _))
    rintro σ H1 ⟨o4, rfl, rfl, hrows⟩
    have ga : ∀ {u w : Nat}, u < m → w < m → ∃ r x p, ts[u]? = some r ∧ H1 r = some (.lst x) ∧ x[w]? = some (.ref p) ∧ H1 p = some (tupF (atF F u w)) ∧ FrB (atF F u w) := fun {u w} hu hw => by
      obtain ⟨fs, r, x, e1, e2, e3, e4, e5⟩ := gr u hu
      have hlen := hrows u hu
      rw [e2] at hlen
      obtain ⟨f, hf⟩ := get_lt (l := fs) (i := w) (by omega)
      obtain ⟨p, hp1, hp2⟩ := e5.get hf
      have ea : atF F u w = f := by unfold atF; rw [e2, hf]; rfl
      rw [ea]
      exact ⟨r, x, p, e3, e4, hp1, hp2, (hFr fs (mem_of_getElem? e1)).2 f (mem_of_getElem? hf)⟩
    refine ⟨_, rfl, (m : Int), rfl, by omega, by omega, for_range (n := m) (fun i σ H' => ∃ (o4 o5 o6 : Option V), σ = [some (.ref wA), some (.ref oA), some (.ref tA), some (.int (m : Int)), o4, o5, o6, none, none] ∧ Same H1 H' ∧ ∀ u < i, LgRow m hs hs' F u) ⟨_, _, _, rfl, Same.refl _, fun u hu => absurd hu (Nat.not_lt_zero _)⟩ ?_ ?_⟩
    · rintro i σ H2 hi ⟨o4, o5, o6, rfl, s2, hj⟩
      rw [show ((0 : Int) + (i : Nat)) = (i : Int) by omega]
      obtain ⟨fs, r, x, e1, e2, e3, e4, e5⟩ := gr i hi
      have mfs := mem_of_getElem? e1
      have lfs : fs.length = m := by rw [← e2]; exact hrows i hi
      refine ⟨_, rfl, _, rfl, tA, _, _, _, rfl, rfl, SqL.of (s2 _ _ t1), at_ref e3, r, x, fs, rfl, s2 _ _ e4, e5.mono s2, by omega, fun f hf => ((hFr fs mfs).2 f hf).q, fun p1 H3 s3 ep1 => ?_⟩
      refine ⟨sz2, fun c1 hc1 => ?_⟩
      have s4 : Same H3 (upd H3 c1 (.tup [.int 1, .int 1])) := Same.upd hc1
      have ec1 : upd H3 c1 (.tup [.int 1, .int 1]) c1 = some (tupF (1, 1)) := upd_same
      generalize upd H3 c1 (.tup [.int 1, .int 1]) = H4 at s4 ec1 ⊢
      have s14 := s2.trans (s3.trans s4)
      refine ⟨dF (sumL fs), dF (1, 1), daF (s4 _ _ ep1), daF ec1, ⟨(lay_dF _).1, (lay_dF _).1, Nat.le_trans (lay_dF _).2 (by decide)⟩, _, rfl, ?_⟩
      rw [eqv_dF]
      by_cases h1 : sumL fs = (1, 1)
      case neg =>
        rw [decide_eq_false h1]
        exact iteT (iteT (q false H4 ⟨fun z => (by cases z), fun L => absurd (by rw [← e2]; exact (L.one i hi).row) h1⟩ s14))
      rw [decide_eq_true h1]
      refine iteF ?_
      obtain ⟨X, ⟨rs2, hT, RX⟩, lX, fX⟩ := g.mono s14
      have xl : ∀ y ∈ X, i < y.length := fun y hy => by
        obtain ⟨k, hk⟩ := mem_iff_getElem?.mp hy
        have hk' : k < m := by have := lt_get hk; omega
        obtain ⟨gs, hgs⟩ := get_lt (l := F) (i := k) (by omega)
        have := hrows k hk'
        unfold rowF at this
        rw [hgs] at this
        rw [(fX k y gs hk hgs).1]
        have e : gs.length = m := this
        omega
      refine ⟨_, rfl, tA, rfl, ⟨_, SqL.of hT⟩, fun D hD => ?_⟩
      refine lc_vals (X.map fun x => (x[i]?).getD .non) (by rw [length_map, length_map, RX.len]) (by rw [length_map, RX.len]; omega) hD (SqL.of hT) ?_ ?_ ?_
      · intro k y v H' hy hv s'
        obtain ⟨r', hr', rfl⟩ := map_get hy
        obtain ⟨y', hy', rfl⟩ := map_get hv
        obtain ⟨z, hz⟩ := get_lt (xl y' (mem_of_getElem? hy'))
        refine ⟨_, rfl, _, rfl, r', _, _, z, rfl, rfl, SqL.of (s' _ _ (RX.row k r' y' hr' hy')), atI_nat hz, ?_, Same.refl _⟩
        rw [hz]
        rfl
      · intro H5 s5 eD
        have s15 := s14.trans s5
        have fc : FrAt H4 (X.map fun x => (x[i]?).getD .non) (colF F i) := by
          refine ⟨by unfold colF; rw [length_map, length_map, lX], fun k v f h1 h2 => ?_⟩
          obtain ⟨y, hy, rfl⟩ := map_get h1
          obtain ⟨gs, hgs, rfl⟩ := map_get (show (F.map fun r => (r[i]?).getD (0, 1))[k]? = some f from h2)
          have fy := fX k y gs hy hgs
          obtain ⟨f, hf⟩ := get_lt (l := gs) (i := i) (by rw [← fy.1]; exact xl y (mem_of_getElem? hy))
          obtain ⟨p, hp1, hp2⟩ := fy.get hf
          rw [hp1, hf]
          exact ⟨p, rfl, hp2⟩
        have fq : ∀ f ∈ colF F i, FrQ f := fun f hf => by
          obtain ⟨gs, hgs, rfl⟩ := mem_map.mp hf
          obtain ⟨k, hk⟩ := mem_iff_getElem?.mp hgs
          have := hrows k (by have := lt_get hk; omega)
          unfold rowF at this
          rw [hk] at this
          have e : gs.length = m := this
          obtain ⟨f, hf⟩ := get_lt (l := gs) (i := i) (by omega)
          rw [hf]
          exact ((hFr gs hgs).2 f (mem_of_getElem? hf)).q
        refine ⟨D, _, colF F i, rfl, eD, fc.mono s5, by unfold colF; rw [length_map]; omega, fq, fun p2 H6 s6 ep2 => ?_⟩
        refine ⟨sz2, fun c2 hc2 => ?_⟩
        have s7 : Same H6 (upd H6 c2 (.tup [.int 1, .int 1])) := Same.upd hc2
        have ec2 : upd H6 c2 (.tup [.int 1, .int 1]) c2 = some (tupF (1, 1)) := upd_same
        generalize upd H6 c2 (.tup [.int 1, .int 1]) = H7 at s7 ec2 ⊢
        have s17 := s15.trans (s6.trans s7)
        refine ⟨dF (sumL (colF F i)), dF (1, 1), daF (s7 _ _ ep2), daF ec2, ⟨(lay_dF _).1, (lay_dF _).1, Nat.le_trans (lay_dF _).2 (by decide)⟩, _, rfl, ?_⟩
        rw [eqv_dF]
        by_cases h2 : sumL (colF F i) = (1, 1)
        case neg =>
          rw [decide_eq_false h2]
          exact iteT (q false H7 ⟨fun z => (by cases z), fun L => absurd (L.one i hi).col h2⟩ s17)
        rw [decide_eq_true h2]
        refine iteF ?_
        refine ⟨_, rfl, _, rfl, tA, _, _, _, rfl, rfl, SqL.of (s17 _ _ t1), at_ref e3, r, rfl, ⟨_, SqL.of (s17 _ _ e4)⟩, for_enum (K := K) (xs := x) (fun k σ H' => ∃ (o5 o6 : Option V), σ = [some (.ref wA), some (.ref oA), some (.ref tA), some (.int (m : Int)), some (.int (i : Int)), o5, o6, none, none] ∧ Same H1 H' ∧ ∀ u < k, ¬ badF hs hs' F i u) ⟨_, _, rfl, s17, fun u hu => absurd hu (Nat.not_lt_zero _)⟩ (fun k σ H' _ ⟨_, _, _, s', _⟩ => SqL.of (s' _ _ e4)) ?_ ?_⟩
        · rintro k v t σ H8 hv ⟨o5, o6, rfl, s8, hk⟩ ht
          refine ⟨t, _, rfl, SqT.of upd_same, rfl, _, _, rfl, _, _, rfl, rfl, ?_⟩
          have s9 : Same H1 (upd H8 t (.tup [.int (k : Int), v])) := s8.trans (Same.upd ht)
          generalize upd H8 t (.tup [.int (k : Int), v]) = H9 at s9 ⊢
          have hkm : k < m := by have := lt_get hv; rw [e5.1, lfs] at this; exact this
          obtain ⟨r', x', p, g1, g2, g3, g4, g5⟩ := ga hi hkm
          rw [e3] at g1
          cases g1
          rw [e4] at g2
          cases g2
          rw [hv] at g3
          cases g3
          have hp := s9 _ _ g4
          obtain ⟨hu, ehu⟩ := get_lt (l := hs) (i := i) (by omega)
          obtain ⟨hw, ehw⟩ := get_lt (l := hs') (i := k) (by omega)
          have bd : badF hs hs' F i k ↔ ((atF F i k).1 < 0 ∨ (0 < (atF F i k).1 ∧ hu ≠ hw)) := by unfold badF; rw [getD_some ehu, getD_some ehw]
          have ret : badF hs hs' F i k → Q (.bl false) H9 := fun z => q false H9 ⟨fun z => (by cases z), fun L => absurd z ((L.one i hi).ok k hkm)⟩ s9
          have nxt : ¬ badF hs hs' F i k → ∃ (o5 o6 : Option V), ([some (.ref wA), some (.ref oA), some (.ref tA), some (.int (m : Int)), some (.int (i : Int)), some (.int (k : Int)), some (.ref p), none, none] : L2.St) = [some (.ref wA), some (.ref oA), some (.ref tA), some (.int (m : Int)), some (.int (i : Int)), o5, o6, none, none] ∧ Same H1 H9 ∧ ∀ u < k + 1, ¬ badF hs hs' F i u := fun z => ⟨_, _, rfl, s9, fun u hu => by
            by_cases e : u = k
            · rw [e]; exact z
            · exact hk u (by omega)⟩
          refine ⟨_, rfl, p, _, _, .int (atF F i k).1, rfl, rfl, SqT.of hp, at_hd _ _, _, _, rfl, rfl, _, rfl, ?_⟩
          by_cases n1 : (atF F i k).1 < 0
          · exact itDP n1 (iteT (ret (bd.mpr (.inl n1))))
          refine itDN n1 ?_
          refine ⟨_, rfl, p, _, _, .int (atF F i k).1, rfl, rfl, SqT.of hp, at_hd _ _, _, _, rfl, rfl, _, rfl, ?_⟩
          by_cases n2 : 0 < (atF F i k).1
          case neg => exact itDN n2 (iteF (nxt fun z => (bd.mp z).elim n1 fun y => n2 y.1))
          refine itDP n2 ?_
          refine ⟨_, rfl, wA, _, _, _, rfl, rfl, SqT.of (s9 _ _ w1), at_hd _ _, _, rfl, hA, _, _, .int hu, rfl, rfl, SqL.of (s9 _ _ w2), atI_nat (by rw [getElem?_map, ehu]; rfl), ?_⟩
          refine ⟨_, rfl, oA, _, _, _, rfl, rfl, SqT.of (s9 _ _ v1), at_hd _ _, _, rfl, hA', _, _, .int hw, rfl, rfl, SqL.of (s9 _ _ v2), atI_nat (by rw [getElem?_map, ehw]; rfl), rfl, _, rfl, ?_⟩
          by_cases n3 : hu = hw
          · exact iteNS (by rw [n3]) (nxt fun z => (bd.mp z).elim n1 fun y => y.2 n3)
          · exact iteNP (fun z => n3 (V.int.inj z)) (ret (bd.mpr (.inr ⟨n2, n3⟩)))
        · rintro σ H8 ⟨o5, o6, rfl, s8, hk⟩
          refine ⟨_, _, _, rfl, s8, fun u hu => ?_⟩
          by_cases e : u = i
          · subst e
            exact ⟨by rw [e2]; exact h1, h2, fun w' hw' => hk w' (by rw [e5.1, lfs]; exact hw')⟩
          · exact hj u (by omega)
      · exact mn_op mn_v mn_v mr_l
    rintro σ H2 ⟨o4, o5, o6, rfl, s2, hone⟩
    have entA : ∀ {N : List (List Int)} {k : Nat} {as : List Addr}, SqN k N → RowsAt H1 as N → ∀ {u v : Nat}, u < k → v < k → ∃ (r : Addr) (x : List Int), as[u]? = some r ∧ H1 r = some (.lst (x.map V.int)) ∧ x[v]? = some (ent N u v) ∧ (ent N u v).natAbs ≤ 2 * wMax := fun {N k as} SN RN {u v} hu hv => by
      obtain ⟨r, x, h1, h2, h3⟩ := RN.get (i := u) (by rw [RN.len, SN.len]; exact hu)
      obtain ⟨lx, bx⟩ := SN.row u x h2
      obtain ⟨z, hz⟩ := get_lt (l := x) (i := v) (by omega)
      have ez : ent N u v = z := by unfold ent; rw [h2]; show (x[v]?).getD 0 = z; rw [hz]; rfl
      rw [ez]
      exact ⟨r, x, h1, h3, hz, bx z (mem_of_getElem? hz)⟩
    refine ⟨_, rfl, (m : Int), rfl, by omega, by omega, for_range (n := m) (fun i σ H' => ∃ (o4 o5 o6 o7 o8 : Option V), σ = [some (.ref wA), some (.ref oA), some (.ref tA), some (.int (m : Int)), o4, o5, o6, o7, o8] ∧ Same H1 H' ∧ ∀ u < i, ∀ v < m, sumL (hereF M F m u v) = sumL (thereF M' F m u v)) ⟨_, _, _, _, _, rfl, s2, fun u hu => absurd hu (Nat.not_lt_zero _)⟩ ?_ ?_⟩
    · rintro i σ H3 hi ⟨o4, o5, o6, o7, o8, rfl, s3, hj⟩
      rw [show ((0 : Int) + (i : Nat)) = (i : Int) by omega]
      refine ⟨_, rfl, (m : Int), rfl, by omega, by omega, for_range (n := m) (fun k σ H' => ∃ (o5 o6 o7 o8 : Option V), σ = [some (.ref wA), some (.ref oA), some (.ref tA), some (.int (m : Int)), some (.int (i : Int)), o5, o6, o7, o8] ∧ Same H1 H' ∧ ∀ v < k, sumL (hereF M F m i v) = sumL (thereF M' F m i v)) ⟨_, _, _, _, rfl, s3, fun u hu => absurd hu (Nat.not_lt_zero _)⟩ ?_ ?_⟩
      · rintro k σ H4 hk ⟨o5, o6, o7, o8, rfl, s4, hv⟩
        rw [show ((0 : Int) + (k : Nat)) = (k : Int) by omega]
        refine ⟨_, rfl, (m : Int), rfl, by omega, by omega, fun D hD => ?_⟩
        rw [Int.toNat_natCast]
        have lh : (hereF M F m i k).length = m := by unfold hereF; rw [length_map, length_range]
        have lth : (thereF M' F m i k).length = m := by unfold thereF; rw [length_map, length_range]
        refine lc_range (n := m) (FrI H4 D (hereF M F m i k)) (FrI.start hD) (fun j ys H' _ g => g.at) ?_ ?_ ?_
        · rintro j ys H' hj' g
          rw [show ((0 : Int) + (j : Nat)) = (j : Int) by omega]
          have s5 := s4.trans g.same
          obtain ⟨ru, xu, a1, a2, a3, a4⟩ := entA S R hi hj'
          obtain ⟨rv, xv, p, b1, b2, b3, b4, b5⟩ := ga hj' hk
          obtain ⟨c1, c2, c3⟩ := b5.mulL a4
          refine tup_in (cons_in (op_in ?_))
          refine rdW rfl rfl rfl (s5 _ _ w1) (at_snd _ _ _) (s5 _ _ w3) (at_ref a1) (s5 _ _ a2) (v := .int (ent M i j)) (atI_nat (by rw [getElem?_map, a3]; rfl)) ?_
          refine rd3 rfl rfl rfl (s5 _ _ t1) (at_ref b1) (s5 _ _ b2) (atI_nat b3) (s5 _ _ b4) (at_hd _ _) ?_
          refine ⟨_, _, rfl, rfl, ⟨100, by decide, c1, b5.2⟩, ?_⟩
          refine cons_in (rd3 rfl rfl rfl (s5 _ _ t1) (at_ref b1) (s5 _ _ b2) (atI_nat b3) (s5 _ _ b4) (at_snd _ _ _) ?_)
          refine ⟨sz2, fun y hy => ?_⟩
          exact g.step (f := (ent M i j * (atF F j k).1, (atF F j k).2)) hD (by unfold hereF; rw [getElem?_map, getElem?_range hj']; rfl) upd_same hy (Same.upd hy) (by omega)
        · intro ys H5 g
          have s5 := s4.trans g.same
          obtain ⟨eD, fa⟩ := g.done lh
          refine ⟨D, ys, hereF M F m i k, rfl, eD, fa, by omega, fun f hf => ?_, fun p1 H6 s6 ep1 => ?_⟩
          · obtain ⟨j, hj', rfl⟩ := mem_map.mp hf
            obtain ⟨_, _, _, _, _, a4⟩ := entA S R hi (mem_range.mp hj')
            obtain ⟨_, _, _, _, _, _, _, b5⟩ := ga (mem_range.mp hj') hk
            exact (b5.mulL a4).2.1
          have s16 := s5.trans s6
          refine ⟨_, rfl, (m : Int), rfl, by omega, by omega, fun D2 hD2 => ?_⟩
          rw [Int.toNat_natCast]
          refine lc_range (n := m) (FrI H6 D2 (thereF M' F m i k)) (FrI.start hD2) (fun j ys H' _ g => g.at) ?_ ?_ ?_
          · rintro j ys H' hj' g
            rw [show ((0 : Int) + (j : Nat)) = (j : Int) by omega]
            have s7 := s16.trans g.same
            obtain ⟨ru, xu, a1, a2, a3, a4⟩ := entA S' R' hj' hk
            obtain ⟨rv, xv, p, b1, b2, b3, b4, b5⟩ := ga hi hj'
            obtain ⟨c1, c2, c3⟩ := b5.mulL a4
            refine tup_in (cons_in (op_in ?_))
            refine rd3 rfl rfl rfl (s7 _ _ t1) (at_ref b1) (s7 _ _ b2) (atI_nat b3) (s7 _ _ b4) (at_hd _ _) ?_
            refine rdW rfl rfl rfl (s7 _ _ v1) (at_snd _ _ _) (s7 _ _ v3) (at_ref a1) (s7 _ _ a2) (v := .int (ent M' j k)) (atI_nat (by rw [getElem?_map, a3]; rfl)) ?_
            refine ⟨_, _, rfl, rfl, ⟨100, by decide, b5.2, c1⟩, ?_⟩
            refine cons_in (rd3 rfl rfl rfl (s7 _ _ t1) (at_ref b1) (s7 _ _ b2) (atI_nat b3) (s7 _ _ b4) (at_snd _ _ _) ?_)
            refine ⟨sz2, fun y hy => ?_⟩
            exact g.step (f := ((atF F i j).1 * ent M' j k, (atF F i j).2)) hD2 (by unfold thereF; rw [getElem?_map, getElem?_range hj']; rfl) upd_same hy (Same.upd hy) (by omega)
          · intro ys2 H7 g2
            have s7 := s16.trans g2.same
            have ep1' := g2.same _ _ ep1
            obtain ⟨eD2, fa2⟩ := g2.done lth
            refine ⟨D2, ys2, thereF M' F m i k, rfl, eD2, fa2, by omega, fun f hf => ?_, fun p2 H8 s8 ep2 => ?_⟩
            · obtain ⟨j, hj', rfl⟩ := mem_map.mp hf
              obtain ⟨_, _, _, _, _, a4⟩ := entA S' R' (mem_range.mp hj') hk
              obtain ⟨_, _, _, _, _, _, _, b5⟩ := ga hi (mem_range.mp hj')
              exact (b5.mulL a4).2.2
            refine ⟨_, rfl, _, rfl, dF _, dF _, daF (s8 _ _ ep1'), daF ep2, ⟨(lay_dF _).1, (lay_dF _).1, Nat.le_trans (lay_dF _).2 (by decide)⟩, _, rfl, ?_⟩
            rw [eqv_dF]
            by_cases h1 : sumL (hereF M F m i k) = sumL (thereF M' F m i k)
            · rw [decide_eq_true h1]
              refine iteF ⟨_, _, _, _, rfl, s7.trans s8, fun v hv' => ?_⟩
              by_cases e : v = k
              · rw [e]; exact h1
              · exact hv v (by omega)
            · rw [decide_eq_false h1]
              exact iteT (q false H8 ⟨fun z => (by cases z), fun L => absurd (L.two i hi k hk) h1⟩ (s7.trans s8))
          · exact mn_t (ma_c (mn_op (mn_op (mn_op (mn_op mn_v mn_v mr_l) mn_v mr_l) mn_c mr_t) (mn_op (mn_op (mn_op mn_v mn_c mr_t) mn_v mr_l) mn_v mr_l) mr_i) (ma_c (mn_op (mn_op (mn_op mn_v mn_v mr_l) mn_v mr_l) mn_c mr_t) ma_n))
        · exact mn_t (ma_c (mn_op (mn_op (mn_op (mn_op mn_v mn_c mr_t) mn_v mr_l) mn_v mr_l) (mn_op (mn_op (mn_op mn_v mn_v mr_l) mn_v mr_l) mn_c mr_t) mr_i) (ma_c (mn_op (mn_op (mn_op mn_v mn_v mr_l) mn_v mr_l) mn_c mr_t) ma_n))
      · rintro σ H4 ⟨o5, o6, o7, o8, rfl, s4, hv⟩
        refine ⟨_, _, _, _, _, rfl, s4, fun u hu => ?_⟩
        by_cases e : u = i
        · rw [e]; exact hv
        · exact hj u (by omega)
    · rintro σ H3 ⟨o4, o5, o6, o7, o8, rfl, s3, hj⟩
      exact q true H3 ⟨fun _ => ⟨hmn, hFn, hrows, hone, hj⟩, fun _ => rfl⟩ s3
end
section
open M11
def mat {α : Type} (n : Nat) (g : Nat → Nat → α) : List (List α) := (List.range n).map fun u => (List.range n).map fun w => g u w
theorem mat_eq {α : Type} {n : Nat} {a b : Nat → Nat → α} : mat n a = mat n b ↔ ∀ u < n, ∀ w < n, a u w = b u w := by
  unfold mat
  rw [map_inj_left]
  constructor
  · intro h u hu w hw
    have := h u (mem_range.mpr hu)
    rw [map_inj_left] at this
    exact this w (mem_range.mpr hw)
  · intro h u hu
    rw [map_inj_left]
    exact fun w hw => h u (mem_range.mp hu) w (mem_range.mp hw)
theorem lst_of {α : Type} {n : Nat} {xs : List α} {d : α} (h : xs.length = n) : xs = (List.range n).map fun u => (xs[u]?).getD d := by
  refine ext_getElem? fun i => ?_
  rw [getElem?_map]
  by_cases hi : i < n
  · obtain ⟨x, hx⟩ := get_lt (l := xs) (i := i) (by omega)
    rw [getElem?_range hi, hx, Option.map_some]
    show _ = some ((xs[i]?).getD d)
    rw [hx]
    rfl
  · rw [getElem?_eq_none (by omega : xs.length ≤ i), getElem?_eq_none (by rw [length_range]; omega)]
    rfl
theorem mat_of {α : Type} {n : Nat} {M : List (List α)} {d : α} (h : M.length = n) (hr : ∀ x ∈ M, x.length = n) : M = mat n fun u w => (((M[u]?).getD [])[w]?).getD d := by
  unfold mat
  conv => lhs; rw [lst_of (d := []) h]
  rw [map_inj_left]
  intro u hu
  obtain ⟨x, hx⟩ := get_lt (l := M) (i := u) (by rw [h]; exact mem_range.mp hu)
  have e := lst_of (d := d) (hr x (mem_of_getElem? hx))
  show (M[u]?).getD [] = (List.range n).map fun w => (((M[u]?).getD [])[w]?).getD d
  rw [hx]
  exact e
theorem zip_self {α β : Type} (k : α → α → β) : ∀ l : List α, List.zipWith k l l = l.map fun a => k a a
  | [] => rfl
  | a :: l => by rw [List.zipWith_cons_cons, zip_self k l]; rfl
theorem zip_rng {α β γ : Type} {n : Nat} (k : α → β → γ) (f : Nat → α) (g : Nat → β) : List.zipWith k ((List.range n).map f) ((List.range n).map g) = (List.range n).map fun v => k (f v) (g v) := by
  rw [List.zipWith_map, zip_self]
theorem rng_get {α : Type} {n i : Nat} {f : Nat → α} {d : α} (h : i < n) : (((List.range n).map f)[i]?).getD d = f i := by
  rw [getElem?_map, getElem?_range h]
  rfl
theorem cols_mat (n : Nat) (g : Nat → Nat → Int) : colsI (mat n g) n = mat n fun w u => g u w := by
  unfold colsI mat
  rw [map_inj_left]
  intro w hw
  rw [map_map, map_inj_left]
  intro u _
  exact rng_get (mem_range.mp hw)
theorem prod_mat (n : Nat) (a b : Nat → Nat → Int) : prodI (mat n a) (mat n b) n = mat n fun u w => ((List.range n).map fun v => b v w * a u v).sum := by
  unfold prodI
  rw [cols_mat]
  unfold mat
  rw [map_map, map_inj_left]
  intro u _
  show List.map _ (List.map _ _) = _
  rw [map_map, map_inj_left]
  intro w _
  show TM.dot _ _ = _
  unfold TM.dot
  rw [zip_rng]
theorem mem_mat {α : Type} {n : Nat} {g : Nat → Nat → α} {r : List α} : r ∈ mat n g ↔ ∃ u < n, r = (List.range n).map fun w => g u w := by
  unfold mat
  rw [mem_map]
  exact ⟨fun ⟨u, h1, h2⟩ => ⟨u, mem_range.mp h1, h2.symm⟩, fun ⟨u, h1, h2⟩ => ⟨u, mem_range.mpr h1, h2.symm⟩⟩
theorem come_mat {n : Nat} {g : Nat → Nat → Int} {z : Int} : comeB (mat n g) z = true ↔ ∀ u < n, ((List.range n).map fun w => g u w).sum = z := by
  unfold comeB
  rw [all_eq_true]
  constructor
  · exact fun h u hu => of_decide_eq_true (h _ (mem_mat.mpr ⟨u, hu, rfl⟩))
  · intro h r hr
    obtain ⟨u, hu, rfl⟩ := mem_mat.mp hr
    exact decide_eq_true (h u hu)
theorem shared_mat {n : Nat} {g : Nat → Nat → Int} {z : Int} : sharedB (mat n g) n z = true ↔ (∀ u < n, ∀ w < n, 0 ≤ g u w) ∧ (∀ u < n, ((List.range n).map fun w => g u w).sum = z) ∧ ∀ w < n, ((List.range n).map fun u => g u w).sum = z := by
  unfold sharedB
  rw [Bool.and_eq_true, Bool.and_eq_true, cols_mat, come_mat, come_mat, all_eq_true]
  refine and_congr ⟨fun h u hu w hw => of_decide_eq_true (h (g u w) ?_), fun h x hx => decide_eq_true ?_⟩ Iff.rfl
  · exact mem_flatten.mpr ⟨_, mem_mat.mpr ⟨u, hu, rfl⟩, mem_map.mpr ⟨w, mem_range.mpr hw, rfl⟩⟩
  · obtain ⟨r, hr, hx⟩ := mem_flatten.mp hx
    obtain ⟨u, hu, rfl⟩ := mem_mat.mp hr
    obtain ⟨w, hw, rfl⟩ := mem_map.mp hx
    exact h u hu w (mem_range.mp hw)
theorem keep_mat {n : Nat} {g : Nat → Nat → Int} {hs hs' : List Int} (h1 : hs.length = n) (h2 : hs'.length = n) : keepHB hs hs' (mat n g) = true ↔ ∀ u < n, ∀ w < n, g u w = 0 ∨ hs'.getD w 0 = hs.getD u 0 := by
  have e1 := lst_of (d := (0 : Int)) h1
  have e2 := lst_of (d := (0 : Int)) h2
  unfold keepHB mat
  conv => lhs; rw [e1]
  rw [zip_rng, all_eq_true]
  have k : ∀ u, keepB (hs[u]?.getD 0) hs' ((List.range n).map fun w => g u w) = true ↔ ∀ w < n, g u w = 0 ∨ hs'.getD w 0 = hs.getD u 0 := fun u => by
    unfold keepB
    conv => lhs; rw [e2]
    rw [zip_rng, all_eq_true]
    constructor
    · intro h w hw
      have := h _ (mem_map.mpr ⟨w, mem_range.mpr hw, rfl⟩)
      rw [id, Bool.or_eq_true, decide_eq_true_iff, decide_eq_true_iff] at this
      rw [getD_eq_getElem?_getD, getD_eq_getElem?_getD]
      exact this
    · intro h b hb
      obtain ⟨w, hw, rfl⟩ := mem_map.mp hb
      rw [id, Bool.or_eq_true, decide_eq_true_iff, decide_eq_true_iff]
      have := h w (mem_range.mp hw)
      rw [getD_eq_getElem?_getD, getD_eq_getElem?_getD] at this
      exact this
  constructor
  · intro h u hu
    exact (k u).mp (h _ (mem_map.mpr ⟨u, mem_range.mpr hu, rfl⟩))
  · intro h b hb
    obtain ⟨u, hu, rfl⟩ := mem_map.mp hb
    exact (k u).mpr (h u (mem_range.mp hu))
theorem over_sign {W : Int} {f : Int × Int} (hW : 0 < W) (hf : 0 < f.2) (h : f.2 ∣ W) : (0 ≤ over W f ↔ 0 ≤ f.1) ∧ (over W f = 0 ↔ f.1 = 0) := by
  obtain ⟨q, e, e2⟩ := fdiv_of_dvd hf h
  have hq : 0 < q := by
    rcases Int.lt_or_le 0 q with z | z
    · exact z
    · have := Int.mul_le_mul_of_nonneg_left z (Int.le_of_lt hf)
      rw [← e, Int.mul_zero] at this
      omega
  unfold over
  rw [e2]
  refine ⟨⟨fun z => ?_, fun z => Int.mul_nonneg z (Int.le_of_lt hq)⟩, ⟨fun z => ?_, fun z => by rw [z, Int.zero_mul]⟩⟩
  · rcases Int.lt_or_le f.1 0 with y | y
    · have := Int.mul_neg_of_neg_of_pos y hq
      omega
    · exact y
  · rcases Int.mul_eq_zero.mp z with y | y
    · exact y
    · omega
theorem over_mulL (W z : Int) (f : Int × Int) : over W (z * f.1, f.2) = over W f * z ∧ over W (f.1 * z, f.2) = z * over W f := by
  unfold over
  constructor <;> grind
theorem goes_iff {n m : Nat} {hs hs' : List Int} {M M' : List (List Int)} {F : List (List (Int × Int))} (hl : hs.length = n) (hl' : hs'.length = m) (S : SqN n M) (S' : SqN m M') (hF : ∀ r ∈ F, ∀ f ∈ r, Bt f) : goesB n hs hs' M M' F = true ↔ LG n hs hs' M M' F := by
  unfold goesB
  rw [Bool.and_eq_true, decide_eq_true_iff, Bool.and_eq_true]
  by_cases hmn : hs'.length = n
  case neg => exact ⟨fun z => absurd z.1 hmn, fun L => absurd L.len' hmn⟩
  have em : m = n := by omega
  subst em
  by_cases hsq : isSqF m F = true
  case neg =>
    refine ⟨fun z => absurd z.2.1 hsq, fun L => absurd ?_ hsq⟩
    unfold isSqF
    rw [Bool.and_eq_true, decide_eq_true_iff, all_eq_true]
    refine ⟨L.len, fun r hr => decide_eq_true ?_⟩
    obtain ⟨u, hu⟩ := mem_iff_getElem?.mp hr
    have := L.rows u (by rw [← L.len]; exact lt_get hu)
    unfold rowF at this
    rw [hu] at this
    exact this
  obtain ⟨q1, q2⟩ := sqF_spec hsq
  have hB : ∀ f ∈ F.flatten, Bt f := fun f hf => by
    obtain ⟨r, hr, hf⟩ := mem_flat hf
    exact hF r hr f hf
  obtain ⟨b1, b2, _⟩ := bot_spec hB
  generalize botL F.flatten = W at b1 b2
  have mA : ∀ {u w : Nat}, u < m → w < m → 0 < (atF F u w).2 ∧ (atF F u w).2 ∣ W := fun {u w} hu hw => by
    obtain ⟨r, hr⟩ := get_lt (l := F) (i := u) (by omega)
    obtain ⟨f, hf⟩ := get_lt (l := r) (i := w) (by rw [q2 r (mem_of_getElem? hr)]; exact hw)
    have e : atF F u w = f := by unfold atF rowF; rw [hr]; show (r[w]?).getD (0, 1) = f; rw [hf]; rfl
    have mf : f ∈ F.flatten := mem_flatten.mpr ⟨r, mem_of_getElem? hr, mem_of_getElem? hf⟩
    rw [e]
    exact ⟨(hB f mf).1, b2 f mf⟩
  have eF : F = mat m (atF F) := mat_of q1 q2
  have eM : M = mat m (ent M) := mat_of S.len fun x hx => by
    obtain ⟨i, hi⟩ := mem_iff_getElem?.mp hx
    exact (S.row i x hi).1
  have eM' : M' = mat m (ent M') := mat_of S'.len fun x hx => by
    obtain ⟨i, hi⟩ := mem_iff_getElem?.mp hx
    exact (S'.row i x hi).1
  have eT : topsI F W = mat m fun u w => over W (atF F u w) := by
    unfold topsI
    conv => lhs; rw [eF]
    unfold mat
    rw [map_map]
    refine map_congr_left fun u _ => ?_
    show List.map _ (List.map _ _) = _
    rw [map_map]
    rfl
  have eR : ∀ u < m, rowF F u = (List.range m).map fun w => atF F u w := fun u hu => by
    obtain ⟨r, hr⟩ := get_lt (l := F) (i := u) (by omega)
    have e : rowF F u = r := by unfold rowF; rw [hr]; rfl
    have := lst_of (d := ((0 : Int), (1 : Int))) (q2 r (mem_of_getElem? hr))
    unfold atF
    rw [e]
    exact this
  have eC : ∀ u < m, colF F u = (List.range m).map fun v => atF F v u := fun u hu => by
    unfold colF
    conv => lhs; rw [eF]
    unfold mat
    rw [map_map]
    refine map_congr_left fun v _ => ?_
    exact rng_get hu
  have sm : ∀ g : Nat → Int × Int, (∀ v < m, 0 < (g v).2 ∧ (g v).2 ∣ W) → PosF ((List.range m).map g) ∧ (∀ f ∈ (List.range m).map g, f.2 ∣ W) ∧ ((List.range m).map g).map (over W) = (List.range m).map fun v => over W (g v) := fun g hg => by
    refine ⟨fun f hf => ?_, fun f hf => ?_, by rw [map_map]; rfl⟩
    · obtain ⟨v, hv, rfl⟩ := mem_map.mp hf
      exact (hg v (mem_range.mp hv)).1
    · obtain ⟨v, hv, rfl⟩ := mem_map.mp hf
      exact (hg v (mem_range.mp hv)).2
  have one : ∀ g : Nat → Int × Int, (∀ v < m, 0 < (g v).2 ∧ (g v).2 ∣ W) → (sumL ((List.range m).map g) = (1, 1) ↔ ((List.range m).map fun v => over W (g v)).sum = W) := fun g hg => by
    obtain ⟨p1, p2, p3⟩ := sm g hg
    rw [← p3]
    exact sumL_one b1 p1 p2
  rw [Bool.and_eq_true, Bool.and_eq_true, decide_eq_true_iff, eT, shared_mat, keep_mat hl hmn]
  have ep : prodI M (mat m fun u w => over W (atF F u w)) m = prodI (mat m fun u w => over W (atF F u w)) M' m ↔ ∀ u < m, ∀ w < m, sumL (hereF M F m u w) = sumL (thereF M' F m u w) := by
    conv => lhs; rw [eM, eM']
    rw [prod_mat, prod_mat, mat_eq]
    refine forall_congr' fun u => forall_congr' fun hu => forall_congr' fun w => forall_congr' fun hw => ?_
    obtain ⟨a1, a2, a3⟩ := sm (fun v => (ent M u v * (atF F v w).1, (atF F v w).2)) fun v hv => mA hv hw
    obtain ⟨c1, c2, c3⟩ := sm (fun x => ((atF F u x).1 * ent M' x w, (atF F u x).2)) fun v hv => mA hu hv
    unfold hereF thereF
    rw [sumL_eq b1 a1 a2 c1 c2, a3, c3]
    have x1 : (List.range m).map (fun v => over W (ent M u v * (atF F v w).1, (atF F v w).2)) = (List.range m).map fun v => over W (atF F v w) * ent M u v := map_congr_left fun v _ => (over_mulL W _ _).1
    have x2 : (List.range m).map (fun x => over W ((atF F u x).1 * ent M' x w, (atF F u x).2)) = (List.range m).map fun x => ent M' x w * over W (atF F u x) := map_congr_left fun v _ => (over_mulL W _ _).2
    rw [x1, x2]
  rw [ep]
  constructor
  · rintro ⟨_, _, ⟨n1, n2, n3⟩, k, t⟩
    refine ⟨hmn, q1, fun u hu => ?_, fun u hu => ⟨?_, ?_, fun w hw z => ?_⟩, t⟩
    · rw [eR u hu, length_map, length_range]
    · rw [eR u hu]
      exact (one _ fun v hv => mA hu hv).mpr (n2 u hu)
    · rw [eC u hu]
      exact (one (fun v => atF F v u) fun v hv => mA hv hu).mpr (n3 u hu)
    · obtain ⟨y1, y2⟩ := mA hu hw
      obtain ⟨o1, o2⟩ := over_sign b1 y1 y2
      have p := o1.mp (n1 u hu w hw)
      rcases z with z | ⟨z1, z2⟩
      · omega
      · rcases k u hu w hw with y | y
        · have := o2.mp y
          omega
        · exact z2 y.symm
  · intro L
    refine ⟨hmn, hsq, ⟨fun u hu w hw => ?_, fun u hu => ?_, fun w hw => ?_⟩, fun u hu w hw => ?_, L.two⟩
    · obtain ⟨y1, y2⟩ := mA hu hw
      refine (over_sign b1 y1 y2).1.mpr ?_
      have := (L.one u hu).ok w hw
      unfold badF at this
      omega
    · have := (L.one u hu).row
      rw [eR u hu] at this
      exact (one _ fun v hv => mA hu hv).mp this
    · have := (L.one w hw).col
      rw [eC w hw] at this
      exact (one (fun v => atF F v w) fun v hv => mA hv hw).mp this
    · obtain ⟨y1, y2⟩ := mA hu hw
      have h := (L.one u hu).ok w hw
      unfold badF at h
      by_cases e : (atF F u w).1 = 0
      · exact .inl ((over_sign b1 y1 y2).2.mpr e)
      · right
        by_cases e2 : hs.getD u 0 = hs'.getD w 0
        · exact e2.symm
        · exact absurd (by
            by_cases e3 : (atF F u w).1 < 0
            · exact .inl e3
            · exact .inr ⟨by omega, e2⟩) h
end
section
variable {P : Program} {w : World} {K : Frag} {mg : Str → Option Value} {base : Heap}
theorem for_zip {a b : Addr} {xs ys : List V} {g : TG} {tb : TS} {D : Ends} {σ : L2.St} {H : Hp} (e : ys.length = xs.length) (Pv : Nat → L2.St → Hp → Prop) (h0 : Pv 0 σ H) (hl : ∀ i σ H, i ≤ xs.length → Pv i σ H → SqL K H a xs ∧ SqL K H b ys)
    (hs : ∀ (i : Nat) (x y : V) (t : Addr) σ H, xs[i]? = some x → ys[i]? = some y → Pv i σ H → H t = none → g (.ref t) σ (upd H t (.tup [x, y])) fun σ2 H2 => tb { D with nx := Pv (i + 1), ct := Pv (i + 1), bk := D.nx } σ2 H2) (hd : ∀ σ H, Pv xs.length σ H → D.nx σ H) :
    ∃ W : Nat → Nat → L2.St → Hp → Prop, (∃ m, W 0 m σ H) ∧ ∀ i m σ H, W i m σ H →
      ((Itz K a b).stop i H ∧ D.nx σ H) ∨ ((Itz K a b).go i H ∧ ∃ N : L2.St → Hp → Prop, (∀ σ' H', N σ' H' → ∃ m', m' < m ∧ W (i + 1) m' σ' H') ∧ ∀ x H', (Itz K a b).yld i H x H' → g x σ H' fun σ2 H2 => tb { D with nx := N, ct := N, bk := D.nx } σ2 H2) := by
  refine ⟨fun i m σ H => m = xs.length - i ∧ i ≤ xs.length ∧ Pv i σ H, ⟨xs.length, by simp, Nat.zero_le _, h0⟩, ?_⟩
  rintro i m σ H ⟨rfl, hi, p⟩
  obtain ⟨q1, q2⟩ := hl i σ H hi p
  by_cases lt : i < xs.length
  · have lt' : i < ys.length := by omega
    refine .inr ⟨⟨xs, ys, xs[i], ys[i], q1, q2, getElem?_eq_getElem lt, getElem?_eq_getElem lt'⟩, Pv (i + 1), fun σ' H' p' => ⟨xs.length - (i + 1), by omega, rfl, lt, p'⟩, fun x H' y => ?_⟩
    obtain ⟨t, x1, y1, rfl, ht, rfl, g1, g2⟩ := y
    exact hs i x1 y1 t σ H (g1 xs q1) (g2 ys q2) p ht
  · have ei : i = xs.length := by omega
    subst ei
    exact .inl ⟨⟨xs, ys, q1, q2, .inl (Nat.le_refl _)⟩, hd σ H p⟩
def FrS (c : Nat) (f : Int × Int) : Prop := 0 < f.2 ∧ f.2 ≤ (c : Int) ∧ f.1.natAbs ≤ c
theorem FrS.low {c : Nat} {t b : Int} (hb : 0 < b) (h1 : b ≤ (c : Int)) (h2 : t.natAbs ≤ c) : FrS c (M11.low t b) := by
  have hne : b ≠ 0 := Int.ne_of_gt hb
  have hp := M11.low_pos (t := t) hne
  obtain ⟨l1, l2⟩ := M11.low_le (t := t) hne
  exact ⟨hp, by omega, by omega⟩
theorem FrS.b {c : Nat} {f : Int × Int} (h : FrS c f) (hc : c ≤ 1000000) : FrB f := by
  obtain ⟨h1, h2, h3⟩ := h
  refine ⟨⟨h1, ?_⟩, ?_⟩
  · have : (2 : Nat) ^ 20 = 1048576 := by decide
    omega
  · exact Nat.lt_of_le_of_lt h3 (Nat.lt_of_le_of_lt hc (by decide))
theorem small_bn {z : Int} (h : z.natAbs ≤ 1000000) : M11.Bn 8000 z := M11.Bn.mono (n := 20) (Nat.lt_of_le_of_lt h (by decide)) (by decide)
def FGI (H1 : Hp) (D : Addr) (F : List (List (Int × Int))) (H' : Hp) : Prop := ∃ rs : List Addr, Same H1 H' ∧ H' D = some (.lst (rs.map V.ref)) ∧ rs.length = F.length ∧ (∀ r ∈ rs, r ≠ D) ∧ ∀ (i : Nat) (r : Addr) (fs : List (Int × Int)), rs[i]? = some r → F[i]? = some fs → ∃ x, H' r = some (.lst x) ∧ FrAt H' x fs
theorem FGI.start {H1 : Hp} {D : Addr} (hD : H1 D = none) : FGI H1 D [] (upd H1 D (.lst [])) := ⟨[], Same.upd hD, upd_same, rfl, (fun r h => by cases h), (fun i r fs h _ => by cases h)⟩
theorem FGI.same {H1 H' : Hp} {D : Addr} {F : List (List (Int × Int))} (g : FGI H1 D F H') : Same H1 H' := let ⟨_, z, _⟩ := g; z
theorem FGI.at {H1 H' : Hp} {D : Addr} {F : List (List (Int × Int))} (g : FGI H1 D F H') : ∃ rs : List Addr, H' D = some (.lst (rs.map V.ref)) ∧ rs.length = F.length := let ⟨rs, _, e, l, _⟩ := g; ⟨rs, e, l⟩
theorem FGI.keep {H1 H' H'' : Hp} {D : Addr} {F : List (List (Int × Int))} (g : FGI H1 D F H') (s : Same H' H'') : FGI H1 D F H'' := by
  obtain ⟨rs, s1, e, l, n, r⟩ := g
  exact ⟨rs, s1.trans s, s _ _ e, l, n, fun i a fs h1 h2 => let ⟨x, y, z⟩ := r i a fs h1 h2; ⟨x, s _ _ y, z.mono s⟩⟩
theorem FGI.app {H1 H' : Hp} {D r : Addr} {F : List (List (Int × Int))} {fs : List (Int × Int)} {rs : List Addr} {x : List V} (hD : H1 D = none) (g : FGI H1 D F H') (e : H' D = some (.lst (rs.map V.ref))) (hr : H' r = some (.lst x)) (hf : FrAt H' x fs) (nr : r ≠ D) : FGI H1 D (F ++ [fs]) (upd H' D (.lst (rs.map V.ref ++ [.ref r]))) := by
  obtain ⟨rs', s1, e', l, n, R⟩ := g
  rw [e] at e'
  have er : rs.map V.ref = rs'.map V.ref := HO.lst.inj (Option.some.inj e')
  rw [er]
  have keep : ∀ {y : List V} {gs : List (Int × Int)}, FrAt H' y gs → FrAt (upd H' D (.lst (rs'.map V.ref ++ [.ref r]))) y gs := fun {y gs} h => ⟨h.1, fun i v f h1 h2 => by
    obtain ⟨p, rfl, hp⟩ := h.2 i v f h1 h2
    refine ⟨p, rfl, ?_⟩
    rw [upd_ne (fun z => by subst z; rw [e] at hp; cases hp)]
    exact hp⟩
  refine ⟨rs' ++ [r], fun b o z => ?_, by rw [upd_same, map_append]; rfl, by rw [length_append, length_append, l]; rfl, fun a ha => ?_, fun i a gs h1 h2 => ?_⟩
  · rw [upd_ne (ne_of_none z hD)]
    exact s1 _ _ z
  · rcases mem_append.mp ha with z | z
    · exact n a z
    · rw [mem_singleton.mp z]; exact nr
  · rcases snoc_get h1 with z | ⟨ei, z⟩
    · have hi : i < F.length := by rw [← l]; exact lt_get z
      rw [getElem?_append_left hi] at h2
      obtain ⟨y, y1, y2⟩ := R i a gs z h2
      exact ⟨y, by rw [upd_ne (n a (mem_of_getElem? z))]; exact y1, keep y2⟩
    · subst z
      rw [ei, l, getElem?_append_right (Nat.le_refl _), Nat.sub_self] at h2
      cases h2
      exact ⟨x, by rw [upd_ne nr]; exact hr, keep hf⟩
theorem FGI.done {H1 H' : Hp} {D : Addr} {F : List (List (Int × Int))} (g : FGI H1 D F H') : FGrd H' D F := by
  obtain ⟨rs, s1, e, l, n, R⟩ := g
  have ch : ∀ i : Nat, ∃ x : List V, ∀ (r : Addr) (fs : List (Int × Int)), rs[i]? = some r → F[i]? = some fs → H' r = some (.lst x) ∧ FrAt H' x fs := fun i => by
    cases h : rs[i]? with
    | none => exact ⟨[], fun r fs z => by cases z⟩
    | some r =>
      obtain ⟨fs, hfs⟩ := get_lt (l := F) (i := i) (by rw [← l]; exact lt_get h)
      obtain ⟨x, x1, x2⟩ := R i r fs h hfs
      refine ⟨x, fun r' fs' z1 z2 => ?_⟩
      cases z1
      rw [hfs] at z2
      cases z2
      exact ⟨x1, x2⟩
  obtain ⟨X, hX⟩ := Classical.axiomOfChoice ch
  refine ⟨(List.range F.length).map X, ⟨rs, e, by rw [length_map, length_range, l], fun i r x h1 h2 => ?_⟩, by rw [length_map, length_range], fun i x fs h1 h2 => ?_⟩
  · obtain ⟨k, hk, rfl⟩ := map_get h2
    have hi : i < F.length := by rw [← l]; exact lt_get h1
    rw [getElem?_range hi] at hk
    cases hk
    obtain ⟨fs, hfs⟩ := get_lt hi
    exact (hX i r fs h1 hfs).1
  · obtain ⟨k, hk, rfl⟩ := map_get h1
    have hi := lt_get h2
    rw [getElem?_range hi] at hk
    cases hk
    obtain ⟨r, hr⟩ := get_lt (l := rs) (i := i) (by omega)
    exact (hX i r fs hr h2).2
abbrev nMixed : List Str := ["_law_many", "_law_orders", "_law_shares", "_law_total", "_law_found", "_law_u", "_law_row_here", "_law_order_here", "_law_share"]
abbrev aMixed : List Str := ["_law_many", "_law_orders", "_law_shares"]
theorem scMixed : FnScope nMixed aMixed (defScope sMixed) := ⟨rfl, rfl, rfl, by decide +kernel, rfl, by decide +kernel, by decide +kernel⟩
def exprOf (s : Stmt) : Expr := match s with
  | .Expr e _ => e
  | _ => .Constant .none 0 ⟨0, 0, 0, 0⟩
theorem lcMixed : LcScopes (defScope sMixed) nMixed (lcScope (argAt (exprOf (forBody (bodyAt sMixed 2) 2)) 0)) ["_law_number"] := ⟨by decide +kernel, rfl, by decide +kernel, by decide +kernel, by decide +kernel, by decide +kernel, by decide +kernel, by decide +kernel, by decide +kernel, by decide +kernel⟩
def Tab (c k : Nat) (F : List (List (Int × Int))) : Prop := F.length ≤ k ∧ ∃ C, C ≤ k ∧ ∀ r ∈ F, r.length = C ∧ ∀ f ∈ r, FrS c f
def spMixed : Sp := fun vs H Q _ => ∃ (n : Nat) (oA sA : Addr) (OS : List (List Int)) (shs : List Int), vs = [.int (n : Int), .ref oA, .ref sA] ∧ n ≤ 8 ∧ GrdAt H oA (gI OS) ∧ (∀ os ∈ OS, os.Perm (rI n)) ∧ H sA = some (.lst (shs.map V.int)) ∧ shs.length = OS.length ∧ OS.length ≤ 2 ∧ (∀ x ∈ shs, 0 ≤ x ∧ x ≤ 10) ∧ 0 < shs.sum ∧ shs.sum ≤ 40 ∧
  ∀ p F H', Same H H' → FGrd H' p F → Tab 100 8 F → Q (.ref p) H'
theorem idx_lt {os : List Int} {u n : Nat} (hp : os.Perm (rI n)) (hu : u < n) : ((os.map PyData.int).findIdx fun e => PyData.eqv e (.int (u : Int))) < n := by
  have hl : (os.map PyData.int).length = n := by rw [length_map, hp.length_eq, rI_len]
  have hm : (u : Int) ∈ os := hp.mem_iff.mpr (by rw [mem_iff_getElem?]; exact ⟨u, rI_get hu⟩)
  rw [← hl]
  refine List.findIdx_lt_length_of_exists ⟨.int (u : Int), mem_map.mpr ⟨_, hm, rfl⟩, ?_⟩
  simp [PyData.eqv]
theorem ok_mixed {f fL : Addr} {fd fdL : FuncData} (B : BltL mg) (F0 : Fun K "_law_mixed" "_law_mixed" sMixed f fd) (DL : Dn K mg "_law_lowest" sLow aLow fL fdL) (GL : FnOk P w K mg base CX0 1 fL fdL aLow spLow) : FnOk P w K mg base CX0 2 f fd aMixed spMixed := by
  refine F0.ok scMixed (fun vs H Q E h => ?_) (fun cdv A outer s H vs Q E hr h => ?_)
  · obtain ⟨n, oA, sA, OS, shs, rfl, _⟩ := h
    rfl
  · obtain ⟨n, oA, sA, OS, shs, rfl, hn, ⟨as, eo, RO⟩, hP, es, hl, h2, hb, hs0, hs1, q⟩ := h
    have la : as.length = OS.length := by rw [RO.len, gI_len]
    refine ⟨_, pss_cons (ps_set (i := 3) scMixed.nd rfl (Or.inr rfl) (pe_callB (call_sum rfl) (by rfl) B.sum boot_sum (pa_cons (pv 2) pa_nil)))
      (pss_cons (ps_set (i := 4) scMixed.nd rfl (Or.inl rfl) (pe_lst pa_nil))
      (pss_cons (ps_for PassesOwn.never rfl (pi_range1 rfl B.range (pa_cons (pv 0) pa_nil)) (pg_name (i := 5) scMixed.nd rfl (Or.inl rfl))
        (pss_cons (ps_set (i := 6) scMixed.nd rfl (Or.inl rfl) (pe_op op_rep (pe_lst (pa_cons pe_int pa_nil)) (pv 0)))
        (pss_cons (ps_for PassesOwn.never rfl (pi_zip rfl B.zip (pa_cons (pv 1) (pa_cons (pv 2) pa_nil))) (pg_tup rfl (pgs_cons (pg_name (i := 7) scMixed.nd rfl (Or.inl rfl)) (pgs_cons (pg_name (i := 8) scMixed.nd rfl (Or.inl rfl)) pgs_nil)))
          (pss_one (ps_asg (pe_op op_add (pe_ix ix_list (pv 6) (pe_bm plainAttrs_list slot_list_index type_list_index (mt_indexD hr.units) (pv 7) (pa_cons (pv 5) pa_nil)) (fun _ _ => rfl)) (pv 8))
            (pg_sub (pv 6) (pe_bm plainAttrs_list slot_list_index type_list_index (mt_indexD hr.units) (pv 7) (pa_cons (pv 5) pa_nil)) set_list))))
        (pss_one (ps_expr (pe_bm plainAttrs_list slot_list_append type_list_append mt_append (pv 4) (pa_cons (pe_lc1 rfl lcMixed rfl (pi_list (pv 6)) (fun _ _ _ => pe_fn DL GL hr rfl (pa_cons (pv 9) (pa_cons (pv 3) pa_nil)))) pa_nil)))))))
      (pss_one (ps_ret (pv 4))))), ?_⟩
    refine ⟨_, rfl, sA, shs, rfl, SqL.of es, Nat.zero_le _, fun D hD => ?_⟩
    refine ⟨_, rfl, (n : Int), rfl, by omega, by omega, for_range (n := n) (fun i σ H' => ∃ (o5 o6 o7 o8 : Option V) (F : List (List (Int × Int))), σ = [some (.int (n : Int)), some (.ref oA), some (.ref sA), some (.int shs.sum), some (.ref D), o5, o6, o7, o8] ∧ FGI H D F H' ∧ F.length = i ∧ ∀ r ∈ F, r.length = n ∧ ∀ f ∈ r, FrS 100 f) ⟨_, _, _, _, [], rfl, FGI.start hD, rfl, (fun r hr => by cases hr)⟩ ?_ ?_⟩
    · rintro i σ H1 hi ⟨o5, o6, o7, o8, F, rfl, gF, lF, hF⟩
      rw [show ((0 : Int) + (i : Nat)) = (i : Int) by omega]
      have s1 := gF.same
      refine ⟨sz1, fun l1 hl1 => ?_⟩
      refine ⟨_, rfl, l1, _, _, rfl, rfl, upd_same, by omega, by omega, Nat.le_of_lt (small1000 (by show 1 * Int.toNat (n : Int) ≤ 1000; omega)), fun R hR => ?_⟩
      rw [Int.toNat_natCast, zeros_map] at *
      have n21 : R ≠ l1 := (ne_of_none upd_same hR).symm
      have hR' : H1 R = none := by rw [upd_ne n21] at hR; exact hR
      have sm : Same H1 (upd (upd H1 l1 (.lst [.int 0])) R (.lst ((List.replicate n (0 : Int)).map V.int))) := (Same.upd hl1).trans (Same.upd hR)
      have eR : upd (upd H1 l1 (.lst [.int 0])) R (.lst ((List.replicate n (0 : Int)).map V.int)) R = some (.lst ((List.replicate n (0 : Int)).map V.int)) := upd_same
      generalize upd (upd H1 l1 (.lst [.int 0])) R (.lst ((List.replicate n (0 : Int)).map V.int)) = H2 at sm eR ⊢
      have nR0 : H R = none := s1.free hR'
      obtain ⟨ds, eD1, ld⟩ := gF.at
      have nRD : R ≠ D := (ne_of_none eD1 hR').symm
      refine ⟨_, rfl, _, rfl, oA, sA, rfl, ⟨_, SqL.of ((s1.trans sm) _ _ eo)⟩, ⟨_, SqL.of ((s1.trans sm) _ _ es)⟩, ?_⟩
      refine for_zip (K := K) (xs := as.map V.ref) (ys := shs.map V.int) (by rw [length_map, length_map, hl, la])
        (fun k σ H' => ∃ (o7 o8 : Option V) (xs : List Int), σ = [some (.int (n : Int)), some (.ref oA), some (.ref sA), some (.int shs.sum), some (.ref D), some (.int (i : Int)), some (.ref R), o7, o8] ∧ FGI H D F H' ∧ H' R = some (.lst (xs.map V.int)) ∧ xs.length = n ∧ ∀ x ∈ xs, x.natAbs ≤ 10 * k) ⟨_, _, List.replicate n 0, rfl, gF.keep sm, eR, List.length_replicate, fun x hx => by rw [(List.mem_replicate.mp hx).2]; simp⟩ (fun k σ H' _ ⟨_, _, _, _, g', _⟩ => ⟨SqL.of (g'.same _ _ eo), SqL.of (g'.same _ _ es)⟩) ?_ ?_
      · rintro k x y t σ H3 hx hy ⟨o7, o8, xs, rfl, g3, e3, l3, b3⟩ ht
        obtain ⟨a, ha, rfl⟩ := map_get hx
        obtain ⟨y, hy', rfl⟩ := map_get hy
        obtain ⟨os, hos⟩ := get_lt (l := OS) (i := k) (by rw [← la]; exact lt_get ha)
        have pos := hP os (mem_of_getElem? hos)
        refine ⟨t, _, rfl, SqT.of upd_same, rfl, _, _, rfl, _, _, rfl, rfl, ?_⟩
        have st : Same H3 (upd H3 t (.tup [.ref a, .int y])) := Same.upd ht
        generalize upd H3 t (.tup [.ref a, .int y]) = H4 at st ⊢
        have g4 := g3.keep st
        have ea : H4 a = some (.lst (os.map V.int)) := g4.same _ _ (RO.row k a _ ha (gI_get hos))
        have e4 := st _ _ e3
        have il := idx_lt pos hi
        have lo : os.length = n := by rw [pos.length_eq, rI_len]
        generalize hj : ((os.map PyData.int).findIdx fun e => PyData.eqv e (.int (i : Int))) = j at il
        have il2 : ((os.map PyData.int).findIdx fun e => PyData.eqv e (.int (i : Int))) < (os.map PyData.int).length := by rw [hj, length_map, lo]; exact il
        obtain ⟨z, hz⟩ := get_lt (l := xs) (i := j) (by omega)
        refine ⟨_, rfl, _, rfl, .inl ⟨rfl, _, SqL.of ea⟩, _, rfl, a, _, _, os.map .int, .int (i : Int), rfl, rfl, ea, das_ints os, .int _, ⟨(lay_ints os).1, rfl, Nat.zero_le _⟩, il2, ?_⟩
        rw [hj]
        refine ⟨R, _, _, .int z, rfl, rfl, SqL.of e4, atI_nat (by rw [getElem?_map, hz]; rfl), _, rfl, _, _, rfl, rfl, ?_⟩
        refine ⟨_, rfl, _, rfl, .inl ⟨rfl, _, SqL.of ea⟩, _, rfl, a, _, _, os.map .int, .int (i : Int), rfl, rfl, ea, das_ints os, .int _, ⟨(lay_ints os).1, rfl, Nat.zero_le _⟩, il2, ?_⟩
        rw [hj]
        refine ⟨R, _, _, j, rfl, rfl, e4, by rw [length_map, l3]; exact ixN_nat il, ?_⟩
        show ∃ (o7 o8 : Option V) (xs' : List Int), _
        refine ⟨_, _, xs.set j (z + y), rfl, ?_, by rw [upd_same, map_set], by rw [length_set, l3], fun v hv => ?_⟩
        · obtain ⟨rs, r1, r2, r3, r4, r5⟩ := g4
          have nR : ∀ r ∈ rs, r ≠ R := fun r hr z => by
            subst z
            obtain ⟨idx, hidx⟩ := mem_iff_getElem?.mp hr
            obtain ⟨gs, hgs⟩ := get_lt (l := F) (i := idx) (by rw [← r3]; exact lt_get hidx)
            obtain ⟨ys, y1, y2⟩ := r5 idx _ gs hidx hgs
            rw [e4] at y1
            have ey : ys = xs.map V.int := by cases y1; rfl
            obtain ⟨g', hg'⟩ := get_lt (l := gs) (i := j) (by rw [(hF gs (mem_of_getElem? hgs)).1]; exact il)
            obtain ⟨p, hp, _⟩ := y2.get hg'
            rw [ey, getElem?_map, hz] at hp
            cases hp
          refine ⟨rs, fun b o e => ?_, by rw [upd_ne nRD.symm]; exact r2, r3, r4, fun i' r fs h1 h2 => ?_⟩
          · rw [upd_ne (ne_of_none e nR0)]
            exact r1 _ _ e
          · obtain ⟨ys, y1, y2⟩ := r5 i' r fs h1 h2
            refine ⟨ys, by rw [upd_ne (nR r (mem_of_getElem? h1))]; exact y1, y2.1, fun i2 v f h3 h4 => ?_⟩
            obtain ⟨p, rfl, hp⟩ := y2.2 i2 v f h3 h4
            exact ⟨p, rfl, by rw [upd_ne (fun z => by subst z; rw [e4] at hp; cases hp)]; exact hp⟩
        · rcases mem_or_eq_of_mem_set hv with m1 | m1
          · have := b3 v m1
            omega
          · have h1 := b3 z (mem_of_getElem? hz)
            have h2 := hb y (mem_of_getElem? hy')
            rw [m1]
            omega
      · rintro σ H3 ⟨o7, o8, xs, rfl, g3, e3, l3, b3⟩
        rw [length_map, la] at b3
        obtain ⟨ds3, eD3, ld3⟩ := g3.at
        refine ⟨_, rfl, .inl ⟨rfl, _, SqL.of eD3⟩, ?_⟩
        refine ⟨_, rfl, R, rfl, ⟨_, SqL.of e3⟩, fun L hL => ?_⟩
        have lfs : (xs.map fun x => M11.low x shs.sum).length = n := by rw [length_map, l3]
        refine lc_list (xs := xs.map V.int) (FrI H3 L (xs.map fun x => M11.low x shs.sum)) (FrI.start hL) (fun k ys H' _ g => ⟨SqL.of (g.same _ _ e3), g.at⟩) ?_ ?_ ?_
        · rintro k x ys H4 hx g4
          obtain ⟨x, hx', rfl⟩ := map_get hx
          refine ⟨_, rfl, _, rfl, x, shs.sum, rfl, hs0, ?_, fun p H5 s5 np ep => ?_⟩
          · exact small_bn (by omega)
          · exact g4.step hL (by rw [getElem?_map, hx']; rfl) ep np s5 (by have := lt_get hx'; omega)
        · intro ys H4 g4
          rw [length_map, l3] at g4
          obtain ⟨eL, fL'⟩ := g4.done lfs
          have s4 := g4.same
          have nLD : L ≠ D := (ne_of_none eD3 hL).symm
          refine ⟨D, _, _, rfl, rfl, s4 _ _ eD3, small1000 (by rw [length_map]; omega), ?_⟩
          refine ⟨_, _, _, _, F ++ [xs.map fun x => M11.low x shs.sum], rfl, (g3.keep s4).app hD (s4 _ _ eD3) eL fL' nLD, by rw [length_append, lF]; rfl, fun r hr => ?_⟩
          rcases mem_append.mp hr with m1 | m1
          · exact hF r m1
          · rw [mem_singleton.mp m1]
            refine ⟨lfs, fun g hg => ?_⟩
            obtain ⟨x, hx, rfl⟩ := mem_map.mp hg
            exact FrS.low hs0 (by omega) (by have := b3 x hx; omega)
        · rintro σ H' Q1 Q2 hq h
          repeat (obtain ⟨x, h⟩ := h; refine ⟨x, ?_⟩)
          exact fun p H3 s3 n3 e3 => hq _ _ (h p H3 s3 n3 e3)
    · rintro σ H1 ⟨o5, o6, o7, o8, F, rfl, gF, lF, hF⟩
      exact ⟨_, rfl, q D F H1 gF.same gF.done ⟨by omega, n, hn, hF⟩⟩
abbrev nByHues : List Str := ["_law_web_here", "_law_other", "_law_found", "_law_hue", "_law_many"]
abbrev aByHues : List Str := ["_law_web_here", "_law_other"]
theorem scByHues : FnScope nByHues aByHues (defScope sByHues) := ⟨rfl, rfl, rfl, by decide +kernel, rfl, by decide +kernel, by decide +kernel⟩
theorem lcByHues1 : LcScopes (defScope sByHues) nByHues (lcScope (argAt (asgVal (forBody (bodyAt sByHues 1) 0)) 0)) ["_law_one"] := ⟨by decide +kernel, rfl, by decide +kernel, by decide +kernel, by decide +kernel, by decide +kernel, by decide +kernel, by decide +kernel, by decide +kernel, by decide +kernel⟩
theorem lcByHues2 : LcScopes (defScope sByHues) nByHues (lcScope (argAt (exprOf (forBody (bodyAt sByHues 1) 1)) 0)) ["_law_one"] := ⟨by decide +kernel, rfl, by decide +kernel, by decide +kernel, by decide +kernel, by decide +kernel, by decide +kernel, by decide +kernel, by decide +kernel, by decide +kernel⟩
theorem boot_maxB : bootBuiltins "max" = some (.builtin "max") := by decide +kernel
theorem boot_intT : bootBuiltins "int" = some (.type "int") := by decide +kernel
def spByHues : Sp := fun vs H Q _ => ∃ (wA oA : Addr) (hs hs' : List Int) (M M' : List (List Int)), vs = [.ref wA, .ref oA] ∧ WR H wA hs M ∧ WR H oA hs' M' ∧ hs.length ≤ 8 ∧ hs'.length ≤ 8 ∧ ∀ p F H', Same H H' → FGrd H' p F → Tab 100 8 F → Q (.ref p) H'
theorem ok_byHues {f fL : Addr} {fd fdL : FuncData} (B : BltL mg) (F0 : Fun K "_law_by_hues" "_law_by_hues" sByHues f fd) (DL : Dn K mg "_law_lowest" sLow aLow fL fdL) (GL : FnOk P w K mg base CX0 1 fL fdL aLow spLow) : FnOk P w K mg base CX0 2 f fd aByHues spByHues := by
  refine F0.ok scByHues (fun vs H Q E h => ?_) (fun cdv A outer s H vs Q E hr h => ?_)
  · obtain ⟨wA, oA, hs, hs', M, M', rfl, _⟩ := h
    rfl
  · obtain ⟨wA, oA, hs, hs', M, M', rfl, W, W', h8, h8', q⟩ := h
    obtain ⟨hA, rA, rs, w1, w2, w3, R⟩ := W.ex
    obtain ⟨hA', rA', rs', v1, v2, v3, R'⟩ := W'.ex
    refine ⟨_, pss_cons (ps_set (i := 2) scByHues.nd rfl (Or.inl rfl) (pe_lst pa_nil))
      (pss_cons (ps_for PassesOwn.never rfl (pi_list (pe_ix ix_tup (pv 0) pe_int (fun _ _ => rfl))) (pg_name (i := 3) scByHues.nd rfl (Or.inr rfl))
        (pss_cons (ps_set (i := 4) scByHues.nd rfl (Or.inr rfl) (pe_callB call_len_seq (by rfl) B.len boot_len (pa_cons (pe_lcs rfl lcByHues1 rfl (pi_list (pe_ix ix_tup (pv 1) pe_int (fun _ _ => rfl))) (pg_one lcByHues1) (fun _ _ _ => pts_one (pt_cmpR op_eq (pv 5) (pv 3) (nomark _))) (fun _ _ _ => pv 5)) pa_nil)))
        (pss_one (ps_expr (pe_bm plainAttrs_list slot_list_append type_list_append mt_append (pv 2) (pa_cons (pe_lc1 rfl lcByHues2 rfl (pi_list (pe_ix ix_tup (pv 1) pe_int (fun _ _ => rfl)))
          (fun _ _ _ => pe_fn DL GL hr rfl (pa_cons (pe_callTy call_int1 (by rfl) B.int boot_intT (pa_cons (pe_cmpR op_eq (pv 5) (pv 3) (nomark _)) pa_nil)) (pa_cons (pe_callB (call_max2 rfl) (by rfl) B.max boot_maxB (pa_cons pe_int (pa_cons (pv 4) pa_nil))) pa_nil)))) pa_nil))))))
      (pss_one (ps_ret (pv 2)))), ?_⟩
    refine ⟨Nat.zero_le _, fun D hD => ?_⟩
    have s0 : Same H (upd H D (.lst [])) := Same.upd hD
    refine ⟨_, rfl, wA, _, _, _, rfl, rfl, SqT.of (s0 _ _ w1), at_hd _ _, hA, rfl, ⟨_, SqL.of (s0 _ _ w2)⟩, for_list (xs := hs.map V.int) (fun i σ H' => ∃ (o3 o4 : Option V) (F : List (List (Int × Int))), σ = [some (.ref wA), some (.ref oA), some (.ref D), o3, o4] ∧ FGI H D F H' ∧ F.length = i ∧ ∀ r ∈ F, r.length = hs'.length ∧ ∀ f ∈ r, FrS 100 f) ⟨_, _, [], rfl, FGI.start hD, rfl, (fun r hr => by cases hr)⟩ (fun i σ H' _ ⟨_, _, _, _, g, _⟩ => SqL.of (g.same _ _ w2)) ?_ ?_⟩
    · rintro i x σ H1 hx ⟨o3, o4, F, rfl, gF, lF, hF⟩
      obtain ⟨h, hh, rfl⟩ := map_get hx
      have s1 := gF.same
      refine ⟨_, rfl, oA, _, _, _, rfl, rfl, SqT.of (s1 _ _ v1), at_hd _ _, hA', rfl, ⟨_, SqL.of (s1 _ _ v2)⟩, ?_⟩
      refine lc_filV rfl (fun v => decide (v = V.int h)) (SqL.of (s1 _ _ v2)) (by rw [length_map]; omega) ?_ ?_ ?_
      · intro x H' R hx hR
        obtain ⟨j, _, rfl⟩ := mem_map.mp hx
        exact ⟨_, rfl, _, rfl, rfl, _, rfl, hR⟩
      · intro x H' R hR
        exact ⟨_, rfl, hR⟩
      · intro L H2 s2 eL
        refine ⟨L, _, rfl, .inl (SqL.of eL), ?_⟩
        obtain ⟨c, hc⟩ : ∃ c : Nat, c = ((hs'.map V.int).filter fun v => decide (v = V.int h)).length := ⟨_, rfl⟩
        have hc8 : c ≤ 8 := by rw [hc]; exact Nat.le_trans (List.length_filter_le _ _) (by rw [length_map]; exact h8')
        rw [← hc]
        have g2 := gF.keep s2
        obtain ⟨ds, eD, ld⟩ := g2.at
        have s12 := g2.same
        refine ⟨_, rfl, .inl ⟨rfl, _, SqL.of eD⟩, ?_⟩
        refine ⟨_, rfl, oA, _, _, _, rfl, rfl, SqT.of (s12 _ _ v1), at_hd _ _, hA', rfl, ⟨_, SqL.of (s12 _ _ v2)⟩, fun L2 hL2 => ?_⟩
        have lfs : (hs'.map fun g => M11.low (if decide (V.int g = V.int h) = true then 1 else 0) (if (c : Int) > 1 then (c : Int) else 1)).length = hs'.length := by rw [length_map]
        have b0 : 0 < (if (c : Int) > 1 then (c : Int) else 1) ∧ (if (c : Int) > 1 then (c : Int) else 1) ≤ 8 := by split <;> omega
        refine lc_list (xs := hs'.map V.int) (FrI H2 L2 (hs'.map fun g => M11.low (if decide (V.int g = V.int h) = true then 1 else 0) (if (c : Int) > 1 then (c : Int) else 1))) (FrI.start hL2) (fun k ys H' _ g => ⟨SqL.of (g.same _ _ (s12 _ _ v2)), g.at⟩) ?_ ?_ ?_
        · rintro k x ys H4 hx g4
          obtain ⟨x, hx', rfl⟩ := map_get hx
          refine ⟨_, rfl, _, rfl, rfl, .inr ⟨_, rfl, _, rfl, _, _, rfl, ?_⟩⟩
          refine ⟨_, _, rfl, b0.1, ?_, fun p H5 s5 np ep => ?_⟩
          · exact small_bn (by have := b0.1; have := b0.2; omega)
          · exact g4.step hL2 (by rw [getElem?_map, hx']; rfl) ep np s5 (by have := lt_get hx'; omega)
        · intro ys H4 g4
          rw [length_map] at g4
          obtain ⟨eL2, fL2⟩ := g4.done lfs
          have s4 := g4.same
          have nLD : L2 ≠ D := (ne_of_none eD hL2).symm
          refine ⟨D, _, _, rfl, rfl, s4 _ _ eD, small1000 (by rw [length_map]; have := lt_get hh; omega), ?_⟩
          refine ⟨_, _, F ++ [_], rfl, (g2.keep s4).app hD (s4 _ _ eD) eL2 fL2 nLD, by rw [length_append, lF]; rfl, fun r hr => ?_⟩
          rcases mem_append.mp hr with m1 | m1
          · exact hF r m1
          · rw [mem_singleton.mp m1]
            refine ⟨lfs, fun g hg => ?_⟩
            obtain ⟨x, hx, rfl⟩ := mem_map.mp hg
            exact FrS.low b0.1 (by have := b0.2; omega) (by split <;> decide)
        · rintro σ H' Q1 Q2 hq h
          obtain ⟨x, h⟩ := h
          refine ⟨x, ?_⟩
          repeat (obtain ⟨x, h⟩ := h; refine ⟨x, ?_⟩)
          rcases h with h | h
          · left
            repeat (obtain ⟨x, h⟩ := h; refine ⟨x, ?_⟩)
            exact fun p H3 s3 n3 e3 => hq _ _ (h p H3 s3 n3 e3)
          · right
            repeat (obtain ⟨x, h⟩ := h; refine ⟨x, ?_⟩)
            exact fun p H3 s3 n3 e3 => hq _ _ (h p H3 s3 n3 e3)
    · rintro σ H1 ⟨o3, o4, F, rfl, gF, lF, hF⟩
      exact ⟨_, rfl, q D F H1 gF.same gF.done ⟨by rw [lF, length_map]; exact h8, _, h8', hF⟩⟩
def RowC (c : Nat) (Pn : Nat → Prop) (H : Hp) (r : Addr) : Prop := ∃ (x : List V) (fs : List (Int × Int)), H r = some (.lst x) ∧ FrAt H x fs ∧ Pn fs.length ∧ ∀ f ∈ fs, FrS c f
theorem FrS.mono {c c' : Nat} {f : Int × Int} (h : FrS c f) (hc : c ≤ c') : FrS c' f := ⟨h.1, by have := h.2.1; omega, Nat.le_trans h.2.2 hc⟩
theorem FrAt.over {H : Hp} {x : List V} {fs : List (Int × Int)} {a : Addr} {xs : List V} {o : HO} (h : FrAt H x fs) (e : H a = some (.lst xs)) : FrAt (upd H a o) x fs := ⟨h.1, fun i v f h1 h2 => by
  obtain ⟨p, rfl, hp⟩ := h.2 i v f h1 h2
  refine ⟨p, rfl, ?_⟩
  rw [upd_ne (fun z => by subst z; rw [e] at hp; cases hp)]
  exact hp⟩
theorem RowC.weak {c c' : Nat} {Pn Pn' : Nat → Prop} {H : Hp} {r : Addr} (h : RowC c Pn H r) (hc : c ≤ c') (hp : ∀ n, Pn n → Pn' n) : RowC c' Pn' H r := by
  obtain ⟨x, fs, h1, h2, h3, h4⟩ := h
  exact ⟨x, fs, h1, h2, hp _ h3, fun f hf => (h4 f hf).mono hc⟩
theorem RowC.keep {c : Nat} {Pn : Nat → Prop} {H H' : Hp} {r : Addr} (h : RowC c Pn H r) (s : Same H H') : RowC c Pn H' r := by
  obtain ⟨x, fs, h1, h2, h3⟩ := h
  exact ⟨x, fs, s _ _ h1, h2.mono s, h3⟩
theorem RowC.over {c : Nat} {Pn : Nat → Prop} {H : Hp} {r a : Addr} {xs : List V} {o : HO} (h : RowC c Pn H r) (e : H a = some (.lst xs)) (n : r ≠ a) : RowC c Pn (upd H a o) r := by
  obtain ⟨x, fs, h1, h2, h3⟩ := h
  exact ⟨x, fs, by rw [upd_ne n]; exact h1, h2.over e, h3⟩
def BT (H : Hp) (D : Addr) (N c : Nat) (Pn : Nat → Prop) (H' : Hp) : Prop := ∃ rs : List Addr, Same H H' ∧ H' D = some (.lst (rs.map V.ref)) ∧ rs.length = N ∧ ∀ r ∈ rs, r ≠ D ∧ H r = none ∧ RowC c Pn H' r
theorem BT.weak {H H' : Hp} {D : Addr} {N c c' : Nat} {Pn Pn' : Nat → Prop} (g : BT H D N c Pn H') (hc : c ≤ c') (hp : ∀ n, Pn n → Pn' n) : BT H D N c' Pn' H' := by
  obtain ⟨rs, h1, h2, h3, h4⟩ := g
  exact ⟨rs, h1, h2, h3, fun r hr => let ⟨a, b, z⟩ := h4 r hr; ⟨a, b, z.weak hc hp⟩⟩
theorem BT.keep {H H' H'' : Hp} {D : Addr} {N c : Nat} {Pn : Nat → Prop} (g : BT H D N c Pn H') (s : Same H' H'') : BT H D N c Pn H'' := by
  obtain ⟨rs, h1, h2, h3, h4⟩ := g
  exact ⟨rs, h1.trans s, s _ _ h2, h3, fun r hr => let ⟨a, b, z⟩ := h4 r hr; ⟨a, b, z.keep s⟩⟩
theorem BT.same {H H' : Hp} {D : Addr} {N c : Nat} {Pn : Nat → Prop} (g : BT H D N c Pn H') : Same H H' := let ⟨_, h, _⟩ := g; h
theorem BT.setD {H H' : Hp} {D : Addr} {c : Nat} {Pn : Nat → Prop} {old : List V} (hD : H D = none) (s : Same H H') (e : H' D = some (.lst old)) (rs : List Addr) (hr : ∀ r ∈ rs, r ≠ D ∧ H r = none ∧ RowC c Pn H' r) : BT H D rs.length c Pn (upd H' D (.lst (rs.map V.ref))) := by
  refine ⟨rs, fun b o z => ?_, upd_same, rfl, fun r h => ?_⟩
  · rw [upd_ne (ne_of_none z hD)]
    exact s _ _ z
  · obtain ⟨a, b, z⟩ := hr r h
    exact ⟨a, b, z.over e a⟩
theorem BT.put {H H' : Hp} {D r : Addr} {N c c' : Nat} {Pn Pn' : Nat → Prop} {rs : List Addr} {old x : List V} {fs : List (Int × Int)} (g : BT H D N c Pn H') (eD : H' D = some (.lst (rs.map V.ref))) (mr : r ∈ rs) (er : H' r = some (.lst old)) (hf : FrAt H' x fs) (hp : Pn' fs.length) (hs : ∀ f ∈ fs, FrS c' f) (hc : c ≤ c') (hw : ∀ n, Pn n → Pn' n) : BT H D N c' Pn' (upd H' r (.lst x)) := by
  obtain ⟨rs', h1, h2, h3, h4⟩ := g
  rw [eD] at h2
  have e : rs.map V.ref = rs'.map V.ref := HO.lst.inj (Option.some.inj h2)
  have mr' : r ∈ rs' := by
    have : V.ref r ∈ rs'.map V.ref := by rw [← e]; exact mem_map.mpr ⟨r, mr, rfl⟩
    obtain ⟨r', hr', z⟩ := mem_map.mp this
    cases z
    exact hr'
  obtain ⟨nD, nH, _⟩ := h4 r mr'
  refine ⟨rs', fun b o z => ?_, by rw [upd_ne nD.symm, eD, e], h3, fun r' hr' => ?_⟩
  · rw [upd_ne (ne_of_none z nH)]
    exact h1 _ _ z
  · obtain ⟨a, b, z⟩ := h4 r' hr'
    refine ⟨a, b, ?_⟩
    by_cases er' : r' = r
    · subst er'
      exact ⟨x, fs, upd_same, hf.over er, hp, hs⟩
    · exact (z.over er er').weak hc hw
theorem rows_grd {H : Hp} {D : Addr} {c : Nat} {Pn : Nat → Prop} {rs : List Addr} (e : H D = some (.lst (rs.map V.ref))) (h : ∀ r ∈ rs, RowC c Pn H r) : ∃ F, FGrd H D F ∧ F.length = rs.length ∧ ∀ r ∈ F, Pn r.length ∧ ∀ f ∈ r, FrS c f := by
  have ch : ∀ r : Addr, ∃ z : List V × List (Int × Int), r ∈ rs → H r = some (.lst z.1) ∧ FrAt H z.1 z.2 ∧ Pn z.2.length ∧ ∀ f ∈ z.2, FrS c f := fun r => by
    by_cases m : r ∈ rs
    · obtain ⟨x, fs, z⟩ := h r m
      exact ⟨(x, fs), fun _ => z⟩
    · exact ⟨([], []), fun z => absurd z m⟩
  obtain ⟨Z, hZ⟩ := Classical.axiomOfChoice ch
  refine ⟨rs.map fun r => (Z r).2, ⟨rs.map fun r => (Z r).1, ⟨rs, e, by rw [length_map], fun i r x h1 h2 => ?_⟩, by rw [length_map, length_map], fun i x fs h1 h2 => ?_⟩, by rw [length_map], fun r hr => ?_⟩
  · obtain ⟨r', hr', rfl⟩ := map_get h2
    rw [h1] at hr'
    cases hr'
    exact (hZ r (mem_of_getElem? h1)).1
  · obtain ⟨r1, g1, rfl⟩ := map_get h1
    obtain ⟨r2, g2, rfl⟩ := map_get h2
    rw [g1] at g2
    cases g2
    exact (hZ r1 (mem_of_getElem? g1)).2.1
  · obtain ⟨r', hr', rfl⟩ := mem_map.mp hr
    exact (hZ r' hr').2.2
theorem ixN_at {α : Type} {xs : List α} {n : Nat} {k : Int} {j : Nat} {v : α} (hl : xs.length = n) (h : ixN n k = some j) (hv : xs[j]? = some v) : atI xs k = some v := by
  unfold atI
  rw [hl, h]
  exact hv
theorem ixN_lt {n : Nat} {k : Int} {j : Nat} (h : ixN n k = some j) : j < n := (ixN_seq h).2.1
theorem refs_inj {rs rs' : List Addr} (h : rs.map V.ref = rs'.map V.ref) : rs = rs' := by
  rw [List.map_inj_right (fun x y z => V.ref.inj z)] at h
  exact h
theorem BT.at {H H' : Hp} {D : Addr} {N c : Nat} {Pn : Nat → Prop} (g : BT H D N c Pn H') : ∃ rs : List Addr, H' D = some (.lst (rs.map V.ref)) ∧ rs.length = N ∧ ∀ r ∈ rs, r ≠ D ∧ H r = none ∧ RowC c Pn H' r := let ⟨rs, _, e, l, x⟩ := g; ⟨rs, e, l, x⟩
theorem BT.cell {H H' : Hp} {D : Addr} {N c C : Nat} {rs : List Addr} (g : BT H D N c (· = C) H') (eD : H' D = some (.lst (rs.map V.ref))) {ku kv : Int} {u v : Nat} (hu : ixN N ku = some u) (hv : ixN C kv = some v) :
    ∃ (r : Addr) (x : List V) (fs : List (Int × Int)) (p : Addr) (f : Int × Int), r ∈ rs ∧ atI (rs.map V.ref) ku = some (.ref r) ∧ H' r = some (.lst x) ∧ x.length = C ∧ FrAt H' x fs ∧ fs.length = C ∧ (∀ f ∈ fs, FrS c f) ∧ atI x kv = some (.ref p) ∧ H' p = some (tupF f) ∧ FrS c f := by
  obtain ⟨rs', h1, h2, h3, h4⟩ := g
  rw [eD] at h2
  have e : rs = rs' := refs_inj (HO.lst.inj (Option.some.inj h2))
  subst e
  obtain ⟨r, hr⟩ := get_lt (l := rs) (i := u) (by rw [h3]; exact ixN_lt hu)
  have mr := mem_of_getElem? hr
  obtain ⟨_, _, x, fs, x1, x2, x3, x4⟩ := h4 r mr
  obtain ⟨f, hf⟩ := get_lt (l := fs) (i := v) (by rw [x3]; exact ixN_lt hv)
  obtain ⟨p, p1, p2⟩ := x2.get hf
  exact ⟨r, x, fs, p, f, mr, ixN_at (by rw [length_map, h3]) hu (by rw [getElem?_map, hr]; rfl), x1, by rw [x2.1]; exact x3, x2, x3, x4, ixN_at (by rw [x2.1]; exact x3) hv p1, p2, x4 f (mem_of_getElem? hf)⟩
theorem FrAt.set {H : Hp} {x : List V} {fs : List (Int × Int)} {p : Addr} {f : Int × Int} (h : FrAt H x fs) (hp : H p = some (tupF f)) (j : Nat) : FrAt H (x.set j (.ref p)) (fs.set j f) := by
  refine ⟨by rw [length_set, length_set, h.1], fun i v g h1 h2 => ?_⟩
  by_cases e : j = i
  · subst e
    have l1 : j < x.length := by have := lt_get h1; rwa [length_set] at this
    rw [getElem?_set_self l1] at h1
    rw [getElem?_set_self (by rw [← h.1]; exact l1)] at h2
    cases h1
    cases h2
    exact ⟨p, rfl, hp⟩
  · rw [getElem?_set_ne e] at h1 h2
    exact h.2 i v g h1 h2
theorem BT.putc {H H' : Hp} {D r p : Addr} {N c c' C : Nat} {rs : List Addr} {x : List V} {fs : List (Int × Int)} {f : Int × Int} (g : BT H D N c (· = C) H') (eD : H' D = some (.lst (rs.map V.ref))) (mr : r ∈ rs) (er : H' r = some (.lst x)) (hf : FrAt H' x fs) (hl : fs.length = C) (hs : ∀ f ∈ fs, FrS c f) (hp : H' p = some (tupF f)) (hq : FrS c' f) (hc : c ≤ c') (j : Nat) : BT H D N c' (· = C) (upd H' r (.lst (x.set j (.ref p)))) := by
  refine g.put eD mr er (hf.set hp j) (by rw [length_set]; exact hl) (fun z hz => ?_) hc fun _ z => z
  rcases mem_or_eq_of_mem_set hz with m | m
  · exact (hs z m).mono hc
  · rw [m]; exact hq
theorem cut_ex (x : List V) (lo hi : Option Int) : ∃ a b, cutV x lo hi = (x.drop a).take b := ⟨_, _, rfl⟩
theorem FrAt.cut {H : Hp} {x : List V} {fs : List (Int × Int)} (h : FrAt H x fs) (a b : Nat) : FrAt H ((x.drop a).take b) ((fs.drop a).take b) := by
  refine ⟨by rw [length_take, length_take, length_drop, length_drop, h.1], fun i v f h1 h2 => ?_⟩
  rw [List.getElem?_take] at h1 h2
  split at h1
  · rename_i hb
    rw [if_pos hb] at h2
    rw [List.getElem?_drop] at h1 h2
    exact h.2 _ v f h1 h2
  · cases h1
theorem cut_refs (rs : List Addr) (lo hi : Option Int) : ∃ ms : List Addr, cutV (rs.map V.ref) lo hi = ms.map V.ref ∧ ms.length ≤ rs.length ∧ ∀ r ∈ ms, r ∈ rs := by
  unfold cutV
  rw [← List.map_drop, ← map_take]
  exact ⟨_, rfl, by rw [length_take, length_drop]; omega, fun r hr => List.mem_of_mem_drop (mem_of_mem_take hr)⟩
def dT (F : List (List (Int × Int))) : PyData := .list (F.map fun r => .list (r.map dF))
theorem lay_dFs : ∀ r : List (Int × Int), PyData.canLayAll0 (r.map dF) = true ∧ PyData.depthAll (r.map dF) ≤ 1
  | [] => ⟨rfl, Nat.zero_le _⟩
  | f :: r => by
    obtain ⟨h1, h2⟩ := lay_dFs r
    obtain ⟨a1, a2⟩ := lay_dF f
    rw [map_cons]
    simp only [PyData.canLayAll0, PyData.depthAll, h1, a1, Bool.and_self, true_and]
    omega
theorem lay_dTs : ∀ F : List (List (Int × Int)), PyData.canLayAll0 (F.map fun r => PyData.list (r.map dF)) = true ∧ PyData.depthAll (F.map fun r => PyData.list (r.map dF)) ≤ 2
  | [] => ⟨rfl, Nat.zero_le _⟩
  | r :: F => by
    obtain ⟨h1, h2⟩ := lay_dTs F
    obtain ⟨a1, a2⟩ := lay_dFs r
    rw [map_cons]
    simp only [PyData.canLayAll0, PyData.canLay0, PyData.depthAll, PyData.depth, h1, a1, Bool.and_self, true_and]
    omega
theorem lay_dT (F : List (List (Int × Int))) : (dT F).canLay0 = true ∧ (dT F).depth ≤ 64 := by
  obtain ⟨h1, h2⟩ := lay_dTs F
  unfold dT
  simp only [PyData.canLay0, PyData.depth, h1, true_and]
  omega
theorem FrAt.das {H : Hp} : ∀ {x : List V} {fs : List (Int × Int)}, FrAt H x fs → DAs K any H x (fs.map dF)
  | [], [], _ => .nil
  | [], _ :: _, h => by cases h.1
  | _ :: _, [], h => by cases h.1
  | v :: x, f :: fs, h => by
    obtain ⟨p, rfl, hp⟩ := h.2 0 v f rfl rfl
    exact .cons (daF hp) (FrAt.das ⟨by simpa using h.1, fun i v f h1 h2 => h.2 (i + 1) v f h1 h2⟩)
theorem FGrd.das {H : Hp} : ∀ {rs : List Addr} {X : List (List V)} {F : List (List (Int × Int))}, rs.length = X.length → X.length = F.length → (∀ (i : Nat) (r : Addr) (x : List V), rs[i]? = some r → X[i]? = some x → H r = some (.lst x)) → (∀ (i : Nat) (x : List V) (fs : List (Int × Int)), X[i]? = some x → F[i]? = some fs → FrAt H x fs) → DAs K any H (rs.map V.ref) (F.map fun r => .list (r.map dF))
  | [], [], [], _, _, _, _ => .nil
  | r :: rs, x :: X, f :: F, l1, l2, h1, h2 => .cons (.lst trivial (SqL.of (h1 0 r x rfl rfl)) (h2 0 x f rfl rfl).das) (FGrd.das (by simpa using l1) (by simpa using l2) (fun i r x g1 g2 => h1 (i + 1) r x g1 g2) fun i x fs g1 g2 => h2 (i + 1) x fs g1 g2)
theorem FGrd.da {H : Hp} {a : Addr} {F : List (List (Int × Int))} (g : FGrd H a F) : DA K any H (.ref a) (dT F) := by
  obtain ⟨X, ⟨rs, h, R⟩, lX, fX⟩ := g
  exact .lst trivial (SqL.of h) (FGrd.das R.len lX R.row fX)
theorem eqv_nil {α : Type} (f : α → PyData) (xs : List α) : PyData.eqv (.list (xs.map f)) (.list []) = decide (xs = []) := by
  cases xs with
  | nil => simp [PyData.eqv, PyData.eqvAll]
  | cons x xs => simp [PyData.eqv, PyData.eqvAll]
abbrev nBent : List Str := ["_law_table_here", "_law_cell", "_law_rows", "_law_way", "_law_u", "_law_v", "_law_w", "_law_u2", "_law_top", "_law_bottom", "_law_row_here", "_law_at", "_law_sign", "_law_share"]
abbrev aBent : List Str := ["_law_table_here", "_law_cell"]
theorem scBent : FnScope nBent aBent (defScope sBent) := ⟨rfl, rfl, rfl, by decide +kernel, rfl, by decide +kernel, by decide +kernel⟩
theorem lcBent : LcScopes (defScope sBent) nBent (lcScope (asgVal (bodyAt sBent 0))) ["_law_row_here"] := ⟨by decide +kernel, rfl, by decide +kernel, by decide +kernel, by decide +kernel, by decide +kernel, by decide +kernel, by decide +kernel, by decide +kernel, by decide +kernel⟩
def TabE (F : List (List (Int × Int))) : Prop := F.length ≤ 16 ∧ ∀ r ∈ F, r.length ≤ 16 ∧ ∀ f ∈ r, FrS 1000000 f
def spBent : Sp := fun vs H Q _ => ∃ (tA : Addr) (c : Int) (F : List (List (Int × Int))), vs = [.ref tA, .int c] ∧ FGrd H tA F ∧ Tab 100 8 F ∧ ∀ p F' H', Same H H' → FGrd H' p F' → TabE F' → Q (.ref p) H'
def JB (H : Hp) (tA D : Addr) (c : Int) (N C wy u v w' k : Nat) (σ : L2.St) (H' : Hp) : Prop := ∃ (o7 o8 o9 o10 o11 o12 o13 : Option V), σ = [some (.ref tA), some (.int c), some (.ref D), some (.int (wy : Int)), some (.int (u : Int)), some (.int (v : Int)), some (.int (w' : Int)), o7, o8, o9, o10, o11, o12, o13] ∧ BT H D N 1000000 (· ≤ 16) H' ∧ (k ≤ wy → BT H D N 100 (· = C) H')
theorem JB.skip {H H' : Hp} {tA D : Addr} {c : Int} {N C wy u v w' k : Nat} {σ : L2.St} (j : JB H tA D c N C wy u v w' k σ H') (h : wy ≠ k) : JB H tA D c N C wy u v w' (k + 1) σ H' := by
  obtain ⟨o7, o8, o9, o10, o11, o12, o13, e, g, x⟩ := j
  exact ⟨o7, o8, o9, o10, o11, o12, o13, e, g, fun z => x (by omega)⟩
theorem BT.fin {H H' : Hp} {D : Addr} {N c C : Nat} (g : BT H D N c (· = C) H') (hc : c ≤ 1000000) (hC : C ≤ 8) : BT H D N 1000000 (· ≤ 16) H' := g.weak hc fun n z => by have z' : n = C := z; show n ≤ 16; omega
theorem FrS.bend {c : Nat} {f : Int × Int} (h : FrS c f) {k s : Int} (hk : 0 < k) (hk7 : k ≤ 7) (hs : s.natAbs ≤ 1) : 0 < k * f.2 ∧ FrS (8 * c) (M11.low (f.1 * k + s * f.2) (k * f.2)) := by
  obtain ⟨h1, h2, h3⟩ := h
  have hp : 0 < k * f.2 := Int.mul_pos hk h1
  have b1 : k * f.2 ≤ 7 * f.2 := Int.mul_le_mul_of_nonneg_right hk7 (Int.le_of_lt h1)
  have b2 : (f.1 * k).natAbs ≤ c * 7 := by rw [Int.natAbs_mul]; exact Nat.mul_le_mul h3 (by omega)
  have b3 : (s * f.2).natAbs ≤ 1 * c := by rw [Int.natAbs_mul]; exact Nat.mul_le_mul hs (by omega)
  exact ⟨hp, FrS.low hp (by omega) (by omega)⟩
def CpI (H : Hp) (D : Addr) (X : List (List V)) (i : Nat) (ys : List V) (H' : Hp) : Prop := ∃ rs : List Addr, ys = rs.map V.ref ∧ rs.length = i ∧ Same H H' ∧ H' D = some (.lst ys) ∧ (∀ r ∈ rs, r ≠ D ∧ H r = none) ∧ ∀ (j : Nat) (r : Addr) (x : List V), rs[j]? = some r → X[j]? = some x → H' r = some (.lst x)
theorem CpI.start {H : Hp} {D : Addr} {X : List (List V)} (hD : H D = none) : CpI H D X 0 [] (upd H D (.lst [])) := ⟨[], rfl, rfl, Same.upd hD, upd_same, (fun r h => by cases h), (fun j r x h _ => by cases h)⟩
theorem CpI.step {H H4 : Hp} {D l : Addr} {X : List (List V)} {i : Nat} {ys x : List V} (hD : H D = none) (g : CpI H D X i ys H4) (hx : X[i]? = some x) (hl : H4 l = none) (hm : i < 900) :
    upd H4 l (.lst x) D = some (.lst ys) ∧ ys.length < sizeLine ∧ CpI H D X (i + 1) (ys ++ [.ref l]) (upd (upd H4 l (.lst x)) D (.lst (ys ++ [.ref l]))) := by
  obtain ⟨rs, rfl, lr, s4, eD, nD, hr⟩ := g
  have nl : D ≠ l := ne_of_none eD hl
  refine ⟨by rw [upd_ne nl]; exact eD, small1000 (by rw [length_map]; omega), rs ++ [l], by rw [map_append]; rfl, by rw [length_append, lr]; rfl, fun b o e => ?_, upd_same, fun r h => ?_, fun j r y h1 h2 => ?_⟩
  · rw [upd_ne (ne_of_none e hD), upd_ne (ne_of_none (s4 _ _ e) hl)]
    exact s4 _ _ e
  · rcases mem_append.mp h with z | z
    · exact nD r z
    · rw [mem_singleton.mp z]; exact ⟨nl.symm, s4.free hl⟩
  · rcases snoc_get h1 with z | ⟨e, z⟩
    · obtain ⟨x', hx'⟩ := get_lt (l := X) (i := j) (lt_get h2)
      have hr4 := hr j r y z h2
      rw [upd_ne (nD r (mem_of_getElem? z)).1, upd_ne (ne_of_none hr4 hl)]
      exact hr4
    · subst z
      rw [e, lr, hx] at h2
      cases h2
      rw [upd_ne nl.symm, upd_same]
theorem ixN_less {n u : Nat} (hu : u < n) : ∃ j, ixN n ((u : Int) - 1) = some j := by
  unfold ixN
  by_cases h : 0 ≤ (u : Int) - 1
  · rw [if_pos h, if_pos (by omega)]
    exact ⟨_, rfl⟩
  · rw [if_neg h, if_pos (by omega)]
    exact ⟨_, rfl⟩
theorem ok_bent {f fL : Addr} {fd fdL : FuncData} (B : BltL mg) (F0 : Fun K "_law_bent" "_law_bent" sBent f fd) (DL : Dn K mg "_law_lowest" sLow aLow fL fdL) (GL : FnOk P w K mg base CX0 1 fL fdL aLow spLow) : FnOk P w K mg base CX0 2 f fd aBent spBent := by
  refine F0.ok scBent (fun vs H Q E h => ?_) (fun cdv A outer s H vs Q E hr h => ?_)
  · obtain ⟨tA, c, F, rfl, _⟩ := h
    rfl
  · obtain ⟨tA, c, F, rfl, gF, ⟨hN, C, hC, hF⟩, q⟩ := h
    obtain ⟨X, ⟨ts, hT, RX⟩, lX, fX⟩ := gF
    refine ⟨_, pss_cons (ps_setLc1 (i := 2) scBent.nd rfl (Or.inl rfl) rfl lcBent rfl (pi_list (pv 0)) (fun _ _ _ => pe_callTy (call_list_ofK (K := K)) (by rfl) B.list boot_list (pa_cons (pv 14) pa_nil)))
      (pss_cons (ps_set (i := 3) scBent.nd rfl (Or.inl rfl) (pe_op op_mod (pv 1) pe_int))
      (pss_cons (ps_if (PW.pt (pw_or (pt_cmpR (op_eqD hr.units) (pv 2) (pe_lst pa_nil) (nomark _)) (pw_or (pt_cmpR (op_eqD hr.units) (pe_ix ix_list (pv 2) pe_int (fun _ _ => rfl)) (pe_lst pa_nil) (nomark _)) (pw_or1 (pt_cmpR op_gt (pv 3) pe_int (nomark _)))))) (pss_one (ps_ret (pv 2))) pss_nil)
      (pss_cons (ps_set (i := 4) scBent.nd rfl (Or.inl rfl) (pe_op op_mod (pe_op op_fdiv (pv 1) pe_int) (pe_callB call_len_seq (by rfl) B.len boot_len (pa_cons (pv 2) pa_nil))))
      (pss_cons (ps_set (i := 5) scBent.nd rfl (Or.inl rfl) (pe_op op_mod (pe_op op_fdiv (pv 1) pe_int) (pe_callB call_len_seq (by rfl) B.len boot_len (pa_cons (pe_ix ix_list (pv 2) pe_int (fun _ _ => rfl)) pa_nil))))
      (pss_cons (ps_set (i := 6) scBent.nd rfl (Or.inl rfl) (pe_op op_mod (pe_op op_fdiv (pv 1) pe_int) (pe_callB call_len_seq (by rfl) B.len boot_len (pa_cons (pe_ix ix_list (pv 2) pe_int (fun _ _ => rfl)) pa_nil))))
      (pss_cons (ps_if (pt_cmpR op_eq (pv 3) pe_int (nomark _)) (pss_one (ps_ret (pe_op op_cat (pe_slice sl_list (pv 2) po_none (po_some (pv 4))) (pe_slice sl_list (pv 2) (po_some (pe_op op_add (pv 4) pe_int)) po_none)))) pss_nil)
      (pss_mid (ps_if (pt_cmpR op_eq (pv 3) pe_int (nomark _)) (pss_one (ps_asg (pe_op op_cat (pe_slice sl_list (pe_ix ix_list (pv 2) (pv 4) (fun _ _ => rfl)) po_none (po_some (pv 5))) (pe_slice sl_list (pe_ix ix_list (pv 2) (pv 4) (fun _ _ => rfl)) (po_some (pe_op op_add (pv 5) pe_int)) po_none)) (pg_sub (pv 2) (pv 4) set_list))) pss_nil)
      (pss_mid (ps_if (pt_cmpR op_eq (pv 3) pe_int (nomark _)) (pss_cons (ps_set (i := 7) scBent.nd rfl (Or.inl rfl) (pe_op op_mod (pe_op op_fdiv (pv 1) pe_int) (pe_callB call_len_seq (by rfl) B.len boot_len (pa_cons (pv 2) pa_nil))))
        (pss_one (ps_asg (pe_tup (pa_cons (pe_ix ix_list (pv 2) (pv 7) (fun _ _ => rfl)) (pa_cons (pe_ix ix_list (pv 2) (pv 4) (fun _ _ => rfl)) pa_nil))) (pg_tup rfl (pgs_cons (pg_sub (pv 2) (pv 4) set_list) (pgs_cons (pg_sub (pv 2) (pv 7) set_list) pgs_nil)))))) pss_nil)
      (pss_mid (ps_if (pt_cmpR op_eq (pv 3) pe_int (nomark _)) (pss_one (ps_asg (pe_tup (pa_cons (pe_ix ix_list (pe_ix ix_list (pv 2) (pv 4) (fun _ _ => rfl)) (pv 6) (fun _ _ => rfl)) (pa_cons (pe_ix ix_list (pe_ix ix_list (pv 2) (pv 4) (fun _ _ => rfl)) (pv 5) (fun _ _ => rfl)) pa_nil)))
        (pg_tup rfl (pgs_cons (pg_sub (pe_ix ix_list (pv 2) (pv 4) (fun _ _ => rfl)) (pv 5) set_list) (pgs_cons (pg_sub (pe_ix ix_list (pv 2) (pv 4) (fun _ _ => rfl)) (pv 6) set_list) pgs_nil))))) pss_nil)
      (pss_mid (ps_if (pt_cmpR op_eq (pv 3) pe_int (nomark _))
        (pss_cons (ps_asg (pe_ix ix_list (pe_ix ix_list (pv 2) (pv 4) (fun _ _ => rfl)) (pv 5) (fun _ _ => rfl)) (pg_tup rfl (pgs_cons (pg_name (i := 8) scBent.nd rfl (Or.inl rfl)) (pgs_cons (pg_name (i := 9) scBent.nd rfl (Or.inl rfl)) pgs_nil))))
        (pss_cons (ps_asg (pe_fn DL GL hr rfl (pa_cons (pe_op op_sub (pe_op op_mul (pv 8) pe_int) (pv 9)) (pa_cons (pe_op op_mul pe_int (pv 9)) pa_nil))) (pg_sub (pe_ix ix_list (pv 2) (pv 4) (fun _ _ => rfl)) (pv 5) set_list))
        (pss_cons (ps_asg (pe_ix ix_list (pe_ix ix_list (pv 2) (pv 4) (fun _ _ => rfl)) (pv 6) (fun _ _ => rfl)) (pg_tup rfl (pgs_cons (pg_name (i := 8) scBent.nd rfl (Or.inl rfl)) (pgs_cons (pg_name (i := 9) scBent.nd rfl (Or.inl rfl)) pgs_nil))))
        (pss_one (ps_asg (pe_fn DL GL hr rfl (pa_cons (pe_op op_add (pe_op op_mul (pv 8) pe_int) (pv 9)) (pa_cons (pe_op op_mul pe_int (pv 9)) pa_nil))) (pg_sub (pe_ix ix_list (pv 2) (pv 4) (fun _ _ => rfl)) (pv 6) set_list)))))) pss_nil)
      (pss_mid (ps_if (pt_cmpR op_eq (pv 3) pe_int (nomark _)) (pss_one (ps_expr (pe_bm plainAttrs_list slot_list_append type_list_append mt_append (pe_ix ix_list (pv 2) (pv 4) (fun _ _ => rfl)) (pa_cons (pe_tup (pa_cons pe_int (pa_cons pe_int pa_nil))) pa_nil)))) pss_nil)
      (pss_mid (ps_if (PW.pt (pw_and (pt_cmpR op_eq (pv 3) pe_int (nomark _)) (pw_and1 (pt_cmpR op_gt (pv 4) pe_int (nomark _)))))
        (pss_one (ps_for PassesOwn.never rfl (pi_list (pe_lst (pa_cons (pe_tup (pa_cons (pv 4) (pa_cons (pv 5) (pa_cons pe_int pa_nil)))) (pa_cons (pe_tup (pa_cons (pe_op op_sub (pv 4) pe_int) (pa_cons (pv 6) (pa_cons pe_int pa_nil)))) (pa_cons (pe_tup (pa_cons (pv 4) (pa_cons (pv 6) (pa_cons (pe_un un_neg pe_int) pa_nil)))) (pa_cons (pe_tup (pa_cons (pe_op op_sub (pv 4) pe_int) (pa_cons (pv 5) (pa_cons (pe_un un_neg pe_int) pa_nil)))) pa_nil))))))
          (pg_tup rfl (pgs_cons (pg_name (i := 10) scBent.nd rfl (Or.inl rfl)) (pgs_cons (pg_name (i := 11) scBent.nd rfl (Or.inl rfl)) (pgs_cons (pg_name (i := 12) scBent.nd rfl (Or.inl rfl)) pgs_nil))))
          (pss_cons (ps_asg (pe_ix ix_list (pe_ix ix_list (pv 2) (pv 10) (fun _ _ => rfl)) (pv 11) (fun _ _ => rfl)) (pg_tup rfl (pgs_cons (pg_name (i := 8) scBent.nd rfl (Or.inl rfl)) (pgs_cons (pg_name (i := 9) scBent.nd rfl (Or.inl rfl)) pgs_nil))))
          (pss_one (ps_asg (pe_fn DL GL hr rfl (pa_cons (pe_op op_add (pe_op op_mul (pv 8) pe_int) (pe_op op_mul (pv 12) (pv 9))) (pa_cons (pe_op op_mul pe_int (pv 9)) pa_nil))) (pg_sub (pe_ix ix_list (pv 2) (pv 10) (fun _ _ => rfl)) (pv 11) set_list)))))) pss_nil)
      (pss_mid (ps_if (pt_cmpR op_eq (pv 3) pe_int (nomark _))
        (pss_one (ps_for PassesOwn.never rfl (pi_list (pe_lst (pa_cons (pe_tup (pa_cons (pv 4) (pa_cons pe_int pa_nil))) (pa_cons (pe_tup (pa_cons (pe_op op_mod (pe_op op_fdiv (pv 1) pe_int) (pe_callB call_len_seq (by rfl) B.len boot_len (pa_cons (pv 2) pa_nil))) (pa_cons (pe_un un_neg pe_int) pa_nil))) pa_nil))))
          (pg_tup rfl (pgs_cons (pg_name (i := 10) scBent.nd rfl (Or.inl rfl)) (pgs_cons (pg_name (i := 12) scBent.nd rfl (Or.inl rfl)) pgs_nil)))
          (pss_cons (ps_asg (pe_ix ix_list (pe_ix ix_list (pv 2) (pv 10) (fun _ _ => rfl)) (pv 5) (fun _ _ => rfl)) (pg_tup rfl (pgs_cons (pg_name (i := 8) scBent.nd rfl (Or.inl rfl)) (pgs_cons (pg_name (i := 9) scBent.nd rfl (Or.inl rfl)) pgs_nil))))
          (pss_one (ps_asg (pe_fn DL GL hr rfl (pa_cons (pe_op op_add (pe_op op_mul (pv 8) pe_int) (pe_op op_mul (pv 12) (pv 9))) (pa_cons (pe_op op_mul pe_int (pv 9)) pa_nil))) (pg_sub (pe_ix ix_list (pv 2) (pv 10) (fun _ _ => rfl)) (pv 5) set_list)))))) pss_nil)
      (pss_mid (ps_if (pt_cmpR op_eq (pv 3) pe_int (nomark _))
        (pss_cons (ps_set (i := 13) scBent.nd rfl (Or.inl rfl) (pe_ix ix_list (pe_ix ix_list (pv 2) (pv 4) (fun _ _ => rfl)) (pv 5) (fun _ _ => rfl)))
        (pss_cons (ps_asg (pe_ix ix_list (pe_ix ix_list (pv 2) (pe_op op_sub (pv 4) pe_int) (fun _ _ => rfl)) (pv 5) (fun _ _ => rfl)) (pg_sub (pe_ix ix_list (pv 2) (pv 4) (fun _ _ => rfl)) (pv 5) set_list))
        (pss_one (ps_asg (pv 13) (pg_sub (pe_ix ix_list (pv 2) (pe_op op_sub (pv 4) pe_int) (fun _ _ => rfl)) (pv 5) set_list))))) pss_nil)
      (pss_one (ps_ret (pv 2))))))))))))))))), ?_⟩
    refine ⟨_, rfl, tA, rfl, ⟨_, SqL.of hT⟩, fun D hD => ?_⟩
    refine lc_list (xs := ts.map V.ref) (CpI H D X) (CpI.start hD) (fun i ys H' _ ⟨_, _, _, s', eD, _⟩ => ⟨SqL.of (s' _ _ hT), eD⟩) ?_ ?_ ?_
    · rintro i x ys H4 hx g
      obtain ⟨r, hr', rfl⟩ := map_get hx
      obtain ⟨y, hy⟩ := get_lt (l := X) (i := i) (by rw [← RX.len]; exact lt_get hr')
      have s4 : Same H H4 := let ⟨_, _, _, z, _⟩ := g; z
      exact ⟨_, rfl, r, y, rfl, .inl (SqL.of (s4 _ _ (RX.row i r y hr' hy))), fun l hl => g.step hD hy hl (by have := lt_get hy; omega)⟩
    · rintro ys H1 ⟨rs, rfl, lr, s1, eD, nD, hrow⟩
      rw [length_map, RX.len] at lr
      have gF1 : FGrd H1 D F := ⟨X, ⟨rs, eD, lr, hrow⟩, lX, fun i x fs h1 h2 => (fX i x fs h1 h2).mono s1⟩
      have g1 : BT H D F.length 100 (· = C) H1 := ⟨rs, s1, eD, by rw [lr, lX], fun r hr => by
        obtain ⟨j, hj⟩ := mem_iff_getElem?.mp hr
        obtain ⟨x, hx⟩ := get_lt (l := X) (i := j) (by rw [← lr]; exact lt_get hj)
        obtain ⟨fs, hfs⟩ := get_lt (l := F) (i := j) (by rw [← lX]; exact lt_get hx)
        obtain ⟨f1, f2⟩ := hF fs (mem_of_getElem? hfs)
        exact ⟨(nD r hr).1, (nD r hr).2, x, fs, hrow j r x hj hx, (fX j x fs hx hfs).mono s1, f1, f2⟩⟩
      have tE : TabE F := ⟨by omega, fun r hr => ⟨by rw [(hF r hr).1]; omega, fun f hf => ((hF r hr).2 f hf).mono (by decide)⟩⟩
      refine ⟨_, rfl, _, _, rfl, rfl, (by show (0 : Int) < 12; decide), ?_⟩
      obtain ⟨wy, ewy⟩ := Int.eq_ofNat_of_zero_le (Int.emod_nonneg c (by decide : (12 : Int) ≠ 0))
      dsimp only
      rw [ewy]
      refine ⟨_, rfl, Nat.zero_le _, fun l1 hl1 => ?_⟩
      have s2 : Same H1 (upd H1 l1 (.lst [])) := Same.upd hl1
      have el1 : upd H1 l1 (.lst []) l1 = some (.lst []) := upd_same
      generalize upd H1 l1 (.lst []) = H2 at s2 el1 ⊢
      refine ⟨dT F, .list [], (gF1.mono s2).da, .lst trivial (SqL.of el1) .nil, ⟨(lay_dT F).1, rfl, (lay_dT F).2⟩, _, rfl, ?_⟩
      rw [show PyData.eqv (dT F) (.list []) = decide (F = []) from eqv_nil _ _]
      by_cases hF0 : F = []
      · exact itDP hF0 (iteT ⟨_, rfl, q D F H2 (s1.trans s2) (gF1.mono s2) tE⟩)
      refine itDN hF0 ?_
      have N0 : 0 < F.length := List.length_pos_iff.mpr hF0
      obtain ⟨fs0, hfs0⟩ := get_lt N0
      obtain ⟨x0, hx0⟩ := get_lt (l := X) (i := 0) (by omega)
      obtain ⟨r0, hr0⟩ := get_lt (l := rs) (i := 0) (by omega)
      have er0 := hrow 0 r0 x0 hr0 hx0
      have fr0 := (fX 0 x0 fs0 hx0 hfs0).mono s1
      have lf0 := (hF fs0 (mem_of_getElem? hfs0)).1
      have lx0 : x0.length = C := by rw [fr0.1, lf0]
      have at0 : atI (rs.map V.ref) 0 = some (.ref r0) := atI_nat (j := 0) (by rw [getElem?_map, hr0]; rfl)
      refine ⟨_, rfl, D, _, _, .ref r0, rfl, rfl, SqL.of (s2 _ _ eD), at0, Nat.zero_le _, fun l2 hl2 => ?_⟩
      have s3 : Same H2 (upd H2 l2 (.lst [])) := Same.upd hl2
      have el2 : upd H2 l2 (.lst []) l2 = some (.lst []) := upd_same
      generalize upd H2 l2 (.lst []) = H3 at s3 el2 ⊢
      have s13 := s2.trans s3
      refine ⟨.list (fs0.map dF), .list [], .lst trivial (SqL.of (s13 _ _ er0)) (fr0.mono s13).das, .lst trivial (SqL.of el2) .nil, ⟨?_, rfl, ?_⟩, _, rfl, ?_⟩
      · simp only [PyData.canLay0, (lay_dFs fs0).1]
      · have := (lay_dFs fs0).2
        simp only [PyData.depth]
        omega
      rw [eqv_nil]
      have sH3 := s1.trans s13
      have gF3 := gF1.mono s13
      by_cases hC0 : fs0 = []
      · exact itDP hC0 (iteT ⟨_, rfl, q D F H3 sH3 gF3 tE⟩)
      refine itDN hC0 ?_
      have C0 : 0 < C := by rw [← lf0]; exact List.length_pos_iff.mpr hC0
      refine ⟨_, rfl, _, _, rfl, rfl, _, rfl, ?_⟩
      by_cases h8 : (8 : Int) < (wy : Int)
      · exact itDP h8 ⟨_, rfl, q D F H3 sH3 gF3 tE⟩
      refine itDN h8 ?_
      have g3 := g1.keep s13
      have eD3 := s13 _ _ eD
      have lrs : rs.length = F.length := by rw [lr, lX]
      generalize F.length = N at g3 N0 lrs hN
      have hlen : ((rs.map V.ref).length : Int) = (N : Int) := by rw [length_map, lrs]
      refine ⟨_, rfl, _, _, rfl, rfl, ⟨by decide, by decide⟩, _, rfl, D, _, rfl, .inl (SqL.of eD3), _, _, rfl, rfl, (by rw [hlen]; omega), ?_⟩
      dsimp only
      rw [hlen]
      obtain ⟨u, eu⟩ := Int.eq_ofNat_of_zero_le (Int.emod_nonneg (c / 12) (by omega : (N : Int) ≠ 0))
      have hu : u < N := by have := Int.emod_lt_of_pos (c / 12) (by omega : (0 : Int) < (N : Int)); omega
      rw [eu]
      have hlx : (x0.length : Int) = (C : Int) := by rw [lx0]
      refine ⟨_, rfl, _, _, rfl, rfl, ⟨by decide, by decide⟩, _, rfl, D, _, _, .ref r0, rfl, rfl, SqL.of eD3, at0, r0, _, rfl, .inl (SqL.of (s13 _ _ er0)), _, _, rfl, rfl, (by rw [hlx]; omega), ?_⟩
      dsimp only
      rw [hlx]
      obtain ⟨v, ev⟩ := Int.eq_ofNat_of_zero_le (Int.emod_nonneg (c / 84) (by omega : (C : Int) ≠ 0))
      have hv : v < C := by have := Int.emod_lt_of_pos (c / 84) (by omega : (0 : Int) < (C : Int)); omega
      rw [ev]
      refine ⟨_, rfl, _, _, rfl, rfl, ⟨by decide, by decide⟩, _, rfl, D, _, _, .ref r0, rfl, rfl, SqL.of eD3, at0, r0, _, rfl, .inl (SqL.of (s13 _ _ er0)), _, _, rfl, rfl, (by rw [hlx]; omega), ?_⟩
      dsimp only
      rw [hlx]
      obtain ⟨x, ex⟩ := Int.eq_ofNat_of_zero_le (Int.emod_nonneg (c / 588) (by omega : (C : Int) ≠ 0))
      have hx : x < C := by have := Int.emod_lt_of_pos (c / 588) (by omega : (0 : Int) < (C : Int)); omega
      rw [ex]
      clear gF1 g1 gF3 tE hrow fX RX hF lX
      have iu : ixN N (u : Int) = some u := ixN_nat hu
      have iv : ixN C (v : Int) = some v := ixN_nat hv
      have ix : ixN C (x : Int) = some x := ixN_nat hx
      refine ⟨_, rfl, rfl, _, rfl, ?_⟩
      by_cases hk0 : wy = 0
      · refine itDP (by rw [hk0]; rfl) ?_
        refine ⟨_, rfl, _, rfl, _, rfl, D, _, rfl, SqL.of eD3, fun p1 hp1 => ?_⟩
        obtain ⟨m1, c1, c2, c3⟩ := cut_refs rs none (some (u : Int))
        rw [c1]
        have s4 : Same H3 (upd H3 p1 (.lst (m1.map V.ref))) := Same.upd hp1
        have ep1 : upd H3 p1 (.lst (m1.map V.ref)) p1 = some (.lst (m1.map V.ref)) := upd_same
        generalize upd H3 p1 (.lst (m1.map V.ref)) = H4 at s4 ep1 ⊢
        refine ⟨_, rfl, _, rfl, _, _, rfl, rfl, _, rfl, D, _, rfl, SqL.of (s4 _ _ eD3), fun p2 hp2 => ?_⟩
        obtain ⟨m2, d1, d2, d3⟩ := cut_refs rs (some ((u : Int) + 1)) none
        rw [d1]
        have s5 : Same H4 (upd H4 p2 (.lst (m2.map V.ref))) := Same.upd hp2
        have ep2 : upd H4 p2 (.lst (m2.map V.ref)) p2 = some (.lst (m2.map V.ref)) := upd_same
        generalize upd H4 p2 (.lst (m2.map V.ref)) = H5 at s5 ep2 ⊢
        refine ⟨p1, p2, _, _, rfl, rfl, s5 _ _ ep1, ep2, Nat.le_of_lt (small1000 (by rw [length_map, length_map]; omega)), fun p3 hp3 => ?_⟩
        rw [← map_append]
        have s6 : Same H5 (upd H5 p3 (.lst ((m1 ++ m2).map V.ref))) := Same.upd hp3
        have s36 := (s4.trans s5).trans s6
        obtain ⟨rs', e', _, hR⟩ := (g3.keep s36).at
        rw [s36 _ _ eD3] at e'
        have er : rs = rs' := refs_inj (HO.lst.inj (Option.some.inj e'))
        subst er
        obtain ⟨F', f1, f2, f3⟩ := rows_grd (rs := m1 ++ m2) upd_same fun r hr => (hR r ((mem_append.mp hr).elim (c3 r) (d3 r))).2.2
        refine q p3 F' _ (sH3.trans s36) f1 ⟨by rw [f2, length_append]; omega, fun r hr => ?_⟩
        obtain ⟨z1, z2⟩ := f3 r hr
        have z1' : r.length = C := z1
        exact ⟨by omega, fun f hf => (z2 f hf).mono (by decide)⟩
      refine itDN (fun z => hk0 (by have := V.int.inj z; omega)) ?_
      refine ⟨JB H tA D c N C wy u v x 2, ?_, ?_⟩
      · have j1 : JB H tA D c N C wy u v x 1 [some (.ref tA), some (.int c), some (.ref D), some (.int (wy : Int)), some (.int (u : Int)), some (.int (v : Int)), some (.int (x : Int)), none, none, none, none, none, none, none] H3 := ⟨_, _, _, _, _, _, _, rfl, g3.fin (by decide) hC, fun _ => g3⟩
        refine ⟨_, rfl, rfl, _, rfl, ?_⟩
        by_cases hk : wy = 1
        case neg => exact itDN (fun z => hk (by have := V.int.inj z; omega)) (j1.skip hk)
        refine itDP (by rw [hk]; rfl) ?_
        obtain ⟨r, y, fs, p, f', mr, a1, a2, a3, a4, a5, a6, _⟩ := g3.cell eD3 iu iv
        refine ⟨_, rfl, _, rfl, D, _, _, _, rfl, rfl, SqL.of eD3, a1, _, rfl, _, rfl, r, _, rfl, SqL.of a2, fun p1 hp1 => ?_⟩
        obtain ⟨i1, j1', c1⟩ := cut_ex y none (some (v : Int))
        rw [c1]
        have s4 : Same H3 (upd H3 p1 (.lst ((y.drop i1).take j1'))) := Same.upd hp1
        have ep1 : upd H3 p1 (.lst ((y.drop i1).take j1')) p1 = some (.lst ((y.drop i1).take j1')) := upd_same
        generalize upd H3 p1 (.lst ((y.drop i1).take j1')) = H4 at s4 ep1 ⊢
        refine ⟨_, rfl, _, rfl, D, _, _, _, rfl, rfl, SqL.of (s4 _ _ eD3), a1, _, rfl, _, _, rfl, rfl, _, rfl, r, _, rfl, SqL.of (s4 _ _ a2), fun p2 hp2 => ?_⟩
        obtain ⟨i2, j2, c2⟩ := cut_ex y (some ((v : Int) + 1)) none
        rw [c2]
        have s5 : Same H4 (upd H4 p2 (.lst ((y.drop i2).take j2))) := Same.upd hp2
        have ep2 : upd H4 p2 (.lst ((y.drop i2).take j2)) p2 = some (.lst ((y.drop i2).take j2)) := upd_same
        generalize upd H4 p2 (.lst ((y.drop i2).take j2)) = H5 at s5 ep2 ⊢
        refine ⟨p1, p2, _, _, rfl, rfl, s5 _ _ ep1, ep2, Nat.le_of_lt (small1000 (by rw [length_take, length_take, length_drop, length_drop]; omega)), fun p3 hp3 => ?_⟩
        have s6 : Same H5 (upd H5 p3 (.lst ((y.drop i1).take j1' ++ (y.drop i2).take j2))) := Same.upd hp3
        have ep3 : upd H5 p3 (.lst ((y.drop i1).take j1' ++ (y.drop i2).take j2)) p3 = some (.lst ((y.drop i1).take j1' ++ (y.drop i2).take j2)) := upd_same
        have s36 := (s4.trans s5).trans s6
        have n3 : H3 p3 = none := (s4.trans s5).free hp3
        generalize upd H5 p3 (.lst ((y.drop i1).take j1' ++ (y.drop i2).take j2)) = H6 at s6 ep3 s36 ⊢
        have e6 := s36 _ _ eD3
        refine ⟨_, rfl, _, rfl, D, _, _, u, rfl, rfl, e6, by rw [length_map, lrs]; exact iu, ?_⟩
        rw [← map_set]
        have g6 := (g3.keep s36).fin (by decide) hC
        obtain ⟨rs', e', _, hR⟩ := g6.at
        rw [e6] at e'
        have er : rs = rs' := refs_inj (HO.lst.inj (Option.some.inj e'))
        subst er
        have fa := a4.mono s36
        have gb := BT.setD (c := 1000000) (Pn := (· ≤ 16)) hD g6.same e6 (rs.set u p3) fun r' hr' => by
          rcases mem_or_eq_of_mem_set hr' with m | m
          · exact hR r' m
          · subst m
            refine ⟨(fun z => by subst z; rw [eD3] at n3; cases n3), sH3.free n3, _, _, ep3, (fa.cut i1 j1').app (fa.cut i2 j2), ?_, fun g hg => ?_⟩
            · show List.length _ ≤ 16
              rw [length_append, length_take, length_take, length_drop, length_drop]
              omega
            · rcases mem_append.mp hg with m | m
              · exact (a6 g (List.mem_of_mem_drop (mem_of_mem_take m))).mono (by decide)
              · exact (a6 g (List.mem_of_mem_drop (mem_of_mem_take m))).mono (by decide)
        rw [length_set, lrs] at gb
        exact ⟨_, _, _, _, _, _, _, rfl, gb, fun z => absurd z (by omega)⟩
      rintro σ H4 ⟨o7, o8, o9, o10, o11, o12, o13, rfl, gw, gx⟩
      refine ⟨JB H tA D c N C wy u v x 3, ?_, ?_⟩
      · refine ⟨_, rfl, rfl, _, rfl, ?_⟩
        by_cases hk : wy = 2
        case neg => exact itDN (fun z => hk (by have := V.int.inj z; omega)) (JB.skip ⟨_, _, _, _, _, _, _, rfl, gw, gx⟩ hk)
        refine itDP (by rw [hk]; rfl) ?_
        have g4 := gx (by omega)
        obtain ⟨qs, eD4, lqs, hR⟩ := g4.at
        have hlq : ((qs.map V.ref).length : Int) = (N : Int) := by rw [length_map, lqs]
        refine ⟨_, rfl, _, _, rfl, rfl, ⟨by decide, by decide⟩, _, rfl, D, _, rfl, .inl (SqL.of eD4), _, _, rfl, rfl, (by rw [hlq]; omega), ?_⟩
        dsimp only
        rw [hlq]
        obtain ⟨u2, eu2⟩ := Int.eq_ofNat_of_zero_le (Int.emod_nonneg (c / 84) (by omega : (N : Int) ≠ 0))
        have hu2 : u2 < N := by have := Int.emod_lt_of_pos (c / 84) (by omega : (0 : Int) < (N : Int)); omega
        rw [eu2]
        obtain ⟨r1, h1⟩ := get_lt (l := qs) (i := u) (by omega)
        obtain ⟨r2, h2⟩ := get_lt (l := qs) (i := u2) (by omega)
        refine ⟨_, rfl, _, rfl, D, _, _, _, rfl, rfl, SqL.of eD4, at_ref h2, _, rfl, _, rfl, D, _, _, _, rfl, rfl, SqL.of eD4, at_ref h1, sz2, fun t ht => ?_⟩
        have s5 : Same H4 (upd H4 t (.tup [.ref r2, .ref r1])) := Same.upd ht
        have et : upd H4 t (.tup [.ref r2, .ref r1]) t = some (.tup [.ref r2, .ref r1]) := upd_same
        generalize upd H4 t (.tup [.ref r2, .ref r1]) = H5 at s5 et ⊢
        have e5 := s5 _ _ eD4
        refine ⟨t, _, rfl, SqT.of et, rfl, _, _, rfl, _, rfl, _, rfl, D, _, _, u, rfl, rfl, e5, by rw [length_map, lqs]; exact iu, ?_⟩
        refine ⟨_, _, rfl, _, rfl, _, rfl, D, _, _, u2, rfl, rfl, upd_same, by rw [length_set, length_map, lqs]; exact ixN_nat hu2, rfl, ?_⟩
        rw [upd_upd, ← map_set, ← map_set]
        have g5 := (g4.keep s5).fin (by decide) hC
        obtain ⟨rs', e', _, hR5⟩ := g5.at
        rw [e5] at e'
        have er : qs = rs' := refs_inj (HO.lst.inj (Option.some.inj e'))
        subst er
        have gb := BT.setD (c := 1000000) (Pn := (· ≤ 16)) hD g5.same e5 ((qs.set u r2).set u2 r1) fun r' hr' => by
          rcases mem_or_eq_of_mem_set hr' with m | m
          · rcases mem_or_eq_of_mem_set m with m | m
            · exact hR5 r' m
            · rw [m]; exact hR5 r2 (mem_of_getElem? h2)
          · rw [m]; exact hR5 r1 (mem_of_getElem? h1)
        rw [length_set, length_set, lqs] at gb
        exact ⟨_, _, _, _, _, _, _, rfl, gb, fun z => absurd z (by omega)⟩
      rintro σ H4 ⟨o7, o8, o9, o10, o11, o12, o13, rfl, gw, gx⟩
      refine ⟨JB H tA D c N C wy u v x 4, ?_, ?_⟩
      · refine ⟨_, rfl, rfl, _, rfl, ?_⟩
        by_cases hk : wy = 3
        case neg => exact itDN (fun z => hk (by have := V.int.inj z; omega)) (JB.skip ⟨_, _, _, _, _, _, _, rfl, gw, gx⟩ hk)
        refine itDP (by rw [hk]; rfl) ?_
        have g4 := gx (by omega)
        obtain ⟨qs, eD4, lqs, hR⟩ := g4.at
        obtain ⟨r, y, fs, p, f', mr, a1, a2, a3, a4, a5, a6, a7, a8, a9⟩ := g4.cell eD4 iu iv
        obtain ⟨r', y', fs', p', f'', mr', b1, b2, b3, b4, b5, b6, b7, b8, b9⟩ := g4.cell eD4 iu ix
        rw [a1] at b1
        cases b1
        rw [a2] at b2
        cases b2
        refine asg_in (tup_in (cons_in (rd2 rfl rfl rfl eD4 a1 a2 b7 (cons_in (rd2 rfl rfl rfl eD4 a1 a2 a7 ?_)))))
        refine ⟨sz2, fun t ht => ?_⟩
        have s5 : Same H4 (upd H4 t (.tup [.ref p', .ref p])) := Same.upd ht
        have et : upd H4 t (.tup [.ref p', .ref p]) t = some (.tup [.ref p', .ref p]) := upd_same
        generalize upd H4 t (.tup [.ref p', .ref p]) = H5 at s5 et ⊢
        have nDr : D ≠ r := ((hR r mr).1).symm
        refine ⟨t, _, rfl, SqT.of et, rfl, _, _, rfl, st2 rfl rfl rfl (s5 _ _ eD4) a1 (s5 _ _ a2) (by rw [a3]; exact iv) ?_⟩
        have g6 := (g4.keep s5).putc (s5 _ _ eD4) mr (s5 _ _ a2) (a4.mono s5) a5 a6 (s5 _ _ b8) b9 (Nat.le_refl _) v
        have e6 : upd H5 r (.lst (y.set v (.ref p'))) D = some (.lst (qs.map V.ref)) := by rw [upd_ne nDr]; exact s5 _ _ eD4
        have er6 : upd H5 r (.lst (y.set v (.ref p'))) r = some (.lst (y.set v (.ref p'))) := upd_same
        have ep6 : upd H5 r (.lst (y.set v (.ref p'))) p = some (tupF f') := by rw [upd_ne (fun z => by subst z; rw [a2] at a8; cases a8)]; exact s5 _ _ a8
        have fr6 : FrAt (upd H5 r (.lst (y.set v (.ref p')))) (y.set v (.ref p')) (fs.set v f'') := ((a4.mono s5).set (s5 _ _ b8) v).over (s5 _ _ a2)
        generalize upd H5 r (.lst (y.set v (.ref p'))) = H6 at g6 e6 er6 ep6 fr6 ⊢
        refine ⟨_, _, rfl, st2 rfl rfl rfl e6 a1 er6 (by rw [length_set, a3]; exact ix) ⟨rfl, ?_⟩⟩
        have g7 := g6.putc e6 mr er6 fr6 (by rw [length_set]; exact a5) (fun g hg => by
          rcases mem_or_eq_of_mem_set hg with m | m
          · exact a6 g m
          · rw [m]; exact b9) ep6 a9 (Nat.le_refl _) x
        exact ⟨_, _, _, _, _, _, _, rfl, g7.fin (by decide) hC, fun z => absurd z (by omega)⟩
      rintro σ H4 ⟨o7, o8, o9, o10, o11, o12, o13, rfl, gw, gx⟩
      refine ⟨JB H tA D c N C wy u v x 5, ?_, ?_⟩
      · refine ⟨_, rfl, rfl, _, rfl, ?_⟩
        by_cases hk : wy = 4
        case neg => exact itDN (fun z => hk (by have := V.int.inj z; omega)) (JB.skip ⟨_, _, _, _, _, _, _, rfl, gw, gx⟩ hk)
        refine itDP (by rw [hk]; rfl) ?_
        have g4 := gx (by omega)
        obtain ⟨qs, eD4, lqs, hR⟩ := g4.at
        obtain ⟨r, y, fs, p, f', mr, a1, a2, a3, a4, a5, a6, a7, a8, a9⟩ := g4.cell eD4 iu iv
        have nDr : D ≠ r := ((hR r mr).1).symm
        refine seq_in (asg_in (rd2 rfl rfl rfl eD4 a1 a2 a7 ?_))
        refine ⟨p, _, rfl, SqT.of a8, rfl, _, _, rfl, _, _, rfl, rfl, ?_⟩
        obtain ⟨b1, b2⟩ := a9.bend (k := 7) (s := -1) (by decide) (by decide) (by decide)
        have bs : f'.2.natAbs ≤ 100 := by have := a9.1; have := a9.2.1; omega
        refine ⟨_, rfl, _, _, rfl, rfl, cmul_r (by decide) (by decide), _, rfl, _, _, rfl, rfl, _, rfl, _, _, rfl, rfl, cmul_l (by decide) (by decide), ?_⟩
        refine ⟨_, _, rfl, b1, small_bn (by show (7 * f'.2).natAbs ≤ _; omega), fun p' H5 s5 n5 e5 => ?_⟩
        rw [show f'.1 * 7 - f'.2 = f'.1 * 7 + -1 * f'.2 by omega] at e5
        refine st2 rfl rfl rfl (s5 _ _ eD4) a1 (s5 _ _ a2) (by rw [a3]; exact iv) ?_
        have g6 := (g4.keep s5).putc (c' := 800) (s5 _ _ eD4) mr (s5 _ _ a2) (a4.mono s5) a5 a6 e5 b2 (by decide) v
        have e6 : upd H5 r (.lst (y.set v (.ref p'))) D = some (.lst (qs.map V.ref)) := by rw [upd_ne nDr]; exact s5 _ _ eD4
        generalize upd H5 r (.lst (y.set v (.ref p'))) = H6 at g6 e6 ⊢
        obtain ⟨r', y', fs', p2, f2, mr', d1, d2, d3, d4, d5, d6, d7, d8, d9⟩ := g6.cell e6 iu ix
        have nDr' : D ≠ r' := ((hR r' mr').1).symm
        refine seq_in (asg_in (rd2 rfl rfl rfl e6 d1 d2 d7 ?_))
        refine ⟨p2, _, rfl, SqT.of d8, rfl, _, _, rfl, _, _, rfl, rfl, ?_⟩
        obtain ⟨h1, h2⟩ := d9.bend (k := 7) (s := 1) (by decide) (by decide) (by decide)
        have bs2 : f2.2.natAbs ≤ 800 := by have := d9.1; have := d9.2.1; omega
        refine ⟨_, rfl, _, _, rfl, rfl, cmul_r (by decide) (by decide), _, rfl, _, _, rfl, rfl, _, rfl, _, _, rfl, rfl, cmul_l (by decide) (by decide), ?_⟩
        refine ⟨_, _, rfl, h1, small_bn (by show (7 * f2.2).natAbs ≤ _; omega), fun p3 H7 s7 n7 e7 => ?_⟩
        rw [show f2.1 * 7 + f2.2 = f2.1 * 7 + 1 * f2.2 by omega] at e7
        refine st2 rfl rfl rfl (s7 _ _ e6) d1 (s7 _ _ d2) (by rw [d3]; exact ix) ?_
        have g8 := (g6.keep s7).putc (c' := 6400) (s7 _ _ e6) mr' (s7 _ _ d2) (d4.mono s7) d5 d6 e7 h2 (by decide) x
        exact ⟨_, _, _, _, _, _, _, rfl, g8.fin (by decide) hC, fun z => absurd z (by omega)⟩
      rintro σ H4 ⟨o7, o8, o9, o10, o11, o12, o13, rfl, gw, gx⟩
      refine ⟨JB H tA D c N C wy u v x 6, ?_, ?_⟩
      · refine ⟨_, rfl, rfl, _, rfl, ?_⟩
        by_cases hk : wy = 5
        case neg => exact itDN (fun z => hk (by have := V.int.inj z; omega)) (JB.skip ⟨_, _, _, _, _, _, _, rfl, gw, gx⟩ hk)
        refine itDP (by rw [hk]; rfl) ?_
        have g4 := gx (by omega)
        obtain ⟨qs, eD4, lqs, hR⟩ := g4.at
        obtain ⟨r, y, fs, p, f', mr, a1, a2, a3, a4, a5, a6, a7, a8, a9⟩ := g4.cell eD4 iu iv
        refine ⟨_, rfl, _, rfl, D, _, _, _, rfl, rfl, SqL.of eD4, a1, .inl ⟨rfl, _, SqL.of a2⟩, sz2, fun t ht => ?_⟩
        have s5 : Same H4 (upd H4 t (.tup [.int 0, .int 1])) := Same.upd ht
        have et : upd H4 t (.tup [.int 0, .int 1]) t = some (tupF (0, 1)) := upd_same
        generalize upd H4 t (.tup [.int 0, .int 1]) = H5 at s5 et ⊢
        refine ⟨r, _, _, rfl, rfl, s5 _ _ a2, small1000 (by omega), ?_⟩
        have f1 : FrAt H5 [.ref t] [(0, 1)] := ⟨rfl, fun i v f h1 h2 => by
          cases i with
          | zero => cases h1; cases h2; exact ⟨t, rfl, et⟩
          | succ i => cases h1⟩
        have g6 := (g4.keep s5).put (c' := 1000000) (Pn' := (· ≤ 16)) (s5 _ _ eD4) mr (s5 _ _ a2) ((a4.mono s5).app f1) (by show List.length _ ≤ 16; rw [length_append, a5]; show C + 1 ≤ 16; omega) (fun g hg => by
          rcases mem_append.mp hg with m | m
          · exact (a6 g m).mono (by decide)
          · rw [mem_singleton.mp m]; exact ⟨by decide, by decide, by decide⟩) (by decide) (fun n z => by have z' : n = C := z; show n ≤ 16; omega)
        exact ⟨_, _, _, _, _, _, _, rfl, g6, fun z => absurd z (by omega)⟩
      rintro σ H4 ⟨o7, o8, o9, o10, o11, o12, o13, rfl, gw, gx⟩
      refine ⟨JB H tA D c N C wy u v x 7, ?_, ?_⟩
      · refine ⟨_, rfl, rfl, _, rfl, ?_⟩
        by_cases hk : wy = 6
        case neg => exact itDN (fun z => hk (by have := V.int.inj z; omega)) (iteF (JB.skip ⟨_, _, _, _, _, _, _, rfl, gw, gx⟩ hk))
        refine itDP (by rw [hk]; rfl) ?_
        refine ⟨_, rfl, _, _, rfl, rfl, _, rfl, ?_⟩
        by_cases hu0 : (0 : Int) < (u : Int)
        case neg => exact itDN hu0 ⟨_, _, _, _, _, _, _, rfl, gw, fun z => absurd z (by omega)⟩
        refine itDP hu0 ?_
        have g4 := gx (by omega)
        obtain ⟨qs, eD4, lqs, hR⟩ := g4.at
        have eu1 : (u : Int) - 1 = ((u - 1 : Nat) : Int) := by omega
        have iu1 : ixN N ((u : Int) - 1) = some (u - 1) := by rw [eu1]; exact ixN_nat (by omega)
        refine ⟨_, rfl, _, rfl, sz3, fun t1 ht1 => ?_⟩
        have s5 : Same H4 (upd H4 t1 (.tup [.int (u : Int), .int (v : Int), .int 1])) := Same.upd ht1
        have et1 : upd H4 t1 (.tup [.int (u : Int), .int (v : Int), .int 1]) t1 = some (.tup [.int (u : Int), .int (v : Int), .int 1]) := upd_same
        generalize upd H4 t1 (.tup [.int (u : Int), .int (v : Int), .int 1]) = H5 at s5 et1 ⊢
        refine ⟨_, rfl, _, _, rfl, rfl, _, rfl, sz3, fun t2 ht2 => ?_⟩
        have s6 : Same H5 (upd H5 t2 (.tup [.int ((u : Int) - 1), .int (x : Int), .int 1])) := Same.upd ht2
        have et2 : upd H5 t2 (.tup [.int ((u : Int) - 1), .int (x : Int), .int 1]) t2 = some (.tup [.int ((u : Int) - 1), .int (x : Int), .int 1]) := upd_same
        generalize upd H5 t2 (.tup [.int ((u : Int) - 1), .int (x : Int), .int 1]) = H6 at s6 et2 ⊢
        refine ⟨_, rfl, _, rfl, _, rfl, sz3, fun t3 ht3 => ?_⟩
        have s7 : Same H6 (upd H6 t3 (.tup [.int (u : Int), .int (x : Int), .int (-1)])) := Same.upd ht3
        have et3 : upd H6 t3 (.tup [.int (u : Int), .int (x : Int), .int (-1)]) t3 = some (.tup [.int (u : Int), .int (x : Int), .int (-1)]) := upd_same
        generalize upd H6 t3 (.tup [.int (u : Int), .int (x : Int), .int (-1)]) = H7 at s7 et3 ⊢
        refine ⟨_, rfl, _, _, rfl, rfl, _, rfl, _, rfl, sz3, fun t4 ht4 => ?_⟩
        have s8 : Same H7 (upd H7 t4 (.tup [.int ((u : Int) - 1), .int (v : Int), .int (-1)])) := Same.upd ht4
        have et4 : upd H7 t4 (.tup [.int ((u : Int) - 1), .int (v : Int), .int (-1)]) t4 = some (.tup [.int ((u : Int) - 1), .int (v : Int), .int (-1)]) := upd_same
        generalize upd H7 t4 (.tup [.int ((u : Int) - 1), .int (v : Int), .int (-1)]) = H8 at s8 et4 ⊢
        refine ⟨sz4, fun L hL => ?_⟩
        have s9 : Same H8 (upd H8 L (.lst [.ref t1, .ref t2, .ref t3, .ref t4])) := Same.upd hL
        have eL : upd H8 L (.lst [.ref t1, .ref t2, .ref t3, .ref t4]) L = some (.lst [.ref t1, .ref t2, .ref t3, .ref t4]) := upd_same
        generalize upd H8 L (.lst [.ref t1, .ref t2, .ref t3, .ref t4]) = H9 at s9 eL ⊢
        have s48 := ((s5.trans s6).trans s7).trans s8
        have s49 := s48.trans s9
        have rsome : ∀ r ∈ qs, ∃ y, H4 r = some (.lst y) := fun r hr => let ⟨_, _, y, _, e, _⟩ := hR r hr; ⟨y, e⟩
        have out : ∀ {a : Addr} {Ha : Hp}, Same H4 Ha → Ha a = none → a ∉ qs := fun {a Ha} sa ha m => by
          obtain ⟨y, e⟩ := rsome a m
          rw [sa _ _ e] at ha
          cases ha
        have hts : ∀ vv ∈ [V.ref t1, V.ref t2, V.ref t3, V.ref t4], ∃ (t : Addr) (ka kb ks : Int) (ja jb : Nat), vv = .ref t ∧ t ∉ qs ∧ H9 t = some (.tup [.int ka, .int kb, .int ks]) ∧ ixN N ka = some ja ∧ ixN C kb = some jb ∧ ks.natAbs ≤ 1 := fun vv hvv => by
          simp only [mem_cons, not_mem_nil, or_false] at hvv
          rcases hvv with rfl | rfl | rfl | rfl
          · exact ⟨t1, _, _, _, _, _, rfl, out (Same.refl _) ht1, s9 _ _ (s8 _ _ (s7 _ _ (s6 _ _ et1))), iu, iv, by decide⟩
          · exact ⟨t2, _, _, _, _, _, rfl, out s5 ht2, s9 _ _ (s8 _ _ (s7 _ _ et2)), iu1, ix, by decide⟩
          · exact ⟨t3, _, _, _, _, _, rfl, out (s5.trans s6) ht3, s9 _ _ (s8 _ _ et3), iu, ix, by decide⟩
          · exact ⟨t4, _, _, _, _, _, rfl, out ((s5.trans s6).trans s7) ht4, s9 _ _ et4, iu1, iv, by decide⟩
        have nLq : L ∉ qs := out s48 hL
        have nDq : D ∉ qs := fun m => (hR D m).1 rfl
        refine ⟨L, rfl, ⟨_, SqL.of eL⟩, for_list (xs := [.ref t1, .ref t2, .ref t3, .ref t4]) (fun i σ H' => ∃ (p8 p9 p10 p11 p12 : Option V), σ = [some (.ref tA), some (.int c), some (.ref D), some (.int (wy : Int)), some (.int (u : Int)), some (.int (v : Int)), some (.int (x : Int)), o7, p8, p9, p10, p11, p12, o13] ∧ BT H D N (100 * 8 ^ i) (· = C) H' ∧ ∀ a o, H9 a = some o → a ∉ qs → H' a = some o)
          ⟨_, _, _, _, _, rfl, g4.keep s49, fun _ _ e _ => e⟩ (fun i σ H' _ ⟨_, _, _, _, _, _, _, kp⟩ => SqL.of (kp _ _ eL nLq)) ?_ ?_⟩
        · rintro i vv σ Ha hvv ⟨p8, p9, p10, p11, p12, rfl, ga, kp⟩
          obtain ⟨t, ka, kb, ks, ja, jb, rfl, nt, et, ika, ikb, hks⟩ := hts vv (mem_of_getElem? hvv)
          have eDa := kp _ _ (s49 _ _ eD4) nDq
          refine ⟨t, _, rfl, SqT.of (kp _ _ et nt), rfl, _, _, rfl, _, _, rfl, _, _, rfl, rfl, ?_⟩
          obtain ⟨r, y, fs, p, f', mr, a1, a2, a3, a4, a5, a6, a7, a8, a9⟩ := ga.cell eDa ika ikb
          refine seq_in (asg_in (rd2 rfl rfl rfl eDa a1 a2 a7 ?_))
          refine ⟨p, _, rfl, SqT.of a8, rfl, _, _, rfl, _, _, rfl, rfl, ?_⟩
          obtain ⟨b1, b2⟩ := a9.bend (k := 3) (s := ks) (by decide) (by decide) hks
          have hi4 : i < 4 := by have := lt_get hvv; simpa using this
          have pw : 100 * 8 ^ i ≤ 51200 := Nat.le_trans (Nat.mul_le_mul_left 100 (Nat.pow_le_pow_right (by decide) (show i ≤ 3 by omega))) (by decide)
          have bs : f'.2.natAbs ≤ 51200 := by have := a9.1; have := a9.2.1; omega
          refine ⟨_, rfl, _, _, rfl, rfl, cmul_r (by decide) (by decide), _, rfl, _, rfl, _, _, rfl, rfl, cmul_l (by omega) (by omega), _, _, rfl, rfl, _, rfl, _, _, rfl, rfl, cmul_l (by decide) (by decide), ?_⟩
          refine ⟨_, _, rfl, b1, small_bn (by show (3 * f'.2).natAbs ≤ _; omega), fun p' Hb sb nb eb => ?_⟩
          refine st2 rfl rfl rfl (sb _ _ eDa) a1 (sb _ _ a2) (by rw [a3]; exact ikb) ?_
          have gc := (ga.keep sb).putc (c' := 8 * (100 * 8 ^ i)) (sb _ _ eDa) mr (sb _ _ a2) (a4.mono sb) a5 a6 eb b2 (by omega) jb
          refine ⟨_, _, _, _, _, rfl, ?_, fun a o e na => ?_⟩
          · rw [Nat.pow_succ, show 100 * (8 ^ i * 8) = 8 * (100 * 8 ^ i) by omega]
            exact gc
          · rw [upd_ne (fun z => na (by rw [z]; exact mr))]
            exact sb _ _ (kp a o e na)
        · rintro σ Ha ⟨p8, p9, p10, p11, p12, rfl, ga, kp⟩
          refine ⟨_, _, _, _, _, _, _, rfl, ?_, fun z => absurd z (by omega)⟩
          exact ga.weak (show 100 * 8 ^ 4 ≤ 1000000 by decide) (fun n z => by have z' : n = C := z; show n ≤ 16; omega)
      rintro σ H4 ⟨o7, o8, o9, o10, o11, o12, o13, rfl, gw, gx⟩
      refine ⟨JB H tA D c N C wy u v x 8, ?_, ?_⟩
      · refine ⟨_, rfl, rfl, _, rfl, ?_⟩
        by_cases hk : wy = 7
        case neg => exact itDN (fun z => hk (by have := V.int.inj z; omega)) (JB.skip ⟨_, _, _, _, _, _, _, rfl, gw, gx⟩ hk)
        refine itDP (by rw [hk]; rfl) ?_
        have g4 := gx (by omega)
        obtain ⟨qs, eD4, lqs, hR⟩ := g4.at
        have hlq : ((qs.map V.ref).length : Int) = (N : Int) := by rw [length_map, lqs]
        refine ⟨_, rfl, sz2, fun t1 ht1 => ?_⟩
        have s5 : Same H4 (upd H4 t1 (.tup [.int (u : Int), .int 1])) := Same.upd ht1
        have et1 : upd H4 t1 (.tup [.int (u : Int), .int 1]) t1 = some (.tup [.int (u : Int), .int 1]) := upd_same
        generalize upd H4 t1 (.tup [.int (u : Int), .int 1]) = H5 at s5 et1 ⊢
        refine ⟨_, rfl, _, _, rfl, rfl, ⟨by decide, by decide⟩, _, rfl, D, _, rfl, .inl (SqL.of (s5 _ _ eD4)), _, _, rfl, rfl, (by rw [hlq]; omega), ?_⟩
        dsimp (config := { proj := false }) only
        rw [hlq]
        obtain ⟨u2, eu2⟩ := Int.eq_ofNat_of_zero_le (Int.emod_nonneg (c / 588) (by omega : (N : Int) ≠ 0))
        have hu2 : u2 < N := by have := Int.emod_lt_of_pos (c / 588) (by omega : (0 : Int) < (N : Int)); omega
        rw [eu2]
        refine ⟨_, rfl, sz2, fun t2 ht2 => ?_⟩
        have s6 : Same H5 (upd H5 t2 (.tup [.int (u2 : Int), .int (-1)])) := Same.upd ht2
        have et2 : upd H5 t2 (.tup [.int (u2 : Int), .int (-1)]) t2 = some (.tup [.int (u2 : Int), .int (-1)]) := upd_same
        generalize upd H5 t2 (.tup [.int (u2 : Int), .int (-1)]) = H6 at s6 et2 ⊢
        refine ⟨sz2, fun L hL => ?_⟩
        have s9 : Same H6 (upd H6 L (.lst [.ref t1, .ref t2])) := Same.upd hL
        have eL : upd H6 L (.lst [.ref t1, .ref t2]) L = some (.lst [.ref t1, .ref t2]) := upd_same
        generalize upd H6 L (.lst [.ref t1, .ref t2]) = H9 at s9 eL ⊢
        have s48 := s5.trans s6
        have s49 := s48.trans s9
        have rsome : ∀ r ∈ qs, ∃ y, H4 r = some (.lst y) := fun r hr => let ⟨_, _, y, _, e, _⟩ := hR r hr; ⟨y, e⟩
        have out : ∀ {a : Addr} {Ha : Hp}, Same H4 Ha → Ha a = none → a ∉ qs := fun {a Ha} sa ha m => by
          obtain ⟨y, e⟩ := rsome a m
          rw [sa _ _ e] at ha
          cases ha
        have hts : ∀ vv ∈ [V.ref t1, V.ref t2], ∃ (t : Addr) (ka ks : Int) (ja : Nat), vv = .ref t ∧ t ∉ qs ∧ H9 t = some (.tup [.int ka, .int ks]) ∧ ixN N ka = some ja ∧ ks.natAbs ≤ 1 := fun vv hvv => by
          simp only [mem_cons, not_mem_nil, or_false] at hvv
          rcases hvv with rfl | rfl
          · exact ⟨t1, _, _, _, rfl, out (Same.refl _) ht1, s9 _ _ (s6 _ _ et1), iu, by decide⟩
          · exact ⟨t2, _, _, _, rfl, out s5 ht2, s9 _ _ et2, ixN_nat hu2, by decide⟩
        have nLq : L ∉ qs := out s48 hL
        have nDq : D ∉ qs := fun m => (hR D m).1 rfl
        refine ⟨L, rfl, ⟨_, SqL.of eL⟩, ?_⟩
        refine for_list (K := K) (xs := [.ref t1, .ref t2]) (fun i σ H' => ∃ (p8 p9 p10 p12 : Option V), σ = [some (.ref tA), some (.int c), some (.ref D), some (.int (wy : Int)), some (.int (u : Int)), some (.int (v : Int)), some (.int (x : Int)), o7, p8, p9, p10, o11, p12, o13] ∧ BT H D N (100 * 8 ^ i) (· = C) H' ∧ ∀ a o, H9 a = some o → a ∉ qs → H' a = some o)
          ⟨o8, o9, o10, o12, rfl, g4.keep s49, fun _ _ e _ => e⟩ (fun i σ H' _ ⟨_, _, _, _, _, _, kp⟩ => SqL.of (kp _ _ eL nLq)) ?_ ?_
        · rintro i vv σ Ha hvv ⟨p8, p9, p10, p12, rfl, ga, kp⟩
          obtain ⟨t, ka, ks, ja, rfl, nt, et, ika, hks⟩ := hts vv (mem_of_getElem? hvv)
          have eDa := kp _ _ (s49 _ _ eD4) nDq
          refine ⟨t, _, rfl, SqT.of (kp _ _ et nt), rfl, _, _, rfl, _, _, rfl, rfl, ?_⟩
          obtain ⟨r, y, fs, p, f', mr, a1, a2, a3, a4, a5, a6, a7, a8, a9⟩ := ga.cell eDa ika iv
          refine seq_in (asg_in (rd2 rfl rfl rfl eDa a1 a2 a7 ?_))
          refine ⟨p, _, rfl, SqT.of a8, rfl, _, _, rfl, _, _, rfl, rfl, ?_⟩
          obtain ⟨b1, b2⟩ := a9.bend (k := 3) (s := ks) (by decide) (by decide) hks
          have hi4 : i < 2 := by have := lt_get hvv; simpa using this
          have pw : 100 * 8 ^ i ≤ 51200 := Nat.le_trans (Nat.mul_le_mul_left 100 (Nat.pow_le_pow_right (by decide) (show i ≤ 3 by omega))) (by decide)
          have bs : f'.2.natAbs ≤ 51200 := by have := a9.1; have := a9.2.1; omega
          refine ⟨_, rfl, _, _, rfl, rfl, cmul_r (by decide) (by decide), _, rfl, _, rfl, _, _, rfl, rfl, cmul_l (by omega) (by omega), _, _, rfl, rfl, _, rfl, _, _, rfl, rfl, cmul_l (by decide) (by decide), ?_⟩
          refine ⟨_, _, rfl, b1, small_bn (by show (3 * f'.2).natAbs ≤ _; omega), fun p' Hb sb nb eb => ?_⟩
          refine st2 rfl rfl rfl (sb _ _ eDa) a1 (sb _ _ a2) (by rw [a3]; exact iv) ?_
          have gc := (ga.keep sb).putc (c' := 8 * (100 * 8 ^ i)) (sb _ _ eDa) mr (sb _ _ a2) (a4.mono sb) a5 a6 eb b2 (by omega) v
          refine ⟨_, _, _, _, rfl, ?_, fun a o e na => ?_⟩
          · rw [Nat.pow_succ, show 100 * (8 ^ i * 8) = 8 * (100 * 8 ^ i) by omega]
            exact gc
          · rw [upd_ne (fun z => na (by rw [z]; exact mr))]
            exact sb _ _ (kp a o e na)
        · rintro σ Ha ⟨p8, p9, p10, p12, rfl, ga, kp⟩
          refine ⟨_, _, _, _, _, _, _, rfl, ?_, fun z => absurd z (by omega)⟩
          exact ga.weak (show 100 * 8 ^ 2 ≤ 1000000 by decide) (fun n z => by have z' : n = C := z; show n ≤ 16; omega)
      rintro σ H4 ⟨o7, o8, o9, o10, o11, o12, o13, rfl, gw, gx⟩
      refine ⟨JB H tA D c N C wy u v x 9, ?_, ?_⟩
      · refine ⟨_, rfl, rfl, _, rfl, ?_⟩
        by_cases hk : wy = 8
        case neg => exact itDN (fun z => hk (by have := V.int.inj z; omega)) (JB.skip ⟨_, _, _, _, _, _, _, rfl, gw, gx⟩ hk)
        refine itDP (by rw [hk]; rfl) ?_
        have g4 := gx (by omega)
        obtain ⟨qs, eD4, lqs, hR⟩ := g4.at
        obtain ⟨ju, iju⟩ := ixN_less hu
        obtain ⟨r, y, fs, p, f', mr, a1, a2, a3, a4, a5, a6, a7, a8, a9⟩ := g4.cell eD4 iu iv
        obtain ⟨r', y', fs', p', f2, mr', b1, b2, b3, b4, b5, b6, b7, b8, b9⟩ := g4.cell eD4 iju iv
        have nDr : D ≠ r := ((hR r mr).1).symm
        refine seq_in (asg_in (rd2 rfl rfl rfl eD4 a1 a2 a7 ?_))
        refine ⟨_, rfl, _, rfl, _, _, rfl, rfl, D, _, _, _, rfl, rfl, SqL.of eD4, b1, _, rfl, r', _, _, _, rfl, rfl, SqL.of b2, b7, ?_⟩
        refine st2 rfl rfl rfl eD4 a1 (a2) (by rw [a3]; exact iv) ?_
        have g6 := g4.putc eD4 mr a2 a4 a5 a6 b8 b9 (Nat.le_refl _) v
        have e6 : upd H4 r (.lst (y.set v (.ref p'))) D = some (.lst (qs.map V.ref)) := by rw [upd_ne nDr]; exact eD4
        have ep6 : upd H4 r (.lst (y.set v (.ref p'))) p = some (tupF f') := by rw [upd_ne (fun z => by subst z; rw [a2] at a8; cases a8)]; exact a8
        generalize upd H4 r (.lst (y.set v (.ref p'))) = H6 at g6 e6 ep6 ⊢
        obtain ⟨r3, y3, fs3, p3, f3, mr3, d1, d2, d3, d4, d5, d6, d7, d8, d9⟩ := g6.cell e6 iju iv
        refine ⟨_, rfl, _, rfl, _, rfl, _, _, rfl, rfl, D, _, _, _, rfl, rfl, SqL.of e6, d1, _, rfl, r3, _, _, v, rfl, rfl, d2, by rw [d3]; exact iv, ?_⟩
        have g7 := g6.putc e6 mr3 d2 d4 d5 d6 ep6 a9 (Nat.le_refl _) v
        exact ⟨_, _, _, _, _, _, _, rfl, g7.fin (by decide) hC, fun z => absurd z (by omega)⟩
      rintro σ H4 ⟨o7, o8, o9, o10, o11, o12, o13, rfl, gw, gx⟩
      obtain ⟨qs, eD4, lqs, hR⟩ := gw.at
      obtain ⟨F', f1, f2, f3⟩ := rows_grd eD4 fun r hr => (hR r hr).2.2
      exact ⟨_, rfl, q D F' H4 gw.same f1 ⟨by rw [f2, lqs]; omega, f3⟩⟩
    · rintro σ H' Q1 Q2 hq h
      repeat (obtain ⟨x, h⟩ := h; refine ⟨x, ?_⟩)
      exact fun p hp => hq _ _ (h p hp)
abbrev nTable : List Str := ["_law_script", "_law_web_here", "_law_other", "_law_cell", "_law_many", "_law_free", "_law_order_here", "_law_orders"]
abbrev aTable : List Str := ["_law_script", "_law_web_here", "_law_other", "_law_cell"]
theorem scTable : FnScope nTable aTable (defScope sTable) := ⟨rfl, rfl, rfl, by decide +kernel, rfl, by decide +kernel, by decide +kernel⟩
def spTable (K : Frag) : Sp := fun vs H Q _ => ∃ (a wA oA : Addr) (ns : List Int) (n m : Nat) (hs hs' : List Int) (M M' : List (List Int)) (c : Int), vs = [.ref a, .ref wA, .ref oA, .int c] ∧ SqL K H a (ns.map V.int) ∧ WR H wA hs M ∧ WR H oA hs' M' ∧ hs.length = n ∧ hs'.length = m ∧ n ≤ 8 ∧ m ≤ 8 ∧
  ∀ p F H', Same H H' → FGrd H' p F → Tab 100 8 F → Q (.ref p) H'
theorem ok_table {f fC fO fB fM : Addr} {fd fdC fdO fdB fdM : FuncData} (B : BltL mg) (F0 : Fun K "_law_table" "_law_table" sTable f fd)
    (DC : Dn K mg "_law_cell_at" sCellAt ["_law_script", "_law_k"] fC fdC) (GC : FnOk P w K mg base CX0 1 fC fdC ["_law_script", "_law_k"] (spCell K))
    (DO : Dn K mg "_law_order" sOrder aOrder fO fdO) (GO : FnOk P w K mg base CX0 2 fO fdO aOrder spOrder)
    (DB : Dn K mg "_law_by_hues" sByHues aByHues fB fdB) (GB : FnOk P w K mg base CX0 2 fB fdB aByHues spByHues)
    (DM : Dn K mg "_law_mixed" sMixed aMixed fM fdM) (GM : FnOk P w K mg base CX0 2 fM fdM aMixed spMixed) : FnOk P w K mg base CX0 3 f fd aTable (spTable K) := by
  refine F0.ok scTable (fun vs H Q E h => ?_) (fun cdv A outer s H vs Q E hr h => ?_)
  · obtain ⟨a, wA, oA, ns, n, m, hs, hs', M, M', c, rfl, _⟩ := h
    rfl
  · obtain ⟨a, wA, oA, ns, n, m, hs, hs', M, M', c, rfl, hS, W, W', hl, hl', hn, hm, q⟩ := h
    have r1 := hr.mono (j := 1) (by decide)
    obtain ⟨hA, rA, rs, w1, w2, w3, R⟩ := W.ex
    obtain ⟨hA', rA', rs', v1, v2, v3, R'⟩ := W'.ex
    refine ⟨_, pss_cons (ps_set (i := 4) scTable.nd rfl (Or.inl rfl) (pe_callB call_len_seq (by rfl) B.len boot_len (pa_cons (pe_ix ix_tup (pv 1) pe_int (fun _ _ => rfl)) pa_nil)))
      (pss_cons (ps_set (i := 5) scTable.nd rfl (Or.inl rfl) (pe_cmpR op_eq (pe_op op_mod (pe_fn DC GC r1 rfl (pa_cons (pv 0) (pa_cons pe_int pa_nil))) pe_int) pe_int (nomark _)))
      (pss_cons (ps_set (i := 6) scTable.nd rfl (Or.inl rfl) (pe_fn DO GO hr rfl (pa_cons (pe_fn DC GC r1 rfl (pa_cons (pv 0) (pa_cons pe_int pa_nil))) (pa_cons (pe_callB call_len_seq (by rfl) B.len boot_len (pa_cons (pe_ix ix_tup (pv 2) pe_int (fun _ _ => rfl)) pa_nil)) (pa_cons (pv 5) pa_nil)))))
      (pss_cons (ps_set (i := 7) scTable.nd rfl (Or.inl rfl) (pe_lst (pa_cons (pv 6) (pa_cons (pe_fn DO GO hr rfl (pa_cons (pe_op op_fdiv (pv 3) pe_int) (pa_cons (pe_callB call_len_seq (by rfl) B.len boot_len (pa_cons (pe_ix ix_tup (pv 2) pe_int (fun _ _ => rfl)) pa_nil)) (pa_cons pe_bl pa_nil)))) pa_nil))))
      (pss_cons (ps_if (pt_cmpR op_eq (pe_op op_mod (pv 3) pe_int) pe_int (nomark _)) (pss_one (ps_ret (pe_fn DB GB hr rfl (pa_cons (pv 1) (pa_cons (pv 2) pa_nil))))) pss_nil)
      (pss_cons (ps_if (PW.pt (pw_or (pt_cmpR op_eq (pe_op op_mod (pv 3) pe_int) pe_int (nomark _)) (pw_or1 (pt_cmpR op_ne (pv 4) (pe_callB call_len_seq (by rfl) B.len boot_len (pa_cons (pe_ix ix_tup (pv 2) pe_int (fun _ _ => rfl)) pa_nil)) (nomark _)))))
        (pss_one (ps_ret (pe_fn DM GM hr rfl (pa_cons (pe_callB call_len_seq (by rfl) B.len boot_len (pa_cons (pe_ix ix_tup (pv 2) pe_int (fun _ _ => rfl)) pa_nil)) (pa_cons (pe_lst (pa_cons (pv 6) pa_nil)) (pa_cons (pe_lst (pa_cons pe_int pa_nil)) pa_nil)))))) pss_nil)
      (pss_one (ps_ret (pe_fn DM GM hr rfl (pa_cons (pv 4) (pa_cons (pv 7) (pa_cons (pe_lst (pa_cons (pe_op op_add pe_int (pe_op op_mod (pe_op op_fdiv (pv 3) pe_int) pe_int)) (pa_cons (pe_op op_mod (pe_op op_fdiv (pv 3) pe_int) pe_int) pa_nil))) pa_nil))))))))))), ?_⟩
    refine ⟨_, rfl, wA, _, _, _, rfl, rfl, SqT.of w1, at_hd _ _, hA, _, rfl, .inl (SqL.of w2), ?_⟩
    rw [length_map, hl]
    refine ⟨_, rfl, a, ns, 0, rfl, hS, by decide, fun c0 _ => ⟨_, _, rfl, rfl, (by show (0 : Int) < 2; decide), rfl, ?_⟩⟩
    generalize decide ((fun i j => V.int (i % j)) c0 2 = V.int 0) = fr
    refine ⟨_, rfl, a, ns, 4, rfl, hS, by decide, fun c4 _ => ?_⟩
    refine ⟨_, rfl, oA, _, _, _, rfl, rfl, SqT.of v1, at_hd _ _, hA', _, rfl, .inl (SqL.of v2), ?_⟩
    rw [length_map, hl']
    refine ⟨_, rfl, c4, m, fr, rfl, hm, fun O1 os1 H1 s1 n1 e1 pm1 => ?_⟩
    refine ⟨_, rfl, _, rfl, _, _, rfl, rfl, ⟨by decide, by decide⟩, ?_⟩
    refine ⟨_, rfl, oA, _, _, _, rfl, rfl, SqT.of (s1 _ _ v1), at_hd _ _, hA', _, rfl, .inl (SqL.of (s1 _ _ v2)), ?_⟩
    rw [length_map, hl']
    refine ⟨c / 7, m, true, rfl, hm, fun O2 os2 H2 s2 n2 e2 pm2 => ?_⟩
    refine ⟨sz2, fun L hL => ?_⟩
    have s3 : Same H2 (upd H2 L (.lst [.ref O1, .ref O2])) := Same.upd hL
    have eL : upd H2 L (.lst [.ref O1, .ref O2]) L = some (.lst [.ref O1, .ref O2]) := upd_same
    generalize upd H2 L (.lst [.ref O1, .ref O2]) = H3 at s3 eL ⊢
    have s13 := (s1.trans s2).trans s3
    have e13 := s3 _ _ (s2 _ _ e1)
    have e23 := s3 _ _ e2
    refine ⟨_, rfl, _, _, rfl, rfl, (by show (0 : Int) < 4; decide), rfl, _, rfl, ?_⟩
    by_cases h0 : c % 4 = 0
    · refine itDP (show V.int (c % 4) = V.int 0 by rw [h0]) ?_
      exact ⟨_, rfl, _, rfl, wA, oA, hs, hs', M, M', rfl, W.mono s13, W'.mono s13, by omega, by omega, fun p F H' s' g t => q p F H' (s13.trans s') g t⟩
    refine itDN (fun z => h0 (V.int.inj z)) ?_
    have short : tRet (tCall spMixed [] E0 (tCons (tCB (fun xs H_1 Q => ∃ p ys, xs = [V.ref p] ∧ (SqL K H_1 p ys ∨ SqT K H_1 p ys) ∧ Q (V.int (ys.length : Int)) H_1) (tCons (tOp (rIxT K) (tVar 2) (tC (V.int 0))) tNil)) (tCons (tLst (tCons (tVar 6) tNil)) (tCons (tLst (tCons (tC (V.int 1)) tNil)) tNil)))) { nx := fun _ _ => False, rt := fun v H => Q v H, bk := fun _ _ => False, ct := fun _ _ => False } [some (.ref a), some (.ref wA), some (.ref oA), some (.int c), some (.int (n : Int)), some (.bl fr), some (.ref O1), some (.ref L)] H3 := by
      refine ⟨_, rfl, oA, _, _, _, rfl, rfl, SqT.of (s13 _ _ v1), at_hd _ _, hA', _, rfl, .inl (SqL.of (s13 _ _ v2)), ?_⟩
      rw [length_map, hl']
      refine ⟨_, rfl, sz1, fun l1 hl1 => ?_⟩
      have s4 : Same H3 (upd H3 l1 (.lst [.ref O1])) := Same.upd hl1
      have el1 : upd H3 l1 (.lst [.ref O1]) l1 = some (.lst [.ref O1]) := upd_same
      generalize upd H3 l1 (.lst [.ref O1]) = H4 at s4 el1 ⊢
      refine ⟨sz1, fun l2 hl2 => ?_⟩
      have s5 : Same H4 (upd H4 l2 (.lst [.int 1])) := Same.upd hl2
      have el2 : upd H4 l2 (.lst [.int 1]) l2 = some (.lst (([1] : List Int).map V.int)) := upd_same
      generalize upd H4 l2 (.lst [.int 1]) = H5 at s5 el2 ⊢
      refine ⟨m, l1, l2, [os1], [1], rfl, hm, ⟨[O1], s5 _ _ el1, rfl, fun i r x g1 g2 => ?_⟩, fun os ho => by rw [mem_singleton.mp ho]; exact pm1, el2, rfl, by show 1 ≤ 2; decide, fun x hx => by rw [mem_singleton.mp hx]; decide, by decide, by decide, fun p F H' s' g t => q p F H' (s13.trans ((s4.trans s5).trans s')) g t⟩
      match i, g1, g2 with
      | 0, g1, g2 =>
        cases g1
        cases g2
        exact s5 _ _ (s4 _ _ e13)
    refine ⟨_, rfl, _, _, rfl, rfl, (by show (0 : Int) < 4; decide), rfl, _, rfl, ?_⟩
    by_cases h1 : c % 4 = 1
    · exact itDP (show V.int (c % 4) = V.int 1 by rw [h1]) (iteT short)
    refine itDN (fun z => h1 (V.int.inj z)) ?_
    refine ⟨_, rfl, _, rfl, oA, _, _, _, rfl, rfl, SqT.of (s13 _ _ v1), at_hd _ _, hA', _, rfl, .inl (SqL.of (s13 _ _ v2)), rfl, _, rfl, ?_⟩
    rw [length_map, hl']
    by_cases hnm : n = m
    case neg => exact iteNP (fun z => hnm (by have := V.int.inj z; omega)) short
    subst hnm
    refine iteNS rfl ?_
    refine ⟨_, rfl, _, rfl, _, rfl, _, _, rfl, rfl, ⟨by decide, by decide⟩, _, _, rfl, rfl, (by show (0 : Int) < 9; decide), _, _, rfl, rfl, ?_⟩
    refine ⟨_, rfl, _, _, rfl, rfl, ⟨by decide, by decide⟩, _, _, rfl, rfl, (by show (0 : Int) < 5; decide), sz2, fun l hl2 => ?_⟩
    have s4 := Same.upd (H := H3) (o := .lst [.int (1 + c / 4 % 9), .int (c / 36 % 5)]) hl2
    have b1 := Int.emod_nonneg (c / 4) (by decide : (9 : Int) ≠ 0)
    have b2 := Int.emod_lt_of_pos (c / 4) (by decide : (0 : Int) < 9)
    have b3 := Int.emod_nonneg (c / 36) (by decide : (5 : Int) ≠ 0)
    have b4 := Int.emod_lt_of_pos (c / 36) (by decide : (0 : Int) < 5)
    have sm : ([1 + c / 4 % 9, c / 36 % 5] : List Int).sum = 1 + c / 4 % 9 + c / 36 % 5 := by simp
    refine ⟨n, L, l, [os1, os2], [1 + c / 4 % 9, c / 36 % 5], rfl, hm, ⟨[O1, O2], s4 _ _ eL, rfl, fun i r x g1 g2 => ?_⟩, fun os ho => ?_, upd_same, rfl, by show 2 ≤ 2; decide, fun x hx => ?_, by rw [sm]; omega, by rw [sm]; omega, fun p F H' s' g t => q p F H' (s13.trans (s4.trans s')) g t⟩
    · match i, g1, g2 with
      | 0, g1, g2 =>
        cases g1
        cases g2
        exact s4 _ _ e13
      | 1, g1, g2 =>
        cases g1
        cases g2
        exact s4 _ _ e23
    · simp only [mem_cons, not_mem_nil, or_false] at ho
      rcases ho with rfl | rfl
      · exact pm1
      · exact pm2
    · simp only [mem_cons, not_mem_nil, or_false] at hx
      rcases hx with rfl | rfl <;> omega
theorem kitBB : PySem.W.kitOne K (.type "bool") (.type "bool") = some true := rfl
theorem boot_strT : bootBuiltins "str" = some (.type "str") := by decide +kernel
def dTwo (hs : List Int) (M : List (List Int)) (hs' : List Int) (M' : List (List Int)) : PyData := .list [dW hs M, dW hs' M']
theorem rows_show {n : Nat} (hn : n ≤ 8) : ∀ M : List (List Int), (∀ x ∈ M, x.length = n ∧ ∀ z ∈ x, z.natAbs < 10 ^ 30) → PyData.showableAll (M.map dI) = true ∧ PyData.intsShortAll 31 (M.map dI) = true ∧ PyData.hasDictAll (M.map dI) = false ∧ PyData.weightAll (M.map dI) ≤ 817 * M.length
  | [], _ => ⟨rfl, rfl, rfl, Nat.le_refl _⟩
  | x :: M, h => by
    obtain ⟨a1, a2, a3, a4⟩ := rows_show hn M fun y hy => h y (mem_cons_of_mem _ hy)
    obtain ⟨lx, bx⟩ := h x mem_cons_self
    obtain ⟨b1, b2, b3, b4⟩ := ints_show x bx
    rw [map_cons]
    refine ⟨?_, ?_, ?_, ?_⟩
    · simp only [PyData.showableAll, dI, PyData.showable, a1, b1, Bool.and_self]
    · simp only [PyData.intsShortAll, dI, PyData.intsShort, a2, b2, Bool.and_self]
    · simp only [PyData.hasDictAll, dI, PyData.hasDict, a3, b3, Bool.or_self]
    · simp only [PyData.weightAll, dI, PyData.weight, length_cons]
      omega
theorem Wz.show {H : Hp} {p : Addr} {n : Nat} {hs : List Int} {M : List (List Int)} (W : Wz H p n hs M) (hn : n ≤ 8) : (dW hs M).showable = true ∧ (dW hs M).intsShort 31 = true ∧ (dW hs M).hasDict = false ∧ (dW hs M).weight ≤ 8000 := by
  have wm : wMax = 1000000000000000000000 := by decide
  obtain ⟨a1, a2, a3, a4⟩ := ints_show hs fun z hz => Nat.lt_of_le_of_lt (W.hb z hz) (by decide)
  obtain ⟨b1, b2, b3, b4⟩ := rows_show hn M fun x hx => by
    obtain ⟨j, hj⟩ := mem_iff_getElem?.mp hx
    obtain ⟨r1, r2⟩ := W.sq.row j x hj
    exact ⟨r1, fun z hz => Nat.lt_of_le_of_lt (r2 z hz) (by rw [wm]; decide)⟩
  have l1 := W.len
  have l2 := W.sq.len
  refine ⟨?_, ?_, ?_, ?_⟩
  · simp only [dW, dI, PyData.showable, PyData.showableAll, a1, b1, Bool.and_self]
  · simp only [dW, dI, PyData.intsShort, PyData.intsShortAll, a2, b2, Bool.and_self]
  · simp only [dW, dI, PyData.hasDict, PyData.hasDictAll, a3, b3, Bool.or_self]
  · simp only [dW, dI, PyData.weight, PyData.weightAll]
    have b4' : PyData.weightAll (M.map fun ns => PyData.list (ns.map PyData.int)) ≤ 817 * M.length := b4
    omega
theorem two_show {H : Hp} {p p' : Addr} {n m : Nat} {hs hs' : List Int} {M M' : List (List Int)} (W : Wz H p n hs M) (W' : Wz H p' m hs' M') (hn : n ≤ 8) (hm : m ≤ 8) : (dTwo hs M hs' M').showable = true ∧ (dTwo hs M hs' M').hasDict = false ∧ (dTwo hs M hs' M').depth ≤ 32 ∧ (dTwo hs M hs' M').shown.length ≤ sizeLine := by
  obtain ⟨a1, a2, a3, a4⟩ := W.show hn
  obtain ⟨b1, b2, b3, b4⟩ := W'.show hm
  obtain ⟨c1, c2⟩ := lay_dW hs M
  obtain ⟨d1, d2⟩ := lay_dW hs' M'
  have cl : (dTwo hs M hs' M').canLay0 = true := by simp only [dTwo, PyData.canLay0, PyData.canLayAll0, c1, d1, Bool.and_self]
  have is : (dTwo hs M hs' M').intsShort 31 = true := by simp only [dTwo, PyData.intsShort, PyData.intsShortAll, a2, b2, Bool.and_self]
  refine ⟨by simp only [dTwo, PyData.showable, PyData.showableAll, a1, b1, Bool.and_self], by simp only [dTwo, PyData.hasDict, PyData.hasDictAll, a3, b3, Bool.or_self], by simp only [dTwo, PyData.depth, PyData.depthAll]; omega, ?_⟩
  have h := PyData.shown_le 31 (by decide) _ (PyData.leavesShort_of_canLay0 31 _ cl is)
  have w : (dTwo hs M hs' M').weight ≤ 16002 := by simp only [dTwo, PyData.weight, PyData.weightAll]; omega
  have e := sizeLine_eq
  omega
theorem WR.da {H : Hp} {p : Addr} {hs : List Int} {M : List (List Int)} (W : WR H p hs M) : DA K any H (.ref p) (dW hs M) := by
  obtain ⟨hA, rA, rs, h1, h2, h3, R⟩ := W.ex
  exact .tup trivial (SqT.of h1) (.cons (daI trivial (SqL.of h2)) (.cons (.lst trivial (SqL.of h3) (das_rows R.len R.row)) .nil))
def spF : Sp := fun vs H Q _ => ∃ t b : Int, vs = [.int t, .int b] ∧ b ≠ 0 ∧ b.natAbs < 2 ^ 1000 ∧ ∀ p, H p = none → Q (.ref p) (upd H p (tupF (M11.low t b)))
theorem scFr : FnScope ["top", "bottom", "divisor"] ["top", "bottom"] (defScope sFr) := ⟨rfl, rfl, rfl, by decide +kernel, rfl, by decide +kernel, by decide +kernel⟩
theorem cdivB {t b : Int} (h : b ≠ 0) (hb : b.natAbs < 2 ^ 1000) (u d : Int) (e : d = M11.sgn t b) : CDivB u d := by
  subst e
  exact ⟨M11.sgn_ne h, Nat.lt_of_le_of_lt (M11.sgn_le h) hb⟩
theorem ok_fr {f fG : Addr} {fd fdG : FuncData} (B : BltR mg) (F : Fun K "fraction_of" "fraction_of" sFr f fd) (DG : Dn K mg "greatest_divisor" sGd ["number", "other"] fG fdG) (GG : FnOk P w K mg base CX0 1 fG fdG ["number", "other"] spG) : FnOk P w K mg base CX0 2 f fd ["top", "bottom"] spF := by
  refine F.ok scFr (fun vs H Q E h => ?_) (fun cdv A outer s H vs Q E hr h => ?_)
  · obtain ⟨a, b, rfl, _⟩ := h
    rfl
  · obtain ⟨t, b, rfl, hb, hz, k⟩ := h
    refine ⟨_, pss_cons (ps_set (i := 2) scFr.nd rfl (Or.inl rfl) (pe_fn DG GG hr rfl (pa_cons (pv 0) (pa_cons (pv 1) pa_nil))))
      (pss_cons (ps_if (pt_cmpR op_lt (pv 1) pe_int (nomark _)) (pss_one (ps_set (i := 2) scFr.nd rfl (Or.inl rfl) (pe_un un_neg (pv 2)))) pss_nil)
      (pss_one (ps_ret (pe_tup (pa_cons (pe_op op_fdivB (pv 0) (pv 2)) (pa_cons (pe_op op_fdivB (pv 1) (pv 2)) pa_nil)))))), ?_⟩
    refine ⟨_, rfl, _, rfl, t, b, rfl, ?_⟩
    refine ⟨_, rfl, _, _, rfl, rfl, _, rfl, ?_⟩
    by_cases hn : b < 0
    · refine itDP hn ?_
      have e : -(M11.G t b) = M11.sgn t b := (if_pos hn).symm
      refine ⟨_, rfl, _, rfl, ?_⟩
      refine ⟨_, rfl, _, rfl, _, _, rfl, rfl, cdivB hb hz _ _ e, _, rfl, _, rfl, _, _, rfl, rfl, cdivB hb hz _ _ e, sz2, fun p hp => ?_⟩
      have q := k p hp
      unfold M11.low at q
      rw [← e] at q
      exact q
    · refine itDN hn ?_
      have e : M11.G t b = M11.sgn t b := (if_neg hn).symm
      refine ⟨_, rfl, _, rfl, _, _, rfl, rfl, cdivB hb hz _ _ e, _, rfl, _, rfl, _, _, rfl, rfl, cdivB hb hz _ _ e, sz2, fun p hp => ?_⟩
      have q := k p hp
      unfold M11.low at q
      rw [← e] at q
      exact q
open TM in
def tmWord : Tm → Str
  | .one => "one"
  | .hue _ => "hue"
  | .near _ => "near"
  | .both _ _ => "both"
  | .plus _ _ => "plus"
  | .many _ _ _ => "many"
open TM in
theorem tm_at {ok : Addr → Prop} {H : Hp} {v : V} (t : Tm) (h : DA K ok H v t.dat) : ∃ p pre ks, v = .ref p ∧ SqT K H p ((.str (tmWord t) :: pre) ++ ks) ∧ ks.length = t.kids.length ∧ DAs K ok H ks (t.kids.map Tm.dat) ∧
    (∀ c, t = .hue c → pre = [.int c]) ∧ (∀ a b u, t = .many a b u → ∃ f, pre = [.ref f] ∧ SqT K H f [.int a, .int b]) := by
  cases t with
  | one =>
    cases h with
    | tup _ hs r =>
      cases r with
      | cons r1 r =>
        cases r; cases r1
        exact ⟨_, [], [], rfl, hs, rfl, .nil, fun c z => (by cases z), fun a b u z => (by cases z)⟩
  | hue c =>
    cases h with
    | tup _ hs r =>
      cases r with
      | cons r1 r =>
        cases r with
        | cons r2 r =>
          cases r; cases r1; cases r2
          exact ⟨_, [.int c], [], rfl, hs, rfl, .nil, fun c z => (by cases z; rfl), fun a b u z => (by cases z)⟩
  | near t =>
    cases h with
    | tup _ hs r =>
      cases r with
      | cons r1 r =>
        cases r with
        | cons r2 r =>
          cases r; cases r1
          exact ⟨_, [], [_], rfl, hs, rfl, .cons r2 .nil, fun c z => (by cases z), fun a b u z => (by cases z)⟩
  | both t u =>
    cases h with
    | tup _ hs r =>
      cases r with
      | cons r1 r =>
        cases r with
        | cons r2 r =>
          cases r with
          | cons r3 r =>
            cases r; cases r1
            exact ⟨_, [], [_, _], rfl, hs, rfl, .cons r2 (.cons r3 .nil), fun c z => (by cases z), fun a b u z => (by cases z)⟩
  | plus t u =>
    cases h with
    | tup _ hs r =>
      cases r with
      | cons r1 r =>
        cases r with
        | cons r2 r =>
          cases r with
          | cons r3 r =>
            cases r; cases r1
            exact ⟨_, [], [_, _], rfl, hs, rfl, .cons r2 (.cons r3 .nil), fun c z => (by cases z), fun a b u z => (by cases z)⟩
  | many a b t =>
    cases h with
    | tup _ hs r =>
      cases r with
      | cons r1 r =>
        cases r with
        | cons r2 r =>
          cases r with
          | cons r3 r =>
            cases r; cases r1
            cases r2 with
            | tup _ hf rf =>
              cases rf with
              | cons q1 rf =>
                cases rf with
                | cons q2 rf =>
                  cases rf; cases q1; cases q2
                  exact ⟨_, [.ref _], [_], rfl, hs, rfl, .cons r3 .nil, fun c z => (by cases z), fun a b u z => (by cases z; exact ⟨_, rfl, hf⟩)⟩
def inTab : List (Str × Int) := [("one", 0), ("hue", 0), ("near", 1), ("both", 2), ("rows", 1), ("same", 0), ("tie", 0), ("all", 0), ("on", 1), ("turned", 1), ("then", 2), ("meet", 2), ("plus", 2), ("many", 1)]
theorem td1 : PyProof.Rows.KTD.datumAt ("one" : Str) inTab = some 0 := by decide +kernel
theorem td2 : PyProof.Rows.KTD.datumAt ("hue" : Str) inTab = some 0 := by decide +kernel
theorem td3 : PyProof.Rows.KTD.datumAt ("near" : Str) inTab = some 1 := by decide +kernel
theorem td4 : PyProof.Rows.KTD.datumAt ("both" : Str) inTab = some 2 := by decide +kernel
theorem td5 : PyProof.Rows.KTD.datumAt ("plus" : Str) inTab = some 2 := by decide +kernel
theorem td6 : PyProof.Rows.KTD.datumAt ("many" : Str) inTab = some 1 := by decide +kernel
open TM in
theorem tab_word (t : Tm) : PyProof.Rows.KTD.datumAt (tmWord t) inTab = some ((t.kids.length : Nat) : Int) := by
  cases t
  · exact td1
  · exact td2
  · exact td3
  · exact td4
  · exact td5
  · exact td6
theorem cut_ahead (pre ks : List V) : cutV (pre ++ ks) none (some ((pre.length : Nat) : Int)) = pre := by
  unfold cutV
  rw [HT.sIx_nat, HT.sIx_none, length_append, Nat.min_eq_left (by omega), List.drop_zero, Nat.sub_zero, List.take_left]
open TM in
def spInner (K : Frag) : Sp := fun vs H Q _ => ∃ (v : V) (t : Tm) (H0 : Hp), vs = [v] ∧ Same H0 H ∧ DA K any H0 v t.dat ∧ ∀ q ks H', Same H H' → H' q = some (.tup ks) → ks.length = t.kids.length → DAs K any H0 ks (t.kids.map Tm.dat) → Q (.ref q) H'
theorem scInner : FnScope ["term"] ["term"] (defScope sInner) := ⟨rfl, rfl, rfl, by decide +kernel, rfl, by decide +kernel, by decide +kernel⟩
theorem ok_inner {f aT : Addr} {fd : FuncData} (B : BltR mg) (hG : mg "INNER_TERMS" = some (.ref aT)) (TB : TabK K aT inTab) (F : Fun K "inner_terms" "inner_terms" sInner f fd) : FnOk P w K mg base CX0 1 f fd ["term"] (spInner K) := by
  refine F.ok scInner (fun vs H Q E h => ?_) (fun cdv A outer s H vs Q E hr h => ?_)
  · obtain ⟨v, t, H0, rfl, _⟩ := h
    rfl
  · obtain ⟨v, t, H0, rfl, s0, hT, q⟩ := h
    obtain ⟨p, pre, ks, rfl, hp, hk, dk, _, _⟩ := tm_at t hT
    have hp' := s0.seqT hp
    refine ⟨_, pss_one (ps_ret (pe_slice sl_tup (pv 0) (po_some (pe_op op_sub (pe_callB call_len_seq (by rfl) B.len boot_len (pa_cons (pv 0) pa_nil)) (pe_ix (ix_tab TB) (pe_glob (v := .ref aT) rfl hG rfl) (pe_ix ix_tup (pv 0) pe_int (fun _ _ => rfl)) (fun _ _ => rfl)))) po_none)), ?_⟩
    refine ⟨_, rfl, _, rfl, p, _, rfl, .inr hp', _, rfl, p, _, _, _, rfl, rfl, hp', at_hd _ _, _, _, rfl, rfl, tab_word t, _, _, rfl, rfl, _, rfl, p, _, rfl, hp', ?_, fun q' hq' => ?_⟩
    · rintro ⟨h1, _⟩
      have e : ((((V.str (tmWord t) :: pre) ++ ks).length : Nat) : Int) - ((t.kids.length : Nat) : Int) = (((V.str (tmWord t) :: pre).length : Nat) : Int) := by
        rw [length_append, hk]; omega
      have h1' : HT.sIx ((V.str (tmWord t) :: pre) ++ ks).length 0 (some (((((V.str (tmWord t) :: pre) ++ ks).length : Nat) : Int) - ((t.kids.length : Nat) : Int))) = 0 := h1
      rw [e, HT.sIx_nat, length_append, length_cons] at h1'
      omega
    · have e : ((((V.str (tmWord t) :: pre) ++ ks).length : Nat) : Int) - ((t.kids.length : Nat) : Int) = (((V.str (tmWord t) :: pre).length : Nat) : Int) := by
        rw [length_append, hk]; omega
      have e2 : cutV ((V.str (tmWord t) :: pre) ++ ks) (some (((((V.str (tmWord t) :: pre) ++ ks).length : Nat) : Int) - ((t.kids.length : Nat) : Int))) none = ks := by rw [e]; exact cut_behind _ _
      have := q q' ks (upd H q' (.tup ks)) (Same.upd hq') upd_same hk dk
      rw [← e2] at this
      exact this
open TM in
def spFirst (K : Frag) : Sp := fun vs H Q _ => ∃ (v : V) (t : Tm) (H0 : Hp), vs = [v] ∧ Same H0 H ∧ DA K any H0 v t.dat ∧ t.size ≤ 900 ∧
  ∀ F fs H', Same H H' → H' F = some (.lst fs) → DAs K any H0 fs (t.pre.reverse.map Tm.dat) → Q (.ref F) H'
abbrev nFirst : List Str := ["term", "waiting", "found", "part"]
theorem scFirst : FnScope nFirst ["term"] (defScope sFirst) := ⟨rfl, rfl, rfl, by decide +kernel, rfl, by decide +kernel, by decide +kernel⟩
theorem das_len {ok : Addr → Prop} {H : Hp} : ∀ {ys : List V} {ds : List PyData}, DAs K ok H ys ds → ys.length = ds.length
  | _, _, .nil => rfl
  | _, _, .cons _ r => by rw [length_cons, length_cons, das_len r]
theorem das_app {ok : Addr → Prop} {H : Hp} : ∀ {ys : List V} {ds : List PyData} {ys' : List V} {ds' : List PyData}, DAs K ok H ys ds → DAs K ok H ys' ds' → DAs K ok H (ys ++ ys') (ds ++ ds')
  | _, _, _, _, .nil, h => h
  | _, _, _, _, .cons a r, h => .cons a (das_app r h)
theorem das_split {ok : Addr → Prop} {H : Hp} : ∀ {ds : List PyData} {ds' : List PyData} {ys : List V}, DAs K ok H ys (ds ++ ds') → ∃ a b, ys = a ++ b ∧ DAs K ok H a ds ∧ DAs K ok H b ds'
  | [], ds', ys, h => ⟨[], ys, rfl, .nil, h⟩
  | d :: ds, ds', _, .cons h r => by
    obtain ⟨a, b, rfl, h1, h2⟩ := das_split r
    exact ⟨_ :: a, b, rfl, .cons h h1, h2⟩
theorem das_rev {ok : Addr → Prop} {H : Hp} : ∀ {ys : List V} {ds : List PyData}, DAs K ok H ys ds → DAs K ok H ys.reverse ds.reverse
  | _, _, .nil => .nil
  | _, _, .cons a r => by
    rw [List.reverse_cons, List.reverse_cons]
    exact das_app (das_rev r) (.cons a .nil)
theorem seq_while {c : TT} {tb u : TS} {D : Ends} {σ : L2.St} {H : Hp} (h : tWhile c tb { D with nx := u D } σ H) : tSeq (tWhile c tb) u D σ H := h
open TM in
theorem flat_pre (tws : List Tm) (t : Tm) : (tws ++ [t]).reverse.flatMap Tm.pre = t :: (tws ++ t.kids).reverse.flatMap Tm.pre := by
  rw [List.reverse_append, List.reverse_append, List.flatMap_append, List.flatMap_append]
  show t.pre ++ [] ++ _ = _
  rw [append_nil]
  conv => lhs; rw [Tm.pre_eq t]
  rfl
open TM in
theorem flat_lenT (tws : List Tm) : tws.length ≤ (tws.reverse.flatMap Tm.pre).length := by
  have key : ∀ l : List Tm, l.length ≤ (l.flatMap Tm.pre).length := by
    intro l
    induction l with
    | nil => exact Nat.le_refl _
    | cons a l ih =>
      rw [List.flatMap_cons, length_append, length_cons, Tm.pre_len]
      have := Tm.size_pos a
      omega
  have := key tws.reverse
  rw [List.length_reverse] at this
  exact this
open TM in
theorem ok_first {f fI : Addr} {fd fdI : FuncData} (F : Fun K "terms_innermost_first" "terms_innermost_first" sFirst f fd) (DI : Dn K mg "inner_terms" sInner ["term"] fI fdI) (GI : FnOk P w K mg base CX0 1 fI fdI ["term"] (spInner K)) : FnOk P w K mg base CX0 2 f fd ["term"] (spFirst K) := by
  refine F.ok scFirst (fun vs H Q E h => ?_) (fun cdv A outer s H vs Q E hr h => ?_)
  · obtain ⟨v, t, H0, rfl, _⟩ := h
    rfl
  · obtain ⟨v, t, H0, rfl, s0, hT, hz, q⟩ := h
    refine ⟨_, pss_cons (ps_set (i := 1) scFirst.nd rfl (Or.inl rfl) (pe_lst (pa_cons (pv 0) pa_nil)))
      (pss_cons (ps_set (i := 2) scFirst.nd rfl (Or.inl rfl) (pe_lst pa_nil))
      (pss_cons (ps_while PassesOwn.never (pt_truth (pv 1) (fun _ => rfl))
        (pss_cons (ps_set (i := 3) scFirst.nd rfl (Or.inl rfl) (pe_bm0 plainAttrs_list PySem.F.slot_list_pop PySem.F.type_list_pop mt_pop (pv 1)))
        (pss_cons (ps_expr (pe_bm plainAttrs_list slot_list_append type_list_append mt_append (pv 2) (pa_cons (pv 3) pa_nil)))
        (pss_one (ps_expr (pe_bm plainAttrs_list slot_list_extend type_list_extend mt_extendT (pv 1) (pa_cons (pe_fn DI GI hr rfl (pa_cons (pv 3) pa_nil)) pa_nil)))))))
      (pss_cons (ps_expr (pe_bm0 plainAttrs_list PySem.F.slot_list_reverse PySem.F.type_list_reverse mt_reverse (pv 2)))
      (pss_one (ps_ret (pv 2)))))), ?_⟩
    refine ⟨_, rfl, sz1, fun W hW => ?_⟩
    refine ⟨Nat.zero_le _, fun R hR => ?_⟩
    have nRW : W ≠ R := ne_of_none upd_same hR
    have hR0 : H R = none := by rw [upd_ne nRW.symm] at hR; exact hR
    dsimp only [gName]
    refine seq_while (while_by (fun σ H' => ∃ (o3 : Option V) (ws fs : List V) (tws tfs : List Tm), σ = [some v, some (.ref W), some (.ref R), o3] ∧ Same H H' ∧ H' W = some (.lst ws) ∧ H' R = some (.lst fs) ∧ DAs K any H0 ws (tws.map Tm.dat) ∧ DAs K any H0 fs (tfs.map Tm.dat) ∧ t.pre = tfs ++ tws.reverse.flatMap Tm.pre)
      (fun _ H' => match H' R with | some (.lst fs) => t.size - fs.length | _ => 0) ?_ ?_ ?_)
    · refine ⟨none, [v], [], [t], [], rfl, (Same.upd hW).trans (Same.upd hR), by rw [upd_ne nRW]; exact upd_same, upd_same, .cons hT .nil, .nil, ?_⟩
      show t.pre = [] ++ (t.pre ++ [])
      rw [append_nil, nil_append]
    · rintro σ H1 ⟨o3, ws, fs, tws, tfs, rfl, s1, eW, eR, dW, dF, hp⟩
      refine ⟨_, rfl, !ws.isEmpty, .inl ⟨ws, SqL.of eW, rfl⟩, ?_⟩
      have lW := das_len dW
      have lF := das_len dF
      rw [length_map] at lW lF
      have lp := congrArg List.length hp
      rw [Tm.pre_len, length_append] at lp
      rcases List.eq_nil_or_concat tws with rfl | ⟨tws', x, rfl⟩
      · cases dW
        refine iteF ?_
        refine ⟨_, rfl, .inl ⟨rfl, _, SqL.of eR⟩, R, fs, rfl, rfl, eR, ?_⟩
        refine ⟨_, rfl, q R fs.reverse _ (fun b o e => ?_) upd_same ?_⟩
        · rw [upd_ne (ne_of_none e hR0)]
          exact s1 _ _ e
        · have hp' : t.pre = tfs := by rw [hp]; simp
          rw [hp', List.map_reverse]
          exact das_rev dF
      · rw [List.concat_eq_append] at *
        rw [map_append] at dW
        obtain ⟨a, b, rfl, d1, d2⟩ := das_split dW
        cases d2 with
        | cons dx d2 =>
          cases d2
          rename_i y
          have en : (!(a ++ [y]).isEmpty) = true := by simp
          rw [en]
          refine iteT ?_
          refine ⟨_, rfl, .inl ⟨rfl, _, SqL.of eW⟩, W, a ++ [y], y, rfl, rfl, eW, by simp, ?_⟩
          have eR2 : upd H1 W (.lst (a ++ [y]).dropLast) R = some (.lst fs) := by rw [upd_ne nRW.symm]; exact eR
          refine ⟨_, rfl, .inl ⟨rfl, _, SqL.of eR2⟩, _, rfl, R, fs, y, rfl, rfl, eR2, small1000 (by
            rw [flat_pre, length_cons] at lp
            omega), ?_⟩
          have eW3 : upd (upd H1 W (.lst (a ++ [y]).dropLast)) R (.lst (fs ++ [y])) W = some (.lst a) := by rw [upd_ne nRW, upd_same]; simp
          have s3 : Same H (upd (upd H1 W (.lst (a ++ [y]).dropLast)) R (.lst (fs ++ [y]))) := fun b o e => by
            rw [upd_ne (ne_of_none e hR0), upd_ne (ne_of_none e hW)]
            exact s1 _ _ e
          have eR3 : upd (upd H1 W (.lst (a ++ [y]).dropLast)) R (.lst (fs ++ [y])) R = some (.lst (fs ++ [y])) := upd_same
          generalize upd (upd H1 W (.lst (a ++ [y]).dropLast)) R (.lst (fs ++ [y])) = H3 at eW3 s3 eR3 ⊢
          refine ⟨_, rfl, .inl ⟨rfl, _, SqL.of eW3⟩, _, rfl, y, x, H0, rfl, s0.trans s3, dx, fun q' ks H4 s4 eq lk dk => ?_⟩
          have lk' := lk
          refine ⟨W, q', a, ks, rfl, rfl, s4 _ _ eW3, SqT.of eq, Nat.le_of_lt (small1000 (by
            have := Tm.kids_len x
            have l1 := das_len d1
            rw [length_map] at l1
            have hh := flat_lenT (tws' ++ [x])
            rw [length_append, List.length_singleton] at hh
            omega)), ?_⟩
          have eR5 : upd H4 W (.lst (a ++ ks)) R = some (.lst (fs ++ [y])) := by rw [upd_ne nRW.symm]; exact s4 _ _ eR3
          refine ⟨⟨_, a ++ ks, fs ++ [y], tws' ++ x.kids, tfs ++ [x], rfl, fun b o e => ?_, upd_same, eR5, ?_, ?_, ?_⟩, ?_⟩
          · rw [upd_ne (ne_of_none e hW)]
            exact s4 _ _ (s3 _ _ e)
          · rw [map_append]
            exact das_app d1 dk
          · rw [map_append]
            exact das_app dF (.cons dx .nil)
          · rw [hp, flat_pre, List.append_assoc]
            rfl
          · show (match upd H4 W (.lst (a ++ ks)) R with | some (.lst fs) => t.size - fs.length | _ => 0) < (match H1 R with | some (.lst fs) => t.size - fs.length | _ => 0)
            rw [eR5, eR]
            show t.size - (fs ++ [y]).length < t.size - fs.length
            rw [flat_pre, length_cons] at lp
            rw [length_append, List.length_singleton]
            omega
    · rintro σ H' Q1 Q2 hq ⟨v', e, k', c, q'⟩
      exact ⟨v', e, k', c, hq _ _ q'⟩
def RwAt (H : Hp) (v : V) (r : TM.Rw) : Prop := ∃ p l, v = .ref p ∧ H p = some (.tup [.ref l, .int r.2]) ∧ H l = some (.lst (r.1.map V.int))
theorem RwAt.mono {H H' : Hp} {v : V} {r : TM.Rw} (h : RwAt H v r) (s : Same H H') : RwAt H' v r := by
  obtain ⟨p, l, rfl, h1, h2⟩ := h
  exact ⟨p, l, rfl, s _ _ h1, s _ _ h2⟩
def spAll : Sp := fun vs H Q _ => ∃ (l : Addr) (ts : List Int) (b : Int), vs = [.int b, .ref l] ∧ H l = some (.lst (ts.map V.int)) ∧ Q (.int (M11.foldG b ts)) H
theorem scAll : FnScope ["divisor", "tops", "top"] ["divisor", "tops"] (defScope sAll) := ⟨rfl, rfl, rfl, by decide +kernel, rfl, by decide +kernel, by decide +kernel⟩
theorem ok_all {f fG : Addr} {fd fdG : FuncData} (F : Fun K "shared_by_all" "shared_by_all" sAll f fd) (DG : Dn K mg "greatest_divisor" sGd ["number", "other"] fG fdG) (GG : FnOk P w K mg base CX0 1 fG fdG ["number", "other"] spG) : FnOk P w K mg base CX0 2 f fd ["divisor", "tops"] spAll := by
  refine F.ok scAll (fun vs H Q E h => ?_) (fun cdv A outer s H vs Q E hr h => ?_)
  · obtain ⟨l, ts, b, rfl, _⟩ := h
    rfl
  · obtain ⟨l, ts, b, rfl, hl, q⟩ := h
    refine ⟨_, pss_cons (ps_for PassesOwn.never rfl (pi_list (pv 1)) (pg_name (i := 2) scAll.nd rfl (Or.inl rfl))
        (pss_cons (ps_if (pt_cmpR op_eq (pv 0) pe_int (nomark _)) (pss_one (ps_ret pe_int)) pss_nil)
        (pss_one (ps_set (i := 0) scAll.nd rfl (Or.inl rfl) (pe_fn DG GG hr rfl (pa_cons (pv 0) (pa_cons (pv 2) pa_nil)))))))
      (pss_one (ps_ret (pv 0))), ?_⟩
    refine ⟨_, rfl, l, rfl, ⟨_, SqL.of hl⟩, for_list (xs := ts.map V.int) (fun i σ H' => ∃ (ot : Option V), σ = [some (.int (M11.foldG b (ts.take i))), some (.ref l), ot] ∧ H' = H) ⟨none, rfl, rfl⟩ (fun i σ H' _ ⟨_, _, e⟩ => by subst e; exact SqL.of hl) ?_ ?_⟩
    · rintro i x σ H1 hx ⟨ot, rfl, rfl⟩
      obtain ⟨t, ht, rfl⟩ := map_get hx
      refine ⟨_, rfl, rfl, _, rfl, ?_⟩
      by_cases h1 : M11.foldG b (ts.take i) = 1
      · refine itDP (by rw [h1]) ?_
        have e : M11.foldG b ts = 1 := by
          rw [← take_append_drop i ts, foldG_app, h1, M11.foldG_one]
        rw [e] at q
        exact q
      · refine itDN (fun z => h1 (V.int.inj z)) ?_
        refine ⟨_, rfl, _, rfl, _, t, rfl, ⟨some (.int t), ?_, rfl⟩⟩
        rw [take_snoc ht, foldG_app]
        rfl
    · rintro σ H1 ⟨ot, rfl, rfl⟩
      have et : ts.take (ts.map V.int).length = ts := by rw [length_map, take_length]
      rw [et]
      exact ⟨_, rfl, q⟩
def spLowered : Sp := fun vs H Q _ => ∃ (l : Addr) (ts : List Int) (b : Int), vs = [.ref l, .int b] ∧ H l = some (.lst (ts.map V.int)) ∧ 0 < b ∧ b.natAbs < 2 ^ 1000 ∧ ts.length ≤ 900 ∧ ∀ v H', Same H H' → RwAt H' v (M11.lowerR ts b) → Q v H'
abbrev nLowered : List Str := ["tops", "bottom", "divisor"]
theorem scLowered : FnScope nLowered ["tops", "bottom"] (defScope sLowered) := ⟨rfl, rfl, rfl, by decide +kernel, rfl, by decide +kernel, by decide +kernel⟩
theorem lcLowered : LcScopes (defScope sLowered) nLowered (lcScope (tupAt (asgVal (bodyAt sLowered 2)) 0)) ["top"] := ⟨by decide +kernel, rfl, by decide +kernel, by decide +kernel, by decide +kernel, by decide +kernel, by decide +kernel, by decide +kernel, by decide +kernel, by decide +kernel⟩
theorem ok_lowered {f fA : Addr} {fd fdA : FuncData} (F : Fun K "lowered" "lowered" sLowered f fd) (DA' : Dn K mg "shared_by_all" sAll ["divisor", "tops"] fA fdA) (GA : FnOk P w K mg base CX0 2 fA fdA ["divisor", "tops"] spAll) : FnOk P w K mg base CX0 3 f fd ["tops", "bottom"] spLowered := by
  refine F.ok scLowered (fun vs H Q E h => ?_) (fun cdv A outer s H vs Q E hr h => ?_)
  · obtain ⟨l, ts, b, rfl, _⟩ := h
    rfl
  · obtain ⟨l, ts, b, rfl, hl, hb, hz, hm, q⟩ := h
    refine ⟨_, pss_cons (ps_set (i := 2) scLowered.nd rfl (Or.inr rfl) (pe_fn DA' GA hr rfl (pa_cons (pv 1) (pa_cons (pv 0) pa_nil))))
      (pss_cons (ps_if (pt_cmpR op_eq (pv 2) pe_int (nomark _)) (pss_one (ps_ret (pe_tup (pa_cons (pv 0) (pa_cons (pv 1) pa_nil))))) pss_nil)
      (pss_one (ps_ret (pe_tup (pa_cons (pe_lc1 rfl lcLowered rfl (pi_list (pv 0)) (fun _ _ _ => pe_op op_fdivB (pv 3) (pv 2))) (pa_cons (pe_op op_fdivB (pv 1) (pv 2)) pa_nil)))))), ?_⟩
    refine ⟨_, rfl, _, rfl, l, ts, b, rfl, hl, ?_⟩
    refine ⟨_, rfl, rfl, _, rfl, ?_⟩
    by_cases h1 : M11.foldG b ts = 1
    · refine itDP (by rw [h1]) ?_
      exact ⟨_, rfl, _, rfl, sz2, fun p hp => q _ _ (Same.upd hp) (by rw [M11.lowerR_one h1]; exact ⟨p, l, rfl, upd_same, by rw [upd_ne (ne_of_none hl hp)]; exact hl⟩)⟩
    · refine itDN (fun z => h1 (V.int.inj z)) ?_
      obtain ⟨g1, g2, g3⟩ := M11.foldG_spec ts b hb
      have g4 := foldG_le hb ts
      have cd : ∀ u, CDivB u (M11.foldG b ts) := fun u => ⟨by omega, Nat.lt_of_le_of_lt g4 hz⟩
      refine ⟨_, rfl, l, rfl, ⟨_, SqL.of hl⟩, fun D hD => ?_⟩
      refine lc_vals (ts.map fun t => V.int (t.fdiv (M11.foldG b ts))) (by rw [length_map, length_map]) (by rw [length_map]; exact hm) hD (SqL.of hl) ?_ ?_ ?_
      · intro i x v H' hx hv s'
        obtain ⟨t, ht, rfl⟩ := map_get hx
        obtain ⟨t', ht', rfl⟩ := map_get hv
        rw [ht] at ht'
        cases ht'
        exact ⟨_, rfl, _, rfl, _, _, rfl, rfl, cd _, rfl, Same.refl _⟩
      · intro H' s' eD
        refine ⟨_, rfl, _, rfl, _, _, rfl, rfl, cd _, sz2, fun p hp => ?_⟩
        refine q _ _ (s'.trans (Same.upd hp)) ⟨p, D, rfl, upd_same, ?_⟩
        rw [upd_ne (ne_of_none eD hp), eD]
        unfold M11.lowerR
        rw [map_map]
        rfl
      · rintro σ H' Q1 Q2 hq ⟨v, e, v', e', i, j, a1, a2, a3, g⟩
        exact ⟨v, e, v', e', i, j, a1, a2, a3, hq _ _ g⟩
open TM in
def spEach : Sp := fun vs H Q _ => ∃ (a l : Addr) (M : List (List Int)) (r : List Int) (n : Nat), vs = [.ref l, .ref a] ∧ (∃ rs, H a = some (.lst (rs.map V.ref)) ∧ RowsAt H rs M) ∧ H l = some (.lst (r.map V.int)) ∧ M.length ≤ 900 ∧ r.length ≤ 900 ∧ n ≤ 1000000 ∧ (∀ x ∈ M, x.length = r.length ∧ ∀ z ∈ x, M11.Bn n z) ∧ (∀ x ∈ r, M11.Bn n x) ∧
  ∀ D H', Same H H' → H' D = some (.lst ((M.map fun w => dot w r).map V.int)) → Q (.ref D) H'
theorem ok_sumsEach {f fD : Addr} {fd fdD : FuncData} (F : Fun K "sums_with_each" "sums_with_each" sEach f fd) (DD : Dn K mg "sum_of_products" sDot ["numbers", "others"] fD fdD) (GD : FnOk P w K mg base CX0 1 fD fdD ["numbers", "others"] spDot) : FnOk P w K mg base CX0 2 f fd ["numbers", "rows"] spEach := by
  refine F.ok scEach (fun vs H Q E h => ?_) (fun cdv A outer s H vs Q E hr h => ?_)
  · obtain ⟨a, l, M, r, n, rfl, _⟩ := h
    rfl
  · obtain ⟨a, l, M, r, n, rfl, ⟨rs, ha, R⟩, hl, hM, hrl, hn, hw, hr', q⟩ := h
    refine ⟨_, pss_one (ps_ret (pe_lc1 rfl lcEach rfl (pi_list (pv 1)) (fun _ _ _ => pe_fn DD GD hr rfl (pa_cons (pv 0) (pa_cons (pv 2) pa_nil))))), ?_⟩
    refine ⟨_, rfl, a, rfl, ⟨_, SqL.of ha⟩, fun D hD => ?_⟩
    refine lc_vals ((M.map fun w => TM.dot w r).map V.int) (by rw [length_map, length_map, length_map, R.len]) (by rw [length_map, R.len]; omega) hD (SqL.of ha) ?_ ?_ ?_
    · intro i x v H' hx hv s'
      obtain ⟨ra, hra, rfl⟩ := map_get hx
      obtain ⟨z, hz, rfl⟩ := map_get hv
      obtain ⟨row, hrow, rfl⟩ := map_get hz
      have er := R.row i ra row hra hrow
      obtain ⟨w1, w2⟩ := hw row (mem_of_getElem? hrow)
      rw [dot_comm row r]
      exact ⟨_, rfl, _, rfl, l, ra, r, row, n, rfl, s' _ _ hl, s' _ _ er, w1.symm, hrl, hn, hr', w2, fun H3 s3 => ⟨rfl, s3⟩⟩
    · intro H' s' eD
      exact q D H' s' eD
    · rintro σ H' Q1 Q2 hq ⟨v, e, v', e', a1, a2, a3, a4, a5, a6, a7, a8, a9, a10, a11, a12, a13, g⟩
      exact ⟨v, e, v', e', a1, a2, a3, a4, a5, a6, a7, a8, a9, a10, a11, a12, a13, fun H3 s3 => hq _ _ (g H3 s3)⟩
open TM in
def sp2R (g : Rw → Rw → Rw) : Sp := fun vs H Q _ => ∃ (v u : V) (r1 r2 : Rw) (k n : Nat), vs = [v, u] ∧ RwAt H v r1 ∧ RwAt H u r2 ∧ r1.1.length = n ∧ r2.1.length = n ∧ n ≤ 900 ∧ k ≤ 1000000 ∧ (∀ x ∈ r1.1, M11.Bn k x) ∧ (∀ x ∈ r2.1, M11.Bn k x) ∧
  (0 < r1.2 ∧ 0 < r2.2 ∧ M11.Bn 499 r1.2 ∧ M11.Bn 499 r2.2 ∧ 499 ≤ k) ∧ ∀ z H', Same H H' → RwAt H' z (g r1 r2) → Q z H'
open TM in
def gBoth (r1 r2 : Rw) : Rw := M11.lowerR (List.zipWith (fun a b => a * b) r1.1 r2.1) (r1.2 * r2.2)
open TM in
def gPlus (r1 r2 : Rw) : Rw := M11.lowerR (List.zipWith (fun a b => a * r2.2 + b * r1.2) r1.1 r2.1) (r1.2 * r2.2)
theorem bot1000 {x y : Int} (hx : M11.Bn 499 x) (hy : M11.Bn 499 y) : (x * y).natAbs < 2 ^ 1000 := (hx.mul hy).mono (m := 1000) (by decide)
abbrev n2R : List Str := ["value", "other", "tops"]
theorem scBoth : FnScope n2R ["value", "other"] (defScope sBothRow) := ⟨rfl, rfl, rfl, by decide +kernel, rfl, by decide +kernel, by decide +kernel⟩
theorem lcBoth : LcScopes (defScope sBothRow) n2R (lcScope (asgVal (bodyAt sBothRow 0))) ["top", "other_top"] := ⟨by decide +kernel, rfl, by decide +kernel, by decide +kernel, by decide +kernel, by decide +kernel, by decide +kernel, by decide +kernel, by decide +kernel, by decide +kernel⟩
theorem ok_both {f fL : Addr} {fd fdL : FuncData} (B : BltR mg) (F : Fun K "one_by_one_product" "one_by_one_product" sBothRow f fd) (DL : Dn K mg "lowered" sLowered ["tops", "bottom"] fL fdL) (GL : FnOk P w K mg base CX0 3 fL fdL ["tops", "bottom"] spLowered) : FnOk P w K mg base CX0 4 f fd ["value", "other"] (sp2R gBoth) := by
  refine F.ok scBoth (fun vs H Q E h => ?_) (fun cdv A outer s H vs Q E hr h => ?_)
  · obtain ⟨v, u, r1, r2, k, n, rfl, _⟩ := h
    rfl
  · obtain ⟨v, u, r1, r2, k, n, rfl, ⟨p, l, rfl, hp, hl⟩, ⟨p', l', rfl, hp', hl'⟩, n1, n2, hn, hk, k1, k2, ⟨b1, b2, b3, b4, b5⟩, q⟩ := h
    refine ⟨_, pss_cons (ps_setLcs (i := 2) scBoth.nd rfl (Or.inl rfl) rfl lcBoth rfl (pi_zip rfl B.zip (pa_cons (pe_ix ix_tup (pv 0) pe_int (fun _ _ => rfl)) (pa_cons (pe_ix ix_tup (pv 1) pe_int (fun _ _ => rfl)) pa_nil))) (pg_two rfl lcBoth) (fun _ _ _ => pts_nil) (fun _ _ _ => pe_op op_mulN (pv 3) (pv 4)))
      (pss_one (ps_ret (pe_fn DL GL hr rfl (pa_cons (pv 2) (pa_cons (pe_op op_mulN (pe_ix ix_tup (pv 0) pe_int (fun _ _ => rfl)) (pe_ix ix_tup (pv 1) pe_int (fun _ _ => rfl))) pa_nil))))), ?_⟩
    refine ⟨_, rfl, p, _, _, _, rfl, rfl, SqT.of hp, rfl, _, rfl, p', _, _, _, rfl, rfl, SqT.of hp', rfl, l, l', rfl, ⟨_, SqL.of hl⟩, ⟨_, SqL.of hl'⟩, ?_⟩
    refine lc_zip ((List.zipWith (fun x y => x * y) r1.1 r2.1).map V.int) rfl (SqL.of hl) (SqL.of hl') (by rw [length_map, length_map, length_zipWith]; omega) (by rw [length_map, length_map, length_zipWith]; omega) (by rw [length_map, length_zipWith]; omega) ?_ ?_ ?_
    · intro i x y v H' hx hy hv s'
      obtain ⟨x, ex, rfl⟩ := map_get hx
      obtain ⟨y, ey, rfl⟩ := map_get hy
      obtain ⟨z, ez, rfl⟩ := map_get hv
      rw [zip_get ex ey] at ez
      cases ez
      exact ⟨_, rfl, _, rfl, _, _, rfl, rfl, ⟨k, hk, k1 x (mem_of_getElem? ex), k2 y (mem_of_getElem? ey)⟩, rfl, Same.refl _⟩
    · intro D H' s' eD
      refine ⟨_, rfl, _, rfl, p, _, _, _, rfl, rfl, SqT.of (s' _ _ hp), rfl, _, rfl, p', _, _, _, rfl, rfl, SqT.of (s' _ _ hp'), rfl, _, _, rfl, rfl, ⟨499, by decide, b3, b4⟩, D, _, _, rfl, eD, Int.mul_pos b1 b2, bot1000 b3 b4, by rw [length_zipWith]; omega, fun z H'' s'' rz => q z H'' (s'.trans s'') rz⟩
    · rintro σ H' Q1 Q2 hq ⟨v, e, v', e', i, j, a1, a2, a3, g⟩
      exact ⟨v, e, v', e', i, j, a1, a2, a3, hq _ _ g⟩
theorem scPlusR : FnScope n2R ["value", "other"] (defScope sPlusRow) := ⟨rfl, rfl, rfl, by decide +kernel, rfl, by decide +kernel, by decide +kernel⟩
theorem lcPlusR : LcScopes (defScope sPlusRow) n2R (lcScope (asgVal (bodyAt sPlusRow 0))) ["top", "other_top"] := ⟨by decide +kernel, rfl, by decide +kernel, by decide +kernel, by decide +kernel, by decide +kernel, by decide +kernel, by decide +kernel, by decide +kernel, by decide +kernel⟩
theorem ok_plusR {f fL : Addr} {fd fdL : FuncData} (B : BltR mg) (F : Fun K "one_by_one_sum" "one_by_one_sum" sPlusRow f fd) (DL : Dn K mg "lowered" sLowered ["tops", "bottom"] fL fdL) (GL : FnOk P w K mg base CX0 3 fL fdL ["tops", "bottom"] spLowered) : FnOk P w K mg base CX0 4 f fd ["value", "other"] (sp2R gPlus) := by
  refine F.ok scPlusR (fun vs H Q E h => ?_) (fun cdv A outer s H vs Q E hr h => ?_)
  · obtain ⟨v, u, r1, r2, k, n, rfl, _⟩ := h
    rfl
  · obtain ⟨v, u, r1, r2, k, n, rfl, ⟨p, l, rfl, hp, hl⟩, ⟨p', l', rfl, hp', hl'⟩, n1, n2, hn, hk, k1, k2, ⟨b1, b2, b3, b4, b5⟩, q⟩ := h
    refine ⟨_, pss_cons (ps_setLcs (i := 2) scPlusR.nd rfl (Or.inl rfl) rfl lcPlusR rfl (pi_zip rfl B.zip (pa_cons (pe_ix ix_tup (pv 0) pe_int (fun _ _ => rfl)) (pa_cons (pe_ix ix_tup (pv 1) pe_int (fun _ _ => rfl)) pa_nil))) (pg_two rfl lcPlusR) (fun _ _ _ => pts_nil)
        (fun _ _ _ => pe_op op_add (pe_op op_mulN (pv 3) (pe_ix (ix_tupK (K := K)) (pv 1) pe_int (fun _ _ => rfl))) (pe_op op_mulN (pv 4) (pe_ix (ix_tupK (K := K)) (pv 0) pe_int (fun _ _ => rfl)))))
      (pss_one (ps_ret (pe_fn DL GL hr rfl (pa_cons (pv 2) (pa_cons (pe_op op_mulN (pe_ix ix_tup (pv 0) pe_int (fun _ _ => rfl)) (pe_ix ix_tup (pv 1) pe_int (fun _ _ => rfl))) pa_nil))))), ?_⟩
    refine ⟨_, rfl, p, _, _, _, rfl, rfl, SqT.of hp, rfl, _, rfl, p', _, _, _, rfl, rfl, SqT.of hp', rfl, l, l', rfl, ⟨_, SqL.of hl⟩, ⟨_, SqL.of hl'⟩, ?_⟩
    refine lc_zip ((List.zipWith (fun x y => x * r2.2 + y * r1.2) r1.1 r2.1).map V.int) rfl (SqL.of hl) (SqL.of hl') (by rw [length_map, length_map, length_zipWith]; omega) (by rw [length_map, length_map, length_zipWith]; omega) (by rw [length_map, length_zipWith]; omega) ?_ ?_ ?_
    · intro i x y v H' hx hy hv s'
      obtain ⟨x, ex, rfl⟩ := map_get hx
      obtain ⟨y, ey, rfl⟩ := map_get hy
      obtain ⟨z, ez, rfl⟩ := map_get hv
      rw [zip_get ex ey] at ez
      cases ez
      refine ⟨_, rfl, _, rfl, p', _, _, _, rfl, rfl, SqT.of (s' _ _ hp'), rfl, _, _, rfl, rfl, ⟨k, hk, k1 x (mem_of_getElem? ex), b4.mono b5⟩, ?_⟩
      exact ⟨_, rfl, _, rfl, p, _, _, _, rfl, rfl, SqT.of (s' _ _ hp), rfl, _, _, rfl, rfl, ⟨k, hk, k2 y (mem_of_getElem? ey), b3.mono b5⟩, _, _, rfl, rfl, rfl, Same.refl _⟩
    · intro D H' s' eD
      refine ⟨_, rfl, _, rfl, p, _, _, _, rfl, rfl, SqT.of (s' _ _ hp), rfl, _, rfl, p', _, _, _, rfl, rfl, SqT.of (s' _ _ hp'), rfl, _, _, rfl, rfl, ⟨499, by decide, b3, b4⟩, D, _, _, rfl, eD, Int.mul_pos b1 b2, bot1000 b3 b4, by rw [length_zipWith]; omega, fun z H'' s'' rz => q z H'' (s'.trans s'') rz⟩
    · rintro σ H' Q1 Q2 hq ⟨v, e, v1, e1, a1, a2, a3, a4, a5, a6, a7, a8, i, j, a9, a10, a11, v2, e2, v3, e3, c1, c2, c3, c4, c5, c6, c7, c8, i', j', c9, c10, c11, i2, j2, d1, d2, g⟩
      exact ⟨v, e, v1, e1, a1, a2, a3, a4, a5, a6, a7, a8, i, j, a9, a10, a11, v2, e2, v3, e3, c1, c2, c3, c4, c5, c6, c7, c8, i', j', c9, c10, c11, i2, j2, d1, d2, hq _ _ g⟩
open TM in
def spMany (K : Frag) : Sp := fun vs H Q _ => ∃ (fa : Addr) (v : V) (a b : Int) (r : Rw) (k : Nat), vs = [.ref fa, v] ∧ SqT K H fa [.int a, .int b] ∧ RwAt H v r ∧ r.1.length ≤ 900 ∧ k ≤ 1000000 ∧ M11.Bn k a ∧ (∀ x ∈ r.1, M11.Bn k x) ∧ 0 < b ∧ 0 < r.2 ∧ M11.Bn 499 b ∧ M11.Bn 499 r.2 ∧
  ∀ z H', Same H H' → RwAt H' z (M11.manyR a b r.1 r.2) → Q z H'
abbrev nMany : List Str := ["f", "value", "from_top", "from_bottom", "top", "bottom"]
theorem scMany : FnScope nMany ["f", "value"] (defScope sManyRow) := ⟨rfl, rfl, rfl, by decide +kernel, rfl, by decide +kernel, by decide +kernel⟩
theorem lcMany : LcScopes (defScope sManyRow) nMany (lcScope (tupAt (asgVal (bodyAt sManyRow 4)) 0)) ["number"] := ⟨by decide +kernel, rfl, by decide +kernel, by decide +kernel, by decide +kernel, by decide +kernel, by decide +kernel, by decide +kernel, by decide +kernel, by decide +kernel⟩
theorem fdiv_leT {g t : Int} (hg : 0 < g) (h : g ∣ t) : (t.fdiv g).natAbs ≤ t.natAbs := by
  obtain ⟨q, e1, e2⟩ := M11.fdiv_of_dvd hg h
  rw [e2, e1]
  exact M11.natAbs_le_of_mul (by omega)
theorem ok_many {f fG fA : Addr} {fd fdG fdA : FuncData} (F : Fun K "many_times" "many_times" sManyRow f fd) (DG : Dn K mg "greatest_divisor" sGd ["number", "other"] fG fdG) (GG : FnOk P w K mg base CX0 1 fG fdG ["number", "other"] spG)
    (DA' : Dn K mg "shared_by_all" sAll ["divisor", "tops"] fA fdA) (GA : FnOk P w K mg base CX0 2 fA fdA ["divisor", "tops"] spAll) : FnOk P w K mg base CX0 3 f fd ["f", "value"] (spMany K) := by
  refine F.ok scMany (fun vs H Q E h => ?_) (fun cdv A outer s H vs Q E hr h => ?_)
  · obtain ⟨fa, v, a, b, r, k, rfl, _⟩ := h
    rfl
  · obtain ⟨fa, v, a, c, r, k, rfl, hf, ⟨p, l, rfl, hp, hl⟩, hn, hk, ka, kr, b1, b2, b3, b4, q⟩ := h
    have r1 := hr.mono (j := 1) (by decide)
    refine ⟨_, pss_cons (ps_set (i := 2) scMany.nd rfl (Or.inl rfl) (pe_fn DG GG r1 rfl (pa_cons (pe_ix ix_tup (pv 0) pe_int (fun _ _ => rfl)) (pa_cons (pe_ix ix_tup (pv 1) pe_int (fun _ _ => rfl)) pa_nil))))
      (pss_cons (ps_set (i := 3) scMany.nd rfl (Or.inr rfl) (pe_fn DA' GA hr rfl (pa_cons (pe_ix ix_tup (pv 0) pe_int (fun _ _ => rfl)) (pa_cons (pe_ix ix_tup (pv 1) pe_int (fun _ _ => rfl)) pa_nil))))
      (pss_cons (ps_set (i := 4) scMany.nd rfl (Or.inr rfl) (pe_op op_fdivB (pe_ix ix_tup (pv 0) pe_int (fun _ _ => rfl)) (pv 2)))
      (pss_cons (ps_set (i := 5) scMany.nd rfl (Or.inl rfl) (pe_op op_mulN (pe_op op_fdivB (pe_ix ix_tup (pv 0) pe_int (fun _ _ => rfl)) (pv 3)) (pe_op op_fdivB (pe_ix ix_tup (pv 1) pe_int (fun _ _ => rfl)) (pv 2))))
      (pss_one (ps_ret (pe_tup (pa_cons (pe_lc1 rfl lcMany rfl (pi_list (pe_ix ix_tup (pv 1) pe_int (fun _ _ => rfl))) (fun _ _ _ => pe_op op_mulN (pv 4) (pe_op op_fdivB (pv 6) (pv 3)))) (pa_cons (pv 5) pa_nil)))))))), ?_⟩
    obtain ⟨g1, g2, g3⟩ := M11.foldG_spec r.1 c b1
    have g4 := foldG_le b1 r.1
    have p1 : 0 < M11.G a r.2 := Int.ofNat_lt.mpr (Int.gcd_pos_of_ne_zero_right a (by omega))
    have p2 : M11.G a r.2 ≤ r.2 := Int.le_of_dvd b2 (Int.gcd_dvd_right a r.2)
    have z3 : c.natAbs < 2 ^ 1000 := b3.mono (m := 1000) (by decide)
    have z4 : r.2.natAbs < 2 ^ 1000 := b4.mono (m := 1000) (by decide)
    have d1 : ∀ u, CDivB u (M11.G a r.2) := fun u => ⟨by omega, Nat.lt_of_le_of_lt (show (M11.G a r.2).natAbs ≤ r.2.natAbs by omega) z4⟩
    have d2 : ∀ u, CDivB u (M11.foldG c r.1) := fun u => ⟨by omega, Nat.lt_of_le_of_lt g4 z3⟩
    clear z3 z4
    refine ⟨_, rfl, fa, _, _, _, rfl, rfl, hf, rfl, _, rfl, p, _, _, _, rfl, rfl, SqT.of hp, rfl, a, r.2, rfl, ?_⟩
    refine ⟨_, rfl, fa, _, _, _, rfl, rfl, hf, rfl, _, rfl, p, _, _, _, rfl, rfl, SqT.of hp, rfl, l, r.1, c, rfl, hl, ?_⟩
    refine ⟨_, rfl, fa, _, _, _, rfl, rfl, hf, rfl, _, rfl, _, _, rfl, rfl, d1 _, ?_⟩
    refine ⟨_, rfl, fa, _, _, _, rfl, rfl, hf, rfl, _, rfl, _, _, rfl, rfl, d2 _, _, rfl, p, _, _, _, rfl, rfl, SqT.of hp, rfl, _, rfl, _, _, rfl, rfl, d1 _, _, _, rfl, rfl, ⟨499, by decide, b3.le (fdiv_leT g1 g2), b4.le (fdiv_leT p1 (Int.gcd_dvd_right a r.2))⟩, ?_⟩
    refine ⟨_, rfl, p, _, _, _, rfl, rfl, SqT.of hp, rfl, l, rfl, ⟨_, SqL.of hl⟩, fun D hD => ?_⟩
    refine lc_vals (r.1.map fun t => V.int (a.fdiv (M11.G a r.2) * t.fdiv (M11.foldG c r.1))) (by rw [length_map, length_map]) (by rw [length_map]; exact hn) hD (SqL.of hl) ?_ ?_ ?_
    · intro i x v H' hx hv s'
      obtain ⟨t, ht, rfl⟩ := map_get hx
      obtain ⟨t', ht', rfl⟩ := map_get hv
      rw [ht] at ht'
      cases ht'
      exact ⟨_, rfl, _, rfl, _, rfl, _, _, rfl, rfl, d2 _, _, _, rfl, rfl, ⟨k, hk, ka.le (fdiv_leT p1 (Int.gcd_dvd_left a r.2)), (kr t (mem_of_getElem? ht)).le (fdiv_leT g1 (g3 t (mem_of_getElem? ht)))⟩, rfl, Same.refl _⟩
    · intro H' s' eD
      refine ⟨_, rfl, sz2, fun p' hp' => ?_⟩
      refine q _ _ (s'.trans (Same.upd hp')) ⟨p', D, rfl, upd_same, ?_⟩
      rw [upd_ne (ne_of_none eD hp'), eD]
      unfold M11.manyR
      rw [map_map]
      rfl
    · rintro σ H' Q1 Q2 hq ⟨v, e, v', e', v2, e2, i, j, a1, a2, a3, i', j', c1, c2, c3, g⟩
      exact ⟨v, e, v', e', v2, e2, i, j, a1, a2, a3, i', j', c1, c2, c3, hq _ _ g⟩
theorem sne {a b : Str} (h : a ≠ b) : ¬ V.str a = V.str b := fun z => h (V.str.inj z)
theorem ones_map (k : Nat) : (List.replicate k [V.int 1]).flatten = (List.replicate k (1 : Int)).map V.int := by
  induction k with
  | zero => rfl
  | succ k ih => rw [replicate_succ, flatten_cons, ih, replicate_succ, map_cons]; rfl
open TM in
def RwsAt (H : Hp) (ps : List V) (hs : List Int) (M : List (List Int)) (ks : List Tm) : Prop := ps.length = ks.length ∧ ∀ (i : Nat) (p : V) (k : Tm), ps[i]? = some p → ks[i]? = some k → RwAt H p (rowR hs M k)
open TM in
theorem RwsAt.mono {H H' : Hp} {ps : List V} {hs : List Int} {M : List (List Int)} {ks : List Tm} (h : RwsAt H ps hs M ks) (s : Same H H') : RwsAt H' ps hs M ks := ⟨h.1, fun i p k h1 h2 => (h.2 i p k h1 h2).mono s⟩
open TM in
theorem RwsAt.split {H : Hp} {ps : List V} {hs : List Int} {M : List (List Int)} {a b : List Tm} (h : RwsAt H ps hs M (a ++ b)) : ∃ x y, ps = x ++ y ∧ RwsAt H x hs M a ∧ RwsAt H y hs M b := by
  have hl := h.1
  rw [length_append] at hl
  have l1 : (ps.take a.length).length = a.length := by rw [length_take]; omega
  have l2 : (ps.drop a.length).length = b.length := by rw [length_drop]; omega
  refine ⟨ps.take a.length, ps.drop a.length, (take_append_drop _ _).symm, ⟨l1, fun i p k h1 h2 => ?_⟩, ⟨l2, fun i p k h1 h2 => ?_⟩⟩
  · have hi : i < a.length := (List.getElem?_eq_some_iff.mp h2).1
    rw [List.getElem?_take_of_lt hi] at h1
    exact h.2 i p k h1 (by rw [getElem?_append_left hi]; exact h2)
  · rw [List.getElem?_drop] at h1
    exact h.2 (a.length + i) p k h1 (by rw [getElem?_append_right (by omega), Nat.add_sub_cancel_left]; exact h2)
open TM in
theorem RwsAt.snoc {H : Hp} {ps : List V} {hs : List Int} {M : List (List Int)} {a : List Tm} {p : V} {t : Tm} (h : RwsAt H ps hs M a) (hp : RwAt H p (rowR hs M t)) : RwsAt H (ps ++ [p]) hs M (a ++ [t]) := by
  refine ⟨by rw [length_append, length_append, h.1]; rfl, fun i p' k h1 h2 => ?_⟩
  by_cases hi : i < ps.length
  · rw [getElem?_append_left hi] at h1
    rw [getElem?_append_left (by rw [← h.1]; exact hi)] at h2
    exact h.2 i p' k h1 h2
  · rw [getElem?_append_right (by omega)] at h1
    rw [getElem?_append_right (by rw [← h.1]; omega), ← h.1] at h2
    cases e : i - ps.length with
    | zero => rw [e] at h1 h2; cases h1; cases h2; exact hp
    | succ j => rw [e] at h1; cases h1
theorem len0 {ps : List V} (h : ps.length = 0) : ps = [] := List.length_eq_zero_iff.mp h
theorem len1 {ps : List V} (h : ps.length = 1) : ∃ x, ps = [x] := List.length_eq_one_iff.mp h
theorem len2 {ps : List V} (h : ps.length = 2) : ∃ x y, ps = [x, y] := by
  match ps, h with
  | [x, y], _ => exact ⟨x, y, rfl⟩
open TM in
def spByKind (K : Frag) : Sp := fun vs H Q _ => ∃ (wA q : Addr) (v : V) (t : Tm) (hs : List Int) (M : List (List Int)) (n : Nat) (ps : List V), vs = [.ref wA, v, .ref q] ∧ WR H wA hs M ∧ MOk n hs M ∧ t.good ∧ t.size ≤ 1000 ∧ t.mans ≤ 12 ∧ DA K any H v t.dat ∧ H q = some (.lst ps) ∧ RwsAt H ps hs M t.kids ∧
  ∀ z H', Same H H' → RwAt H' z (rowR hs M t) → Q z H'
open TM in
theorem bot499 {n s m : Nat} {r : Rw} (h : RwOk n s m r) (hm : m ≤ 12) : M11.Bn 499 r.2 := (pos_pow h.pos h.bot).mono (by omega)
open TM in
theorem tops3 {n s m : Nat} {r : Rw} (h : RwOk n s m r) (hs : s ≤ 1000) : ∀ x ∈ r.1, M11.Bn 300000 x := fun x hx => (h.tops x hx).mono (by omega)
open TM in
def spLeaf (K : Frag) : Sp := fun vs H Q _ => ∃ (wA : Addr) (v : V) (t : Tm) (hs : List Int) (M : List (List Int)) (n : Nat), vs = [.ref wA, v] ∧ WR H wA hs M ∧ MOk n hs M ∧ DA K any H v t.dat ∧ t.kids = [] ∧ ∀ D H', Same H H' → H' D = some (.lst ((rowR hs M t).1.map V.int)) → Q (.ref D) H'
abbrev nLeaf : List Str := ["web", "term", "size", "kind"]
theorem scLeaf : FnScope nLeaf ["web", "term"] (defScope sLeaf) := ⟨rfl, rfl, rfl, by decide +kernel, rfl, by decide +kernel, by decide +kernel⟩
def ifIn (st : Stmt) : Expr := match st with
  | .If _ (b :: _) _ _ => asgVal b
  | _ => .Constant .none 0 ⟨0, 0, 0, 0⟩
theorem lcLeaf : LcScopes (defScope sLeaf) nLeaf (lcScope (ifIn (bodyAt sLeaf 3))) ["hue"] := ⟨by decide +kernel, rfl, by decide +kernel, by decide +kernel, by decide +kernel, by decide +kernel, by decide +kernel, by decide +kernel, by decide +kernel, by decide +kernel⟩
open TM in
theorem ok_leaf {f : Addr} {fd : FuncData} (B : BltR mg) (F : Fun K "tops_of_leaf" "tops_of_leaf" sLeaf f fd) : FnOk P w K mg base CX0 1 f fd ["web", "term"] (spLeaf K) := by
  refine F.ok scLeaf (fun vs H Q E h => ?_) (fun cdv A outer s H vs Q E hr h => ?_)
  · obtain ⟨wA, v, t, hs, M, n, rfl, _⟩ := h
    rfl
  · obtain ⟨wA, v, t, hs, M, n, rfl, hW, hM, hT, hk0, k⟩ := h
    obtain ⟨p, pre, ks, rfl, hp, hk, dk, hhue, hmany⟩ := tm_at t hT
    obtain ⟨hA, rA, rs, w1, w2, w3, R⟩ := hW.ex
    have hn : hs.length ≤ 900 := by have := hM.hl; have := hM.few; omega
    refine ⟨_, pss_cons (ps_set (i := 2) scLeaf.nd rfl (Or.inl rfl) (pe_callB call_len_seq (by rfl) B.len boot_len (pa_cons (pe_ix ix_tup (pv 0) pe_int (fun _ _ => rfl)) pa_nil)))
      (pss_cons (ps_set (i := 3) scLeaf.nd rfl (Or.inl rfl) (pe_ix ix_tup (pv 1) pe_int (fun _ _ => rfl)))
      (pss_cons (ps_if (pt_cmpR op_eq (pv 3) pe_str (nomark _)) (pss_one (ps_ret (pe_op op_rep (pe_lst (pa_cons pe_int pa_nil)) (pv 2)))) pss_nil)
      (pss_cons (ps_if (pt_cmpR op_eq (pv 3) pe_str (nomark _)) (pss_one (ps_ret (pe_lc1 rfl lcLeaf rfl (pi_list (pe_ix ix_tup (pv 0) pe_int (fun _ _ => rfl))) (fun _ _ _ => pe_ifExp (pt_cmpR op_eq (pv 4) (pe_ix (ix_tupK (K := K)) (pv 1) pe_int (fun _ _ => rfl)) (nomark _)) pe_int pe_int)))) pss_nil)
      pss_never))), ?_⟩
    refine ⟨_, rfl, wA, _, _, _, rfl, rfl, SqT.of w1, rfl, hA, _, rfl, .inl (SqL.of w2), ?_⟩
    refine ⟨_, rfl, p, _, _, _, rfl, rfl, hp, at_hd _ _, ?_⟩
    refine ⟨_, rfl, rfl, _, rfl, ?_⟩
    cases t with
    | one =>
      refine itDP rfl ?_
      refine ⟨sz1, fun l1 hl1 => ?_⟩
      refine ⟨_, rfl, l1, _, _, rfl, rfl, upd_same, by omega, by rw [length_map]; omega, Nat.le_of_lt (small1000 (by show 1 * ((((hs.map V.int).length : Nat) : Int)).toNat ≤ 1000; rw [length_map]; omega)), fun l2 hl2 => ?_⟩
      refine k _ _ ((Same.upd hl1).trans (Same.upd hl2)) ?_
      rw [upd_same, Int.toNat_natCast, length_map, ones_map]
      rfl
    | hue c =>
      refine itDN (sne (show ("hue" : Str) ≠ "one" by decide +kernel)) ?_
      refine ⟨_, rfl, rfl, _, rfl, itDP rfl ?_⟩
      have hp2 := hp
      rw [hhue c rfl] at hp2
      refine ⟨_, rfl, wA, _, _, _, rfl, rfl, SqT.of w1, rfl, hA, rfl, ⟨_, SqL.of w2⟩, fun D hD => ?_⟩
      refine lc_vals (hs.map fun h => V.int (if h = c then 1 else 0)) (by rw [length_map, length_map]) (by rw [length_map]; omega) hD (SqL.of w2) ?_ ?_ ?_
      · intro i x v H' hx hv s'
        obtain ⟨t, ht, rfl⟩ := map_get hx
        obtain ⟨t', ht', rfl⟩ := map_get hv
        rw [ht] at ht'
        cases ht'
        refine ⟨_, rfl, _, rfl, p, _, _, _, rfl, rfl, s'.seqT hp2, at_snd _ _ _, rfl, _, rfl, ?_⟩
        by_cases e : t = c
        · subst e
          refine itDP rfl ⟨?_, Same.refl _⟩
          rw [if_pos rfl]
        · refine itDN (fun z => e (V.int.inj z)) ⟨?_, Same.refl _⟩
          rw [if_neg e]
      · intro H' s' eD
        refine k D H' s' ?_
        rw [eD]
        show _ = some (HO.lst ((hs.map fun h => if h = c then (1 : Int) else 0).map V.int))
        rw [map_map]
        rfl
      · rintro σ H' Q1 Q2 hq ⟨v, e, v', e', a1, a2, a3, a4, a5, a6, a7, a8, e2, c', e3, g⟩
        refine ⟨v, e, v', e', a1, a2, a3, a4, a5, a6, a7, a8, e2, c', e3, ?_⟩
        cases c' with
        | true => exact iteT (hq _ _ (by rw [if_pos rfl] at g; exact g))
        | false => exact iteF (hq _ _ (by rw [if_neg Bool.false_ne_true] at g; exact g))
    | near t => cases hk0
    | both t u => cases hk0
    | plus t u => cases hk0
    | many a b t => cases hk0
open TM in
def spFromOne : Sp := fun vs H Q _ => ∃ (wA l : Addr) (hs : List Int) (M : List (List Int)) (r : List Int) (n : Nat), vs = [.ref wA, .str "near", .ref l] ∧ WR H wA hs M ∧ H l = some (.lst (r.map V.int)) ∧ M.length ≤ 900 ∧ r.length ≤ 900 ∧ n ≤ 1000000 ∧ (∀ x ∈ M, x.length = r.length ∧ ∀ z ∈ x, M11.Bn n z) ∧ (∀ x ∈ r, M11.Bn n x) ∧
  ∀ D H', Same H H' → H' D = some (.lst ((M.map fun w => dot w r).map V.int)) → Q (.ref D) H'
abbrev nFromOne : List Str := ["web", "kind", "tops", "rows"]
theorem scFromOne : FnScope nFromOne ["web", "kind", "tops"] (defScope sFromOne) := ⟨rfl, rfl, rfl, by decide +kernel, rfl, by decide +kernel, by decide +kernel⟩
theorem ok_fromOne {f fS : Addr} {fd fdS : FuncData} (F : Fun K "tops_from_one" "tops_from_one" sFromOne f fd) (DS : Dn K mg "sums_with_each" sEach ["numbers", "rows"] fS fdS) (GS : FnOk P w K mg base CX0 2 fS fdS ["numbers", "rows"] spEach) : FnOk P w K mg base CX0 3 f fd ["web", "kind", "tops"] spFromOne := by
  refine F.ok scFromOne (fun vs H Q E h => ?_) (fun cdv A outer s H vs Q E hr h => ?_)
  · obtain ⟨wA, l, hs, M, r, n, rfl, _⟩ := h
    rfl
  · obtain ⟨wA, l, hs, M, r, n, rfl, hW, hl, h1, h2, h3, h4, h5, k⟩ := h
    obtain ⟨hA, rA, rs, w1, w2, w3, R⟩ := hW.ex
    refine ⟨_, pss_cons (ps_if (pt_cmpR op_eq (pv 1) pe_str (nomark _)) (pss_one (ps_ret (pe_fn DS GS hr rfl (pa_cons (pv 2) (pa_cons (pe_ix ix_tup (pv 0) pe_int (fun _ _ => rfl)) pa_nil))))) pss_nil) pss_never, ?_⟩
    refine ⟨_, rfl, rfl, _, rfl, itDP rfl ?_⟩
    exact ⟨_, rfl, _, rfl, wA, _, _, _, rfl, rfl, SqT.of w1, rfl, rA, l, M, r, n, rfl, ⟨rs, w3, R⟩, hl, h1, h2, h3, h4, h5, k⟩
open TM in
def spFromTwo : Sp := fun vs H Q _ => ∃ (wv : V) (b : Bool) (v u : V) (r1 r2 : Rw) (k n : Nat), vs = [wv, .str (if b = true then "plus" else "both"), v, u] ∧ RwAt H v r1 ∧ RwAt H u r2 ∧ r1.1.length = n ∧ r2.1.length = n ∧ n ≤ 900 ∧ k ≤ 1000000 ∧ (∀ x ∈ r1.1, M11.Bn k x) ∧ (∀ x ∈ r2.1, M11.Bn k x) ∧
  (0 < r1.2 ∧ 0 < r2.2 ∧ M11.Bn 499 r1.2 ∧ M11.Bn 499 r2.2 ∧ 499 ≤ k) ∧ ∀ z H', Same H H' → RwAt H' z (if b = true then gPlus r1 r2 else gBoth r1 r2) → Q z H'
abbrev nFromTwo : List Str := ["web", "kind", "value", "other"]
theorem scFromTwo : FnScope nFromTwo nFromTwo (defScope sFromTwo) := ⟨rfl, rfl, rfl, by decide +kernel, rfl, by decide +kernel, by decide +kernel⟩
theorem ok_fromTwo {f fB fP : Addr} {fd fdB fdP : FuncData} (F : Fun K "value_from_two" "value_from_two" sFromTwo f fd)
    (DB : Dn K mg "one_by_one_product" sBothRow ["value", "other"] fB fdB) (GB : FnOk P w K mg base CX0 4 fB fdB ["value", "other"] (sp2R gBoth))
    (DP : Dn K mg "one_by_one_sum" sPlusRow ["value", "other"] fP fdP) (GP : FnOk P w K mg base CX0 4 fP fdP ["value", "other"] (sp2R gPlus)) : FnOk P w K mg base CX0 5 f fd nFromTwo spFromTwo := by
  refine F.ok scFromTwo (fun vs H Q E h => ?_) (fun cdv A outer s H vs Q E hr h => ?_)
  · obtain ⟨wv, b, v, u, r1, r2, k, n, rfl, _⟩ := h
    rfl
  · obtain ⟨wv, b, v, u, r1, r2, k, n, rfl, h1, h2, h3, h4, h5, h6, h7, h8, h9, q⟩ := h
    refine ⟨_, pss_cons (ps_if (pt_cmpR op_eq (pv 1) pe_str (nomark _)) (pss_one (ps_ret (pe_fn DP GP hr rfl (pa_cons (pv 2) (pa_cons (pv 3) pa_nil))))) pss_nil)
      (pss_cons (ps_if (pt_cmpR op_eq (pv 1) pe_str (nomark _)) pss_never pss_nil)
      (pss_one (ps_ret (pe_fn DB GB hr rfl (pa_cons (pv 2) (pa_cons (pv 3) pa_nil)))))), ?_⟩
    refine ⟨_, rfl, rfl, _, rfl, ?_⟩
    cases b with
    | true =>
      refine itDP rfl ?_
      exact ⟨_, rfl, _, rfl, v, u, r1, r2, k, n, rfl, h1, h2, h3, h4, h5, h6, h7, h8, h9, q⟩
    | false =>
      refine itDN (sne (show ("both" : Str) ≠ "plus" by decide +kernel)) ?_
      refine ⟨_, rfl, rfl, _, rfl, itDN (sne (show ("both" : Str) ≠ "then" by decide +kernel)) ?_⟩
      exact ⟨_, rfl, _, rfl, v, u, r1, r2, k, n, rfl, h1, h2, h3, h4, h5, h6, h7, h8, h9, q⟩
abbrev nByKind : List Str := ["web", "term", "inner_values", "kind", "value"]
theorem scByKind : FnScope nByKind ["web", "term", "inner_values"] (defScope sByKind) := ⟨rfl, rfl, rfl, by decide +kernel, rfl, by decide +kernel, by decide +kernel⟩
open TM in
theorem ok_byKind {f fE fO fT fM : Addr} {fd fdE fdO fdT fdM : FuncData} (B : BltR mg) (F : Fun K "value_by_kind" "value_by_kind" sByKind f fd)
    (DE : Dn K mg "tops_of_leaf" sLeaf ["web", "term"] fE fdE) (GE : FnOk P w K mg base CX0 1 fE fdE ["web", "term"] (spLeaf K))
    (DO : Dn K mg "tops_from_one" sFromOne ["web", "kind", "tops"] fO fdO) (GO : FnOk P w K mg base CX0 3 fO fdO ["web", "kind", "tops"] spFromOne)
    (DT : Dn K mg "value_from_two" sFromTwo nFromTwo fT fdT) (GT : FnOk P w K mg base CX0 5 fT fdT nFromTwo spFromTwo)
    (DM : Dn K mg "many_times" sManyRow ["f", "value"] fM fdM) (GM : FnOk P w K mg base CX0 3 fM fdM ["f", "value"] (spMany K)) : FnOk P w K mg base CX0 6 f fd ["web", "term", "inner_values"] (spByKind K) := by
  refine F.ok scByKind (fun vs H Q E h => ?_) (fun cdv A outer s H vs Q E hr h => ?_)
  · obtain ⟨wA, q, v, t, hs, M, n, ps, rfl, _⟩ := h
    rfl
  · obtain ⟨wA, q, v, t, hs, M, n, ps, rfl, hW, hM, hg, hz, hm, hT, hq, hps, k⟩ := h
    have r1 := hr.mono (j := 1) (by decide)
    have r3 := hr.mono (j := 3) (by decide)
    obtain ⟨p, pre, ks, rfl, hp, hk, dk, hhue, hmany⟩ := tm_at t hT
    have hn : hs.length ≤ 900 := by have := hM.hl; have := hM.few; omega
    refine ⟨_, pss_cons (ps_set (i := 3) scByKind.nd rfl (Or.inl rfl) (pe_ix ix_tup (pv 1) pe_int (fun _ _ => rfl)))
      (pss_cons (ps_if (pt_cmpR op_eq (pe_callB call_len_seq (by rfl) B.len boot_len (pa_cons (pv 2) pa_nil)) pe_int (nomark _)) (pss_one (ps_ret (pe_fn DT GT hr rfl (pa_cons (pv 0) (pa_cons (pv 3) (pa_cons (pe_ix ix_list (pv 2) pe_int (fun _ _ => rfl)) (pa_cons (pe_ix ix_list (pv 2) pe_int (fun _ _ => rfl)) pa_nil))))))) pss_nil)
      (pss_cons (ps_if (pt_cmpR op_eq (pe_callB call_len_seq (by rfl) B.len boot_len (pa_cons (pv 2) pa_nil)) pe_int (nomark _)) (pss_one (ps_ret (pe_tup (pa_cons (pe_fn DE GE r1 rfl (pa_cons (pv 0) (pa_cons (pv 1) pa_nil))) (pa_cons pe_int pa_nil))))) pss_nil)
      (pss_cons (ps_set (i := 4) scByKind.nd rfl (Or.inl rfl) (pe_ix ix_list (pv 2) pe_int (fun _ _ => rfl)))
      (pss_cons (ps_if (pt_cmpR op_eq (pv 3) pe_str (nomark _)) (pss_one (ps_ret (pe_fn DM GM r3 rfl (pa_cons (pe_ix ix_tup (pv 1) pe_int (fun _ _ => rfl)) (pa_cons (pv 4) pa_nil))))) pss_nil)
      (pss_one (ps_ret (pe_tup (pa_cons (pe_fn DO GO r3 rfl (pa_cons (pv 0) (pa_cons (pv 3) (pa_cons (pe_ix ix_tup (pv 4) pe_int (fun _ _ => rfl)) pa_nil)))) (pa_cons (pe_ix ix_tup (pv 4) pe_int (fun _ _ => rfl)) pa_nil))))))))), ?_⟩
    refine ⟨_, rfl, p, _, _, _, rfl, rfl, hp, at_hd _ _, ?_⟩
    refine ⟨_, rfl, q, _, rfl, .inl (SqL.of hq), rfl, _, rfl, ?_⟩
    have i02 : ¬ V.int 0 = V.int 2 := fun z => absurd (V.int.inj z) (by decide)
    have i12 : ¬ V.int 1 = V.int 2 := fun z => absurd (V.int.inj z) (by decide)
    have i10 : ¬ V.int 1 = V.int 0 := fun z => absurd (V.int.inj z) (by decide)
    have leaf : ∀ tt : Tm, tt = t → tt.kids = [] → (rowR hs M tt).2 = 1 → ps = [] → ∀ (Dn : Addr) H', Same H H' → H' Dn = some (.lst ((rowR hs M tt).1.map V.int)) → ∀ p', H' p' = none → Q (.ref p') (upd H' p' (.tup [.ref Dn, .int 1])) := by
      rintro tt rfl _ e2 _ D' H' s' eD p' hp'
      refine k _ _ (s'.trans (Same.upd hp')) ⟨p', D', rfl, by rw [upd_same, e2], ?_⟩
      rw [upd_ne (ne_of_none eD hp')]
      exact eD
    obtain ⟨l1, l2⟩ := hps
    cases t with
    | one =>
      obtain rfl := len0 (show ps.length = 0 from l1)
      refine itDN i02 ?_
      refine ⟨_, rfl, q, _, rfl, .inl (SqL.of hq), rfl, _, rfl, itDP rfl ?_⟩
      refine ⟨_, rfl, _, rfl, wA, _, .one, hs, M, n, rfl, hW, hM, hT, rfl, fun D' H' s' eD => ⟨sz2, fun p' hp' => leaf .one rfl rfl rfl rfl D' H' s' eD p' hp'⟩⟩
    | hue c =>
      obtain rfl := len0 (show ps.length = 0 from l1)
      refine itDN i02 ?_
      refine ⟨_, rfl, q, _, rfl, .inl (SqL.of hq), rfl, _, rfl, itDP rfl ?_⟩
      refine ⟨_, rfl, _, rfl, wA, _, .hue c, hs, M, n, rfl, hW, hM, hT, rfl, fun D' H' s' eD => ⟨sz2, fun p' hp' => leaf (.hue c) rfl rfl rfl rfl D' H' s' eD p' hp'⟩⟩
    | near t =>
      obtain ⟨x, rfl⟩ := len1 (show ps.length = 1 from l1)
      have hx := l2 0 x t rfl rfl
      have ok := rowR_ok hM t hg
      simp only [Tm.size] at hz
      refine itDN i12 ?_
      refine ⟨_, rfl, q, _, rfl, .inl (SqL.of hq), rfl, _, rfl, itDN i10 ?_⟩
      refine ⟨_, rfl, q, _, _, _, rfl, rfl, SqL.of hq, at_hd _ _, ?_⟩
      refine ⟨_, rfl, rfl, _, rfl, itDN (sne (show ("near" : Str) ≠ "many" by decide +kernel)) ?_⟩
      obtain ⟨px, lx, rfl, hpx, hlx⟩ := hx
      refine ⟨_, rfl, _, rfl, _, rfl, px, _, _, _, rfl, rfl, SqT.of hpx, rfl, wA, lx, hs, M, (rowR hs M t).1, 300000, rfl, hW, hlx, by have := hM.ml; have := hM.few; omega, by rw [ok.len]; have := hM.few; omega, by decide, fun y hy => ?_, tops3 ok (by omega), fun D' H' s' eD => ?_⟩
      · obtain ⟨y1, y2⟩ := hM.row y hy
        exact ⟨by rw [ok.len]; exact y1, fun z hz' => (bn200 (y2 z hz')).mono (by decide)⟩
      · refine ⟨_, rfl, px, _, _, _, rfl, rfl, SqT.of (s' _ _ hpx), rfl, sz2, fun p' hp' => ?_⟩
        refine k _ _ (s'.trans (Same.upd hp')) ⟨p', D', rfl, upd_same, ?_⟩
        rw [upd_ne (ne_of_none eD hp')]
        exact eD
    | both t u =>
      obtain ⟨x, y, rfl⟩ := len2 (show ps.length = 2 from l1)
      have hx := l2 0 x t rfl rfl
      have hy := l2 1 y u rfl rfl
      have ok1 := rowR_ok hM t hg.1
      have ok2 := rowR_ok hM u hg.2
      simp only [Tm.size] at hz
      simp only [Tm.mans] at hm
      refine itDP rfl ?_
      exact ⟨_, rfl, _, rfl, _, rfl, q, _, _, _, rfl, rfl, SqL.of hq, at_hd _ _, _, rfl, q, _, _, _, rfl, rfl, SqL.of hq, at_snd _ _ _, _, false, x, y, rowR hs M t, rowR hs M u, 300000, n, rfl, hx, hy, ok1.len, ok2.len, by have := hM.few; omega, by decide, tops3 ok1 (by omega), tops3 ok2 (by omega), ⟨ok1.pos, ok2.pos, bot499 ok1 (by omega), bot499 ok2 (by omega), by decide⟩, fun z H' s' rz => k z H' s' rz⟩
    | plus t u =>
      obtain ⟨x, y, rfl⟩ := len2 (show ps.length = 2 from l1)
      have hx := l2 0 x t rfl rfl
      have hy := l2 1 y u rfl rfl
      have ok1 := rowR_ok hM t hg.1
      have ok2 := rowR_ok hM u hg.2
      simp only [Tm.size] at hz
      simp only [Tm.mans] at hm
      refine itDP rfl ?_
      exact ⟨_, rfl, _, rfl, _, rfl, q, _, _, _, rfl, rfl, SqL.of hq, at_hd _ _, _, rfl, q, _, _, _, rfl, rfl, SqL.of hq, at_snd _ _ _, _, true, x, y, rowR hs M t, rowR hs M u, 300000, n, rfl, hx, hy, ok1.len, ok2.len, by have := hM.few; omega, by decide, tops3 ok1 (by omega), tops3 ok2 (by omega), ⟨ok1.pos, ok2.pos, bot499 ok1 (by omega), bot499 ok2 (by omega), by decide⟩, fun z H' s' rz => k z H' s' rz⟩
    | many a b t =>
      obtain ⟨fa, ef, hf⟩ := hmany a b t rfl
      have hp2 := hp
      rw [ef] at hp2
      obtain ⟨x, rfl⟩ := len1 (show ps.length = 1 from l1)
      have hx := l2 0 x t rfl rfl
      have ok := rowR_ok hM t hg.2
      simp only [Tm.size] at hz
      simp only [Tm.mans] at hm
      obtain ⟨g1, g2, g3, g4⟩ := hg.1
      refine itDN i12 ?_
      refine ⟨_, rfl, q, _, rfl, .inl (SqL.of hq), rfl, _, rfl, itDN i10 ?_⟩
      refine ⟨_, rfl, q, _, _, _, rfl, rfl, SqL.of hq, at_hd _ _, ?_⟩
      refine ⟨_, rfl, rfl, _, rfl, itDP rfl ?_⟩
      exact ⟨_, rfl, p, _, _, _, rfl, rfl, hp2, at_snd _ _ _, _, rfl, fa, x, a, b, rowR hs M t, 300000, rfl, hf, hx, by rw [ok.len]; have := hM.few; omega, by decide, (bn200 g1).mono (by decide), tops3 ok (by omega), g2, ok.pos, (pos_pow g2 g3).mono (by decide), bot499 ok (by omega), fun z H' s' rz => k z H' s' rz⟩
open TM in
structure TmW (K : Frag) (H : Hp) (wA : Addr) (v : V) (t : Tm) (hs : List Int) (M : List (List Int)) (n : Nat) : Prop where
  wr : WR H wA hs M
  mo : MOk n hs M
  good : t.good
  size : t.size ≤ 900
  mans : t.mans ≤ 12
  da : DA K any H v t.dat
open TM in
def spOver (K : Frag) : Sp := fun vs H Q _ => ∃ (wA : Addr) (v : V) (t : Tm) (hs : List Int) (M : List (List Int)) (n : Nat), vs = [.ref wA, v] ∧ TmW K H wA v t hs M n ∧ ∀ z H', Same H H' → RwAt H' z (rowR hs M t) → Q z H'
abbrev nOver : List Str := ["web", "term", "values", "part", "first"]
theorem scOver : FnScope nOver ["web", "term"] (defScope sOver) := ⟨rfl, rfl, rfl, by decide +kernel, rfl, by decide +kernel, by decide +kernel⟩
theorem das_at {ok : Addr → Prop} {H : Hp} : ∀ {ys : List V} {ds : List PyData}, DAs K ok H ys ds → ∀ (i : Nat) (x : V), ys[i]? = some x → ∃ d, ds[i]? = some d ∧ DA K ok H x d
  | _, _, .nil, i, x, h => by cases h
  | _, _, .cons a r, 0, x, h => by cases h; exact ⟨_, rfl, a⟩
  | _, _, .cons a r, i + 1, x, h => das_at r i x (by simpa using h)
open TM in
theorem ok_over {f fF fI fK : Addr} {fd fdF fdI fdK : FuncData} (B : BltR mg) (F : Fun K "value_of" "value_of" sOver f fd)
    (DF : Dn K mg "terms_innermost_first" sFirst ["term"] fF fdF) (GF : FnOk P w K mg base CX0 2 fF fdF ["term"] (spFirst K))
    (DI : Dn K mg "inner_terms" sInner ["term"] fI fdI) (GI : FnOk P w K mg base CX0 1 fI fdI ["term"] (spInner K))
    (DK : Dn K mg "value_by_kind" sByKind ["web", "term", "inner_values"] fK fdK) (GK : FnOk P w K mg base CX0 6 fK fdK ["web", "term", "inner_values"] (spByKind K)) : FnOk P w K mg base CX0 7 f fd ["web", "term"] (spOver K) := by
  refine F.ok scOver (fun vs H Q E h => ?_) (fun cdv A outer s H vs Q E hr h => ?_)
  · obtain ⟨wA, v, t, hs, M, n, rfl, _⟩ := h
    rfl
  · obtain ⟨wA, v, t, hs, M, n, rfl, hT, k⟩ := h
    have r1 := hr.mono (j := 1) (by decide)
    have r2 := hr.mono (j := 2) (by decide)
    refine ⟨_, pss_cons (ps_set (i := 2) scOver.nd rfl (Or.inl rfl) (pe_lst pa_nil))
      (pss_cons (ps_for PassesOwn.never rfl (pi_list (pe_fn DF GF r2 rfl (pa_cons (pv 1) pa_nil))) (pg_name (i := 3) scOver.nd rfl (Or.inl rfl))
        (pss_mid (ps_set (i := 4) scOver.nd rfl (Or.inl rfl) (pe_op op_sub (pe_callB call_len_seq (by rfl) B.len boot_len (pa_cons (pv 2) pa_nil)) (pe_callB call_len_seq (by rfl) B.len boot_len (pa_cons (pe_fn DI GI r1 rfl (pa_cons (pv 3) pa_nil)) pa_nil))))
        (pss_one (ps_set (i := 2) scOver.nd rfl (Or.inl rfl) (pe_op op_cat (pe_slice sl_list (pv 2) po_none (po_some (pv 4))) (pe_lst (pa_cons (pe_fn DK GK hr rfl (pa_cons (pv 0) (pa_cons (pv 3) (pa_cons (pe_slice sl_list (pv 2) (po_some (pv 4)) po_none) pa_nil)))) pa_nil)))))))
      (pss_one (ps_ret (pe_ix ix_list (pv 2) pe_int (fun _ _ => rfl))))), ?_⟩
    refine ⟨Nat.zero_le _, fun R0 hR0 => ?_⟩
    have s0 : Same H (upd H R0 (.lst [])) := Same.upd hR0
    have e0 : upd H R0 (.lst []) R0 = some (.lst []) := upd_same
    generalize upd H R0 (.lst []) = Ha at s0 e0 ⊢
    refine ⟨_, rfl, v, t, H, rfl, s0, hT.da, hT.size, fun L fs H1 s1 eL dF => ?_⟩
    have lf := das_len dF
    rw [length_map] at lf
    have lp : t.pre.reverse.length = t.size := by rw [List.length_reverse, Tm.pre_len]
    have s01 := s0.trans s1
    refine ⟨L, rfl, ⟨_, SqL.of eL⟩, for_list (xs := fs) (fun i σ H' => ∃ (o3 o4 : Option V) (R : Addr) (ps : List V) (ss : List Tm), σ = [some (.ref wA), some v, some (.ref R), o3, o4] ∧ Same H1 H' ∧ H' R = some (.lst ps) ∧ RwsAt H' ps hs M ss ∧ Ch ss (t.pre.reverse.drop i) [t] ∧ ss.length ≤ i)
      ⟨none, none, R0, [], [], rfl, Same.refl _, s1 _ _ e0, ⟨rfl, fun i p k h _ => by cases h⟩, by simpa using t.chain [], Nat.le_refl _⟩ (fun i σ H' _ ⟨_, _, _, _, _, _, s', _⟩ => SqL.of (s' _ _ eL)) ?_ ?_⟩
    · rintro i x σ H2 hx ⟨o3, o4, R, ps, ss, rfl, s2, eR, hps, hch, hsl⟩
      obtain ⟨d, hd, dx⟩ := das_at dF i x hx
      obtain ⟨tm, htm, rfl⟩ := map_get hd
      have hi : i < t.pre.reverse.length := (List.getElem?_eq_some_iff.mp htm).1
      have edrop : t.pre.reverse.drop i = tm :: t.pre.reverse.drop (i + 1) := by
        rw [List.drop_eq_getElem_cons hi]
        congr 1
        rw [getElem?_eq_getElem hi] at htm
        exact Option.some.inj htm
      rw [edrop] at hch
      obtain ⟨Bs, rfl, hch'⟩ := hch.pop
      obtain ⟨xa, ya, rfl, hxa, hya⟩ := hps.split
      have hmem : tm ∈ t.pre := List.mem_reverse.mp (mem_of_getElem? htm)
      have tg : tm.good := Tm.pre_prop (p := fun z => z.good) (fun a b g h => Tm.kid_good g h) t hT.good tm hmem
      have ts : tm.size ≤ 900 := Tm.pre_prop (p := fun z => z.size ≤ 900) (fun a b g h => by have := Tm.kid_size h; omega) t hT.size tm hmem
      have tms : tm.mans ≤ 12 := Tm.pre_prop (p := fun z => z.mans ≤ 12) (fun a b g h => by have := Tm.kid_mans h; omega) t hT.mans tm hmem
      have s02 := s01.trans s2
      refine ⟨fun σ H3 => σ = [some (.ref wA), some v, some (.ref R), some x, some (.int ((xa.length : Nat) : Int))] ∧ Same H2 H3, ?_, ?_⟩
      · refine ⟨_, rfl, R, _, rfl, .inl (SqL.of eR), _, rfl, x, tm, H, rfl, s02, dx, fun q ks H3 s3 eq lk dk => ?_⟩
        refine ⟨q, _, rfl, .inr (SqT.of eq), _, _, rfl, rfl, ?_, s3⟩
        have ef : (((xa ++ ya).length : Nat) : Int) - ((ks.length : Nat) : Int) = ((xa.length : Nat) : Int) := by
          rw [length_append, hya.1, lk]; omega
        rw [← ef]
        rfl
      rintro σ3 H3 ⟨rfl, s3⟩
      refine ⟨_, rfl, _, rfl, _, rfl, R, _, rfl, SqL.of (s3 _ _ eR), fun p0 hp0 => ?_⟩
      rw [cut_ahead]
      have s4 : Same H3 (upd H3 p0 (.lst xa)) := Same.upd hp0
      have e4 : upd H3 p0 (.lst xa) p0 = some (.lst xa) := upd_same
      generalize upd H3 p0 (.lst xa) = H4 at s4 e4 ⊢
      refine ⟨_, rfl, _, rfl, _, rfl, _, rfl, _, rfl, R, _, rfl, SqL.of (s4 _ _ (s3 _ _ eR)), fun p1 hp1 => ?_⟩
      rw [cut_behind]
      have s5 : Same H4 (upd H4 p1 (.lst ya)) := Same.upd hp1
      have e5 : upd H4 p1 (.lst ya) p1 = some (.lst ya) := upd_same
      generalize upd H4 p1 (.lst ya) = H5 at s5 e5 ⊢
      have s35 := (s3.trans s4).trans s5
      have s05 := s02.trans s35
      refine ⟨wA, p1, x, tm, hs, M, n, ya, rfl, hT.wr.mono s05, hT.mo, tg, by omega, tms, dx.mono s05.keep (fun _ _ => trivial), e5, hya.mono s35, fun z H6 s6 rz => ?_⟩
      refine ⟨sz1, fun p2 hp2 => ?_⟩
      have s7 : Same H6 (upd H6 p2 (.lst [z])) := Same.upd hp2
      have e7 : upd H6 p2 (.lst [z]) p2 = some (.lst [z]) := upd_same
      generalize upd H6 p2 (.lst [z]) = H7 at s7 e7 ⊢
      have s57 := s6.trans s7
      refine ⟨p0, p2, xa, [z], rfl, rfl, s57 _ _ (s5 _ _ e4), e7, Nat.le_of_lt (small1000 (by
        have := hxa.1
        have h9 := hT.size
        have h8 : i < t.size := by rw [← lp]; exact hi
        rw [length_append] at hsl
        show xa.length + 1 ≤ 1000
        omega)), fun p3 hp3 => ?_⟩
      have s8 : Same H7 (upd H7 p3 (.lst (xa ++ [z]))) := Same.upd hp3
      refine ⟨_, _, p3, xa ++ [z], Bs ++ [tm], rfl, ((s2.trans s35).trans s57).trans s8, upd_same, (hxa.mono ((s35.trans s57).trans s8)).snoc (rz.mono (s7.trans s8)), hch', ?_⟩
      rw [length_append] at hsl ⊢
      show _ + 1 ≤ _
      omega
    · rintro σ H2 ⟨o3, o4, R, ps, ss, rfl, s2, eR, hps, hch, hsl⟩
      have ed : t.pre.reverse.drop fs.length = [] := by rw [lf]; exact List.drop_length
      rw [ed] at hch
      have := hch.done
      subst this
      obtain ⟨l1, l2⟩ := hps
      match ps, l1 with
      | [z], _ =>
        exact ⟨_, rfl, R, _, _, _, rfl, rfl, SqL.of eR, at_hd _ _, k z H2 (s01.trans s2) (l2 0 z t rfl rfl)⟩
def frV (H : Hp) (v : V) (l : Int × Int) : Prop := ∃ p, v = .ref p ∧ H p = some (tupF l)
open TM in
theorem low1000 {n s m : Nat} {r : Rw} (h : RwOk n s m r) (hm : m ≤ 12) : r.2 ≠ 0 ∧ r.2.natAbs < 2 ^ 1000 := ⟨Int.ne_of_gt h.pos, (bot499 h hm).mono (m := 1000) (by decide)⟩
open TM in
def spTov : Sp := fun vs H Q _ => ∃ (v : V) (r : Rw), vs = [v] ∧ RwAt H v r ∧ r.2 ≠ 0 ∧ r.2.natAbs < 2 ^ 1000 ∧ ∀ u H', Same H H' → frV H' u (M11.low r.1.sum r.2) → Q u H'
theorem scTov : FnScope ["value"] ["value"] (defScope sTov) := ⟨rfl, rfl, rfl, by decide +kernel, rfl, by decide +kernel, by decide +kernel⟩
theorem ok_tov {f fF : Addr} {fd fdF : FuncData} (B : BltR mg) (F : Fun K "total_of_value" "total_of_value" sTov f fd) (DF : Dn K mg "fraction_of" sFr ["top", "bottom"] fF fdF) (GF : FnOk P w K mg base CX0 2 fF fdF ["top", "bottom"] spF) : FnOk P w K mg base CX0 3 f fd ["value"] spTov := by
  refine F.ok scTov (fun vs H Q E h => ?_) (fun cdv A outer s H vs Q E hr h => ?_)
  · obtain ⟨v, r, rfl, _⟩ := h
    rfl
  · obtain ⟨v, r, rfl, ⟨p, l, rfl, hp, hl⟩, lz, l1000, q⟩ := h
    refine ⟨_, pss_one (ps_ret (pe_fn DF GF hr rfl (pa_cons (pe_callB (call_sum rfl) (by rfl) B.sum boot_sum (pa_cons (pe_ix ix_tup (pv 0) pe_int (fun _ _ => rfl)) pa_nil)) (pa_cons (pe_ix ix_tup (pv 0) pe_int (fun _ _ => rfl)) pa_nil)))), ?_⟩
    exact ⟨_, rfl, p, _, _, _, rfl, rfl, SqT.of hp, rfl, l, _, rfl, SqL.of hl, _, rfl, p, _, _, _, rfl, rfl, SqT.of hp, rfl, _, _, rfl, lz, l1000, fun p' hp' => q _ _ (Same.upd hp') ⟨p', rfl, upd_same⟩⟩
open TM in
def spTotalOf (K : Frag) : Sp := fun vs H Q _ => ∃ (wA : Addr) (v : V) (t : Tm) (hs : List Int) (M : List (List Int)) (n : Nat), vs = [.ref wA, v] ∧ TmW K H wA v t hs M n ∧ ∀ u H', Same H H' → frV H' u (M11.low (rowR hs M t).1.sum (rowR hs M t).2) → Q u H'
theorem scTot : FnScope ["web", "term"] ["web", "term"] (defScope sTot) := ⟨rfl, rfl, rfl, by decide +kernel, rfl, by decide +kernel, by decide +kernel⟩
open TM in
theorem ok_tot {f fO fF : Addr} {fd fdO fdF : FuncData} (F : Fun K "total_of_term" "total_of_term" sTot f fd) (DO : Dn K mg "value_of" sOver ["web", "term"] fO fdO) (GO : FnOk P w K mg base CX0 7 fO fdO ["web", "term"] (spOver K))
    (DF : Dn K mg "total_of_value" sTov ["value"] fF fdF) (GF : FnOk P w K mg base CX0 3 fF fdF ["value"] spTov) : FnOk P w K mg base CX0 8 f fd ["web", "term"] (spTotalOf K) := by
  refine F.ok scTot (fun vs H Q E h => ?_) (fun cdv A outer s H vs Q E hr h => ?_)
  · obtain ⟨wA, v, t, hs, M, n, rfl, _⟩ := h
    rfl
  · obtain ⟨wA, v, t, hs, M, n, rfl, hT, k⟩ := h
    have r3 := hr.mono (j := 3) (by decide)
    refine ⟨_, pss_one (ps_ret (pe_fn DF GF r3 rfl (pa_cons (pe_fn DO GO hr rfl (pa_cons (pv 0) (pa_cons (pv 1) pa_nil))) pa_nil))), ?_⟩
    refine ⟨_, rfl, _, rfl, wA, v, t, hs, M, n, rfl, hT, fun z H1 s1 hz => ?_⟩
    have ok := rowR_ok hT.mo t hT.good
    obtain ⟨lz, l1000⟩ := low1000 ok hT.mans
    exact ⟨z, _, rfl, hz, lz, l1000, fun u H' s' fu => k u H' (s1.trans s') fu⟩
theorem scTotalOf : FnScope ["web", "term"] ["web", "term"] (defScope sTotalOf) := ⟨rfl, rfl, rfl, by decide +kernel, rfl, by decide +kernel, by decide +kernel⟩
theorem ok_totalOf {f fO : Addr} {fd fdO : FuncData} (F : Fun K "total_of" "total_of" sTotalOf f fd) (DO : Dn K mg "total_of_term" sTot ["web", "term"] fO fdO) (GO : FnOk P w K mg base CX0 8 fO fdO ["web", "term"] (spTotalOf K)) : FnOk P w K mg base CX0 9 f fd ["web", "term"] (spTotalOf K) := by
  refine F.ok scTotalOf (fun vs H Q E h => ?_) (fun cdv A outer s H vs Q E hr h => ?_)
  · obtain ⟨wA, v, t, hs, M, n, rfl, _⟩ := h
    rfl
  · obtain ⟨wA, v, t, hs, M, n, rfl, hT, k⟩ := h
    exact ⟨_, pss_one (ps_ret (pe_fn DO GO hr rfl (pa_cons (pv 0) (pa_cons (pv 1) pa_nil)))), _, rfl, _, rfl, wA, v, t, hs, M, n, rfl, hT, k⟩
end
inductive Tr where
  | nd (i : Nat) (w : Option Int) (bs : List Tr)
def Tr.root : Tr → Nat
  | .nd i _ _ => i
def dWish : Option Int → PyData
  | none => .none
  | some c => .int c
def vWish : Option Int → V
  | none => .non
  | some c => .int c
def tmBase : Option Int → PyData
  | none => .tuple [.str "one"]
  | some c => .tuple [.str "hue", .int c]
mutual
def Tr.dat : Tr → PyData
  | .nd _ w bs => .tuple [dWish w, .list (Tr.dats bs)]
def Tr.dats : List Tr → List PyData
  | [] => []
  | t :: ts => t.dat :: Tr.dats ts
end
mutual
def Tr.term : Tr → PyData
  | .nd _ w bs => Tr.fold (tmBase w) bs
def Tr.fold (a : PyData) : List Tr → PyData
  | [] => a
  | t :: ts => Tr.fold (.tuple [.str "both", a, .tuple [.str "near", t.term]]) ts
end
mutual
def Tr.knots : Tr → Nat
  | .nd _ _ bs => 1 + Tr.knotss bs
def Tr.knotss : List Tr → Nat
  | [] => 0
  | t :: ts => t.knots + Tr.knotss ts
end
mutual
def Tr.deep : Tr → Nat
  | .nd _ _ bs => 1 + Tr.deeps bs
def Tr.deeps : List Tr → Nat
  | [] => 0
  | t :: ts => max t.deep (Tr.deeps ts)
end
mutual
def Tr.labs : Tr → List Nat
  | .nd i _ bs => i :: Tr.labss bs
def Tr.labss : List Tr → List Nat
  | [] => []
  | t :: ts => t.labs ++ Tr.labss ts
end
mutual
def Tr.add (j k : Nat) (wk : Option Int) : Tr → Tr
  | .nd i w bs => .nd i w (Tr.adds j k wk bs ++ if i = j then [.nd k wk []] else [])
def Tr.adds (j k : Nat) (wk : Option Int) : List Tr → List Tr
  | [] => []
  | t :: ts => t.add j k wk :: Tr.adds j k wk ts
end
mutual
def Tr.ok (ws : Nat → Option Int) (ch : Nat → List Nat) : Tr → Prop
  | .nd i w bs => w = ws i ∧ ch i = bs.map Tr.root ∧ Tr.oks ws ch bs
def Tr.oks (ws : Nat → Option Int) (ch : Nat → List Nat) : List Tr → Prop
  | [] => True
  | t :: ts => t.ok ws ch ∧ Tr.oks ws ch ts
end
theorem Tr.root_add (j k : Nat) (wk : Option Int) : ∀ t : Tr, (t.add j k wk).root = t.root
  | .nd i w bs => by rw [Tr.add]; rfl
theorem Tr.roots_adds (j k : Nat) (wk : Option Int) : ∀ ts : List Tr, (Tr.adds j k wk ts).map Tr.root = ts.map Tr.root
  | [] => by rw [Tr.adds]
  | t :: ts => by rw [Tr.adds, map_cons, map_cons, Tr.root_add, Tr.roots_adds j k wk ts]
theorem Tr.oks_app {ws : Nat → Option Int} {ch : Nat → List Nat} : ∀ {a b : List Tr}, Tr.oks ws ch a → Tr.oks ws ch b → Tr.oks ws ch (a ++ b)
  | [], b, _, h => h
  | t :: a, b, h, h2 => by
    rw [Tr.oks] at h
    rw [cons_append, Tr.oks]
    exact ⟨h.1, Tr.oks_app h.2 h2⟩
def hung (ch : Nat → List Nat) (j k : Nat) : Nat → List Nat := fun i => if i = j then ch j ++ [k] else ch i
theorem Tr.labss_app : ∀ a b : List Tr, Tr.labss (a ++ b) = Tr.labss a ++ Tr.labss b
  | [], b => by rw [Tr.labss]; rfl
  | t :: a, b => by rw [cons_append, Tr.labss, Tr.labss, Tr.labss_app a b, List.append_assoc]
theorem Tr.knotss_app : ∀ a b : List Tr, Tr.knotss (a ++ b) = Tr.knotss a + Tr.knotss b
  | [], b => by rw [Tr.knotss, nil_append, Nat.zero_add]
  | t :: a, b => by rw [cons_append, Tr.knotss, Tr.knotss, Tr.knotss_app a b, Nat.add_assoc]
mutual
theorem Tr.deep_le : ∀ t : Tr, t.deep ≤ t.knots
  | .nd _ _ bs => by
    rw [Tr.deep, Tr.knots]
    have := Tr.deeps_le bs
    omega
theorem Tr.deeps_le : ∀ ts : List Tr, Tr.deeps ts ≤ Tr.knotss ts
  | [] => by rw [Tr.deeps]; exact Nat.zero_le _
  | t :: ts => by
    rw [Tr.deeps, Tr.knotss]
    have := Tr.deep_le t
    have := Tr.deeps_le ts
    omega
end
theorem Tr.knots_pos : ∀ t : Tr, 1 ≤ t.knots
  | .nd _ _ bs => by rw [Tr.knots]; omega
theorem Tr.deep_pos : ∀ t : Tr, 1 ≤ t.deep
  | .nd _ _ bs => by rw [Tr.deep]; omega
theorem Tr.deeps_get {d : Nat} : ∀ {ts : List Tr} {i : Nat} {t : Tr}, Tr.deeps ts ≤ d → ts[i]? = some t → t.deep ≤ d
  | t' :: ts, 0, t, h, e => by
    rw [Tr.deeps] at h
    cases e
    omega
  | t' :: ts, i + 1, t, h, e => by
    rw [Tr.deeps] at h
    exact Tr.deeps_get (ts := ts) (i := i) (by omega) (by simpa using e)
theorem Tr.knotss_get {d : Nat} : ∀ {ts : List Tr} {i : Nat} {t : Tr}, Tr.knotss ts ≤ d → ts[i]? = some t → t.knots ≤ d
  | t' :: ts, 0, t, h, e => by
    rw [Tr.knotss] at h
    cases e
    omega
  | t' :: ts, i + 1, t, h, e => by
    rw [Tr.knotss] at h
    exact Tr.knotss_get (ts := ts) (i := i) (by omega) (by simpa using e)
theorem Tr.knotss_len : ∀ ts : List Tr, ts.length ≤ Tr.knotss ts
  | [] => Nat.zero_le _
  | t :: ts => by
    rw [Tr.knotss, length_cons]
    have := Tr.knots_pos t
    have := Tr.knotss_len ts
    omega
theorem Tr.dats_len : ∀ ts : List Tr, (Tr.dats ts).length = ts.length
  | [] => by rw [Tr.dats]; rfl
  | t :: ts => by rw [Tr.dats, length_cons, length_cons, Tr.dats_len ts]
theorem Tr.dats_get : ∀ (ts : List Tr) (i : Nat), (Tr.dats ts)[i]? = (ts[i]?).map Tr.dat
  | [], i => by rw [Tr.dats]; simp
  | t :: ts, 0 => by rw [Tr.dats]; rfl
  | t :: ts, i + 1 => by rw [Tr.dats]; simpa using Tr.dats_get ts i
theorem Tr.fold_snoc (t : Tr) : ∀ (ts : List Tr) (a : PyData), Tr.fold a (ts ++ [t]) = .tuple [.str "both", Tr.fold a ts, .tuple [.str "near", t.term]]
  | [], a => by rw [nil_append, Tr.fold, Tr.fold, Tr.fold]
  | t' :: ts, a => by rw [cons_append, Tr.fold, Tr.fold, Tr.fold_snoc t ts]
theorem Tr.knotss_snoc (t : Tr) (ts : List Tr) : Tr.knotss (ts ++ [t]) = Tr.knotss ts + t.knots := by
  rw [Tr.knotss_app, Tr.knotss, Tr.knotss, Nat.add_zero]
theorem strOk_one : PyData.strOk "one" = true := by decide +kernel
theorem strOk_hue : PyData.strOk "hue" = true := by decide +kernel
theorem strOk_both : PyData.strOk "both" = true := by decide +kernel
theorem strOk_near : PyData.strOk "near" = true := by decide +kernel
theorem lay_base (w : Option Int) : (tmBase w).canLay0 = true ∧ (tmBase w).depth = 1 := by
  cases w with
  | none => simp [tmBase, PyData.canLay0, PyData.canLayAll0, PyData.depth, PyData.depthAll, strOk_one]
  | some c => simp [tmBase, PyData.canLay0, PyData.canLayAll0, PyData.depth, PyData.depthAll, strOk_hue]
theorem lay_wish (w : Option Int) : (dWish w).canLay0 = true ∧ (dWish w).depth = 0 := by
  cases w <;> simp [dWish, PyData.canLay0, PyData.depth]
section
variable {P : Program} {w : World} {K : Frag} {mg : Str → Option Value} {base : Heap}
abbrev Nw (H : Hp) (a : Addr) : Prop := H a = none
theorem DA.any {ok : Addr → Prop} {H : Hp} {v : V} {d : PyData} (h : DA K ok H v d) : DA K L2.any H v d := h.mono (Keep.refl _ _) fun _ _ => trivial
theorem DA.same {ok : Addr → Prop} {H H' : Hp} {v : V} {d : PyData} (h : DA K ok H v d) (s : Same H H') : DA K ok H' v d := h.mono s.keep fun _ x => x
theorem DAs.get {ok : Addr → Prop} {H : Hp} : ∀ {ys : List V} {ds : List PyData}, DAs K ok H ys ds → ys.length = ds.length ∧ ∀ (i : Nat) (x : V), ys[i]? = some x → ∃ d, ds[i]? = some d ∧ DA K ok H x d
  | _, _, .nil => ⟨rfl, fun i x h => by cases h⟩
  | _, _, .cons a r => by
    obtain ⟨h1, h2⟩ := DAs.get r
    refine ⟨by rw [length_cons, length_cons, h1], fun i x h => ?_⟩
    cases i with
    | zero => cases h; exact ⟨_, rfl, a⟩
    | succ i => exact h2 i x (by simpa using h)
theorem tree_at {ok : Addr → Prop} {H : Hp} {i : Nat} {p : Addr} {w : Option Int} {bs : List Tr} (h : DA K ok H (.ref p) (Tr.nd i w bs).dat) : ∃ l ys, SqT K H p [vWish w, .ref l] ∧ SqL K H l ys ∧ ys.length = bs.length ∧ ∀ (i : Nat) (x : V), ys[i]? = some x → ∃ t, bs[i]? = some t ∧ DA K ok H x t.dat := by
  rw [Tr.dat] at h
  cases h with
  | tup _ hs r =>
    cases r with
    | cons r1 r =>
      cases r with
      | cons r2 r =>
        cases r
        cases r2 with
        | lst _ hl q =>
          obtain ⟨q1, q2⟩ := DAs.get q
          rw [Tr.dats_len] at q1
          refine ⟨_, _, ?_, hl, q1, fun i x hx => ?_⟩
          · cases w with
            | none => cases r1; exact hs
            | some c => cases r1; exact hs
          · obtain ⟨d, e, z⟩ := q2 i x hx
            rw [Tr.dats_get] at e
            obtain ⟨t, e1, rfl⟩ := Option.map_eq_some_iff.mp e
            exact ⟨t, e1, z⟩
theorem tree_ref {ok : Addr → Prop} {H : Hp} {v : V} : ∀ {t : Tr}, DA K ok H v t.dat → ∃ p, v = .ref p
  | .nd i w bs, h => by
    rw [Tr.dat] at h
    cases h
    exact ⟨_, rfl⟩
def spTermOf (K : Frag) (d : Nat) : Sp := fun vs H Q _ => ∃ (v : V) (t : Tr), vs = [v] ∧ DA K any H v t.dat ∧ t.deep ≤ d ∧ ∀ u H', Same H H' → DA K (Nw H) H' u t.term → Q u H'
abbrev nTermOf : List Str := ["tree", "wish", "term", "bough"]
theorem scTermOf : FnScope nTermOf ["tree"] (defScope sTermOf) := ⟨rfl, rfl, rfl, by decide +kernel, rfl, by decide +kernel, by decide +kernel⟩
theorem ok_termOf {f : Addr} {fd : FuncData} (D : Dn K mg "term_of" sTermOf ["tree"] f fd) : ∀ d : Nat, FnOk P w K mg base CX0 (d + 1) f fd ["tree"] (spTermOf K d) := by
  intro d
  induction d with
  | zero =>
    refine D.fn.ok scTermOf (fun vs H Q E h => ?_) (fun cdv A outer s H vs Q E hr h => ?_)
    · obtain ⟨v, t, rfl, _⟩ := h
      rfl
    · obtain ⟨v, t, rfl, _, h, _⟩ := h
      have := t.deep_pos
      omega
  | succ d G =>
    refine D.fn.ok scTermOf (fun vs H Q E h => ?_) (fun cdv A outer s H vs Q E hr h => ?_)
    · obtain ⟨v, t, rfl, _⟩ := h
      rfl
    · obtain ⟨v, t, rfl, hT, hd, q⟩ := h
      obtain ⟨p, rfl⟩ := tree_ref hT
      cases t with
      | nd i0 wi bs =>
        rw [Tr.deep] at hd
        have hd' : Tr.deeps bs ≤ d := by omega
        obtain ⟨l, ys, hp, hl, hlen, hys⟩ := tree_at hT
        refine ⟨_, pss_cons (ps_set (i := 1) scTermOf.nd rfl (Or.inl rfl) (pe_ix ix_tup (pv 0) pe_int (fun _ _ => rfl)))
          (pss_mid (ps_set (i := 2) scTermOf.nd rfl (Or.inl rfl) (pe_ifExp (pt_cmpR op_isN (pv 1) pe_non (nomark _)) (pe_tup (pa_cons pe_str pa_nil)) (pe_tup (pa_cons pe_str (pa_cons (pv 1) pa_nil)))))
          (pss_cons (ps_for PassesOwn.never rfl (pi_list (pe_ix ix_tup (pv 0) pe_int (fun _ _ => rfl))) (pg_name (i := 3) scTermOf.nd rfl (Or.inl rfl))
            (pss_one (ps_set (i := 2) scTermOf.nd rfl (Or.inl rfl) (pe_tup (pa_cons pe_str (pa_cons (pv 2) (pa_cons (pe_tup (pa_cons pe_str (pa_cons (pe_fn D G hr rfl (pa_cons (pv 3) pa_nil)) pa_nil))) pa_nil)))))))
          (pss_one (ps_ret (pv 2))))), ?_⟩
        refine ⟨_, rfl, p, _, _, _, rfl, rfl, hp, rfl, ?_⟩
        refine ⟨fun σ H1 => ∃ tv, σ = [some (.ref p), some (vWish wi), some tv, none] ∧ Same H H1 ∧ DA K (Nw H) H1 tv (tmBase wi), ?_, ?_⟩
        · refine ⟨_, rfl, rfl, _, rfl, ?_⟩
          cases wi with
          | none =>
            refine iteT ?_
            refine ⟨sz1, fun t ht => ?_⟩
            exact ⟨_, rfl, Same.upd ht, .tup ht (SqT.of upd_same) (.cons (.str _) .nil)⟩
          | some c =>
            refine iteF ?_
            refine ⟨_, rfl, sz2, fun t ht => ?_⟩
            exact ⟨_, rfl, Same.upd ht, .tup ht (SqT.of upd_same) (.cons (.str _) (.cons (.int _) .nil))⟩
        · rintro σ1 H1 ⟨tv0, rfl, s1, d1⟩
          refine ⟨_, rfl, p, _, _, _, rfl, rfl, s1.seqT hp, rfl, l, rfl, ⟨_, Same.sq s1 hl⟩, for_list (xs := ys) (fun i σ H' => ∃ (ob : Option V) (tv : V), σ = [some (.ref p), some (vWish wi), some tv, ob] ∧ Same H H' ∧ DA K (Nw H) H' tv (Tr.fold (tmBase wi) (bs.take i))) ⟨none, tv0, rfl, s1, by rw [take_zero, Tr.fold]; exact d1⟩ (fun i σ H' _ ⟨_, _, _, s, _⟩ => Same.sq s hl) ?_ ?_⟩
          · rintro i x σ H2 hx ⟨ob, tv, rfl, s2, d2⟩
            obtain ⟨t, ht, hxt⟩ := hys i x hx
            refine ⟨_, rfl, _, rfl, x, t, rfl, DA.same hxt s2, Tr.deeps_get hd' ht, fun u H3 s3 d3 => ?_⟩
            refine ⟨sz2, fun t1 ht1 => ?_⟩
            refine ⟨sz3, fun t2 ht2 => ?_⟩
            have s4 : Same H3 (upd H3 t1 (.tup [.str "near", u])) := Same.upd ht1
            have e4 : upd H3 t1 (.tup [.str "near", u]) t1 = some (.tup [.str "near", u]) := upd_same
            generalize upd H3 t1 (.tup [.str "near", u]) = H4 at s4 e4 ht2 ⊢
            have s5 : Same H4 (upd H4 t2 (.tup [.str "both", tv, .ref t1])) := Same.upd ht2
            have s35 := s4.trans s5
            have s05 := (s2.trans s3).trans s35
            refine ⟨_, _, rfl, s05, ?_⟩
            rw [take_snoc ht, Tr.fold_snoc]
            refine .tup ((s2.trans s3).free (s4.free ht2)) (SqT.of upd_same) (.cons (.str _) (.cons (DA.same d2 (s3.trans s35)) (.cons (.tup ((s2.trans s3).free ht1) (SqT.of (s5 _ _ e4)) (.cons (.str _) (.cons ?_ .nil))) .nil)))
            exact d3.mono s35.keep fun a h => s2.free h
          · rintro σ H2 ⟨ob, tv, rfl, s2, d2⟩
            rw [hlen, take_length] at d2
            exact ⟨_, rfl, q tv H2 s2 (by rw [Tr.term]; exact d2)⟩
abbrev Kn := Addr × Addr × Option Int
def kA (ks : List Kn) (c : Nat) : Addr := ((ks[c]?).map (·.1)).getD 0
def kW (ks : List Kn) (c : Nat) : Option Int := ((ks[c]?).map (·.2.2)).getD none
structure Knots (H : Hp) (ks : List Kn) (ch : Nat → List Nat) : Prop where
  tp : ∀ (i : Nat) (a l : Addr) (w : Option Int), ks[i]? = some (a, l, w) → H a = some (.tup [vWish w, .ref l])
  ls : ∀ (i : Nat) (a l : Addr) (w : Option Int), ks[i]? = some (a, l, w) → H l = some (.lst ((ch i).map fun c => V.ref (kA ks c)))
  nd : ∀ (i j : Nat) (a l : Addr) (w : Option Int) (a' : Addr) (w' : Option Int), ks[i]? = some (a, l, w) → ks[j]? = some (a', l, w') → i = j
theorem Knots.keep {H H' : Hp} {ks : List Kn} {ch : Nat → List Nat} (k : Knots H ks ch) (h : ∀ (i : Nat) (a l : Addr) (w : Option Int), ks[i]? = some (a, l, w) → (∀ o, H a = some o → H' a = some o) ∧ ∀ o, H l = some o → H' l = some o) : Knots H' ks ch :=
  ⟨fun i a l w e => (h i a l w e).1 _ (k.tp i a l w e), fun i a l w e => (h i a l w e).2 _ (k.ls i a l w e), k.nd⟩
theorem Knots.snoc {H H' : Hp} {ks : List Kn} {a l : Addr} {w : Option Int} (k : Knots H ks fun _ => []) (h : ∀ (i : Nat) (a l : Addr) (w : Option Int), ks[i]? = some (a, l, w) → (∀ o, H a = some o → H' a = some o) ∧ ∀ o, H l = some o → H' l = some o)
    (ha : H' a = some (.tup [vWish w, .ref l])) (hl : H' l = some (.lst [])) (hn : H l = none) : Knots H' (ks ++ [(a, l, w)]) fun _ => [] := by
  have k' := k.keep h
  refine ⟨fun i a' l' w' e => ?_, fun i a' l' w' e => ?_, fun i j a1 l1 w1 a2 w2 e1 e2 => ?_⟩
  · rcases snoc_get e with e | ⟨_, e⟩
    · exact k'.tp i a' l' w' e
    · cases e; exact ha
  · rcases snoc_get e with e | ⟨_, e⟩
    · exact k'.ls i a' l' w' e
    · cases e; exact hl
  · rcases snoc_get e1 with e1 | ⟨e1, z1⟩
    · rcases snoc_get e2 with e2 | ⟨e2, z2⟩
      · exact k.nd i j _ _ _ _ _ e1 e2
      · cases z2
        have := k.ls i _ _ _ e1
        rw [hn] at this
        cases this
    · cases z1
      rcases snoc_get e2 with e2 | ⟨e2, z2⟩
      · have := k.ls j _ _ _ e2
        rw [hn] at this
        cases this
      · omega
theorem Knots.hang {H : Hp} {ks : List Kn} {ch : Nat → List Nat} (k : Knots H ks ch) {j m : Nat} {a l : Addr} {w : Option Int} (hj : ks[j]? = some (a, l, w)) :
    Knots (upd H l (.lst (((ch j).map fun c => V.ref (kA ks c)) ++ [V.ref (kA ks m)]))) ks (hung ch j m) := by
  refine ⟨fun i a' l' w' e => ?_, fun i a' l' w' e => ?_, k.nd⟩
  · have := k.tp i a' l' w' e
    rw [upd_ne (fun z => by rw [z, k.ls j a l w hj] at this; cases this)]
    exact this
  · unfold hung
    by_cases hi : i = j
    · subst hi
      rw [hj] at e
      cases e
      rw [upd_same, if_pos rfl, map_append]
      rfl
    · rw [if_neg hi, upd_ne (fun z => hi (by subst z; exact k.nd i j _ _ _ _ _ e hj))]
      exact k.ls i a' l' w' e
mutual
theorem Tr.da {ok : Addr → Prop} {H : Hp} {ks : List Kn} {ch : Nat → List Nat} (k : Knots H ks ch) (ho : ∀ (i : Nat) (a l : Addr) (w : Option Int), ks[i]? = some (a, l, w) → ok a ∧ ok l) : ∀ t : Tr, t.ok (kW ks) ch → (∀ x ∈ t.labs, x < ks.length) → DA K ok H (.ref (kA ks t.root)) t.dat
  | .nd i w bs, h, hl => by
    rw [Tr.ok] at h
    rw [Tr.labs] at hl
    have hi := hl i mem_cons_self
    have e : ks[i]? = some ks[i] := getElem?_eq_getElem hi
    rcases hk : ks[i] with ⟨a, l, w'⟩
    rw [hk] at e
    have ea : kA ks (Tr.nd i w bs).root = a := by
      show kA ks i = a
      unfold kA
      rw [e]
      rfl
    have ew : w = w' := by
      rw [h.1]
      unfold kW
      rw [e]
      rfl
    subst ew
    rw [ea, Tr.dat]
    refine .tup (ho i _ _ _ e).1 (SqT.of (k.tp i a l w e)) (.cons ?_ (.cons (.lst (ho i _ _ _ e).2 (SqL.of (k.ls i a l w e)) ?_) .nil))
    · cases w with
      | none => exact .non
      | some c => exact .int c
    · rw [h.2.1]
      exact Tr.das k ho bs h.2.2 fun x hx => hl x (mem_cons_of_mem _ hx)
theorem Tr.das {ok : Addr → Prop} {H : Hp} {ks : List Kn} {ch : Nat → List Nat} (k : Knots H ks ch) (ho : ∀ (i : Nat) (a l : Addr) (w : Option Int), ks[i]? = some (a, l, w) → ok a ∧ ok l) : ∀ ts : List Tr, Tr.oks (kW ks) ch ts → (∀ x ∈ Tr.labss ts, x < ks.length) → DAs K ok H ((ts.map Tr.root).map fun c => V.ref (kA ks c)) (Tr.dats ts)
  | [], _, _ => by rw [Tr.dats]; exact .nil
  | t :: ts, h, hl => by
    rw [Tr.oks] at h
    rw [Tr.labss] at hl
    rw [Tr.dats]
    exact .cons (Tr.da k ho t h.1 fun x hx => hl x (List.mem_append_left _ hx)) (Tr.das k ho ts h.2 fun x hx => hl x (List.mem_append_right _ hx))
end
theorem at_kn {ks : List Kn} {j : Nat} {a l : Addr} {w : Option Int} (h : ks[j]? = some (a, l, w)) : atI (ks.map fun k => V.ref k.1) (j : Int) = some (.ref a) := atI_nat (by rw [getElem?_map, h]; rfl)
theorem kn_ex {ks : List Kn} {j : Nat} (h : j < ks.length) : ∃ a l w, ks[j]? = some (a, l, w) ∧ kA ks j = a := by
  have e : ks[j]? = some ks[j] := getElem?_eq_getElem h
  rcases hk : ks[j] with ⟨a, l, w⟩
  rw [hk] at e
  refine ⟨a, l, w, e, ?_⟩
  unfold kA
  rw [e]
  rfl
end
section
open TM
def sm : Nat → (Nat → Int) → Int
  | 0, _ => 0
  | n + 1, f => sm n f + f n
theorem sm_congr {f g : Nat → Int} : ∀ {n : Nat}, (∀ i, i < n → f i = g i) → sm n f = sm n g
  | 0, _ => rfl
  | n + 1, h => by rw [sm, sm, sm_congr fun i hi => h i (by omega), h n (by omega)]
theorem sm_add (f g : Nat → Int) : ∀ n : Nat, sm n (fun i => f i + g i) = sm n f + sm n g
  | 0 => rfl
  | n + 1 => by rw [sm, sm, sm, sm_add f g n]; omega
theorem sm_list (f : Nat → Int) : ∀ n : Nat, ((List.range n).map f).sum = sm n f
  | 0 => rfl
  | n + 1 => by rw [List.range_succ, map_append, List.sum_append, sm_list f n, sm]; simp
def ind (hs : List Int) (w : Option Int) (x : Nat) : Int := match w with
  | none => 1
  | some c => if hs[x]?.getD 0 = c then 1 else 0
def lprod : List Int → Int
  | [] => 1
  | x :: l => x * lprod l
theorem lprod_app : ∀ a b : List Int, lprod (a ++ b) = lprod a * lprod b
  | [], b => by rw [nil_append, lprod, Int.one_mul]
  | x :: a, b => by rw [cons_append, lprod, lprod, lprod_app a b, Int.mul_assoc]
mutual
def Tr.val (hs : List Int) (M : List (List Int)) (n : Nat) : Tr → Nat → Int
  | .nd _ w bs, x => ind hs w x * Tr.vals hs M n bs x
def Tr.vals (hs : List Int) (M : List (List Int)) (n : Nat) : List Tr → Nat → Int
  | [], _ => 1
  | t :: ts, x => (sm n fun y => ent M x y * t.val hs M n y) * Tr.vals hs M n ts x
end
def Mr (hs : List Int) (M : List (List Int)) (n : Nat) (t : Tr) (x : Nat) : Int := sm n fun y => ent M x y * t.val hs M n y
theorem vals_prod (hs : List Int) (M : List (List Int)) (n : Nat) (x : Nat) : ∀ bs : List Tr, Tr.vals hs M n bs x = lprod (bs.map fun t => Mr hs M n t x)
  | [] => by rw [Tr.vals]; rfl
  | t :: bs => by rw [Tr.vals, map_cons, lprod, vals_prod hs M n x bs]; rfl
def tmW : Option Int → Tm
  | none => .one
  | some c => .hue c
mutual
def Tr.tm : Tr → Tm
  | .nd _ w bs => Tr.tmf (tmW w) bs
def Tr.tmf (a : Tm) : List Tr → Tm
  | [] => a
  | t :: ts => Tr.tmf (.both a (.near t.tm)) ts
end
theorem tmW_dat (w : Option Int) : (tmW w).dat = tmBase w := by cases w <;> rfl
mutual
theorem Tr.tm_dat : ∀ t : Tr, t.tm.dat = t.term
  | .nd _ w bs => by rw [Tr.tm, Tr.term, Tr.tmf_dat bs, tmW_dat]
theorem Tr.tmf_dat : ∀ (ts : List Tr) (a : Tm), (Tr.tmf a ts).dat = Tr.fold a.dat ts
  | [], a => by rw [Tr.tmf, Tr.fold]
  | t :: ts, a => by rw [Tr.tmf, Tr.fold, Tr.tmf_dat ts, Tm.dat, Tm.dat, Tr.tm_dat t]
end
mutual
theorem Tr.tm_good : ∀ t : Tr, t.tm.good ∧ t.tm.mans = 0 ∧ t.tm.size ≤ 7 * t.knots - 6
  | .nd _ w bs => by
    rw [Tr.tm, Tr.knots]
    have h : (tmW w).good ∧ (tmW w).mans = 0 ∧ (tmW w).size = 1 := by cases w <;> simp [tmW, Tm.good, Tm.mans, Tm.size]
    obtain ⟨a, b, c⟩ := Tr.tmf_good bs (tmW w) h.1 h.2.1
    have := Tr.knotss_len bs
    exact ⟨a, b, by rw [h.2.2] at c; omega⟩
theorem Tr.tmf_good : ∀ (ts : List Tr) (a : Tm), a.good → a.mans = 0 → (Tr.tmf a ts).good ∧ (Tr.tmf a ts).mans = 0 ∧ (Tr.tmf a ts).size ≤ a.size + 7 * Tr.knotss ts
  | [], a, g, m => by rw [Tr.tmf]; exact ⟨g, m, by omega⟩
  | t :: ts, a, g, m => by
    rw [Tr.tmf, Tr.knotss]
    obtain ⟨h1, h2, h3⟩ := Tr.tm_good t
    obtain ⟨a1, a2, a3⟩ := Tr.tmf_good ts (.both a (.near t.tm)) ⟨g, h1⟩ (by simp only [Tm.mans]; omega)
    refine ⟨a1, a2, ?_⟩
    have := t.knots_pos
    simp only [Tm.size] at a3
    omega
end
theorem zip_range (f g h : Nat → Int) (op : Int → Int → Int) (e : ∀ i, op (f i) (g i) = h i) (n : Nat) : List.zipWith op ((List.range n).map f) ((List.range n).map g) = (List.range n).map h := by
  rw [List.zipWith_map]
  refine ext_getElem (by simp) fun i h1 h2 => ?_
  simp [e]
theorem dot_sm {n : Nat} {row : List Int} (hl : row.length = n) (f : Nat → Int) : dot row ((List.range n).map f) = sm n fun y => (row[y]?).getD 0 * f y := by
  unfold dot
  have e : row = (List.range n).map fun y => (row[y]?).getD 0 := by
    refine ext_getElem (by simp [hl]) fun i h1 h2 => ?_
    simp [h1]
  conv => lhs; rw [e]
  rw [zip_range _ _ (fun y => (row[y]?).getD 0 * f y) _ (fun _ => rfl), sm_list]
variable {hs : List Int} {M : List (List Int)} {n : Nat}
theorem near_range (W : MOk n hs M) {t : Tm} {f : Nat → Int} (h : rowR hs M t = ((List.range n).map f, 1)) : rowR hs M (.near t) = ((List.range n).map fun x => sm n fun y => ent M x y * f y, 1) := by
  rw [rowR, h]
  refine Prod.ext ?_ rfl
  show M.map (fun w => dot w ((List.range n).map f)) = _
  refine ext_getElem (by simp [W.ml]) fun i h1 h2 => ?_
  have hi : i < M.length := by simpa using h1
  have hl := (W.row M[i] (List.getElem_mem hi)).1
  rw [getElem_map, dot_sm hl, getElem_map, List.getElem_range]
  refine sm_congr fun y _ => ?_
  unfold ent
  rw [getElem?_eq_getElem hi]
  rfl
theorem both_range {t u : Tm} {f g : Nat → Int} (h1 : rowR hs M t = ((List.range n).map f, 1)) (h2 : rowR hs M u = ((List.range n).map g, 1)) : rowR hs M (.both t u) = ((List.range n).map fun x => f x * g x, 1) := by
  rw [rowR, h1, h2]
  show M11.lowerR (List.zipWith (fun a b => a * b) ((List.range n).map f) ((List.range n).map g)) (1 * 1) = _
  rw [zip_range _ _ (fun x => f x * g x) _ (fun _ => rfl), Int.mul_one, M11.lowerR_one (M11.foldG_one _)]
theorem base_range (W : MOk n hs M) (w : Option Int) : rowR hs M (tmW w) = ((List.range n).map (ind hs w), 1) := by
  cases w with
  | none =>
    show (List.replicate hs.length (1 : Int), (1 : Int)) = _
    refine Prod.ext ?_ rfl
    show List.replicate hs.length (1 : Int) = (List.range n).map fun _ => (1 : Int)
    rw [W.hl, List.map_const', length_range]
  | some c =>
    refine Prod.ext ?_ rfl
    show hs.map (fun h => if h = c then (1 : Int) else 0) = (List.range n).map fun x => if hs[x]?.getD 0 = c then (1 : Int) else 0
    refine ext_getElem (by simp [W.hl]) fun i h1 h2 => ?_
    have hi : i < hs.length := by simpa using h1
    rw [getElem_map, getElem_map, List.getElem_range, getElem?_eq_getElem hi]
    rfl
mutual
theorem Tr.tm_row (W : MOk n hs M) : ∀ t : Tr, rowR hs M t.tm = ((List.range n).map (t.val hs M n), 1)
  | .nd i w bs => by
    rw [Tr.tm, Tr.tmf_row W bs (tmW w) (ind hs w) (base_range W w)]
    refine Prod.ext (map_congr_left fun x _ => ?_) rfl
    rw [Tr.val]
theorem Tr.tmf_row (W : MOk n hs M) : ∀ (ts : List Tr) (a : Tm) (f : Nat → Int), rowR hs M a = ((List.range n).map f, 1) → rowR hs M (Tr.tmf a ts) = ((List.range n).map (fun x => f x * Tr.vals hs M n ts x), 1)
  | [], a, f, h => by
    rw [Tr.tmf, h]
    refine Prod.ext (map_congr_left fun x _ => ?_) rfl
    rw [Tr.vals, Int.mul_one]
  | t :: ts, a, f, h => by
    rw [Tr.tmf, Tr.tmf_row W ts _ (fun x => f x * sm n fun y => ent M x y * t.val hs M n y) (both_range h (near_range W (Tr.tm_row W t)))]
    refine Prod.ext (map_congr_left fun x _ => ?_) rfl
    rw [Tr.vals, Int.mul_assoc]
end
end
section
variable {P : Program} {w : World} {K : Frag} {mg : Str → Option Value} {base : Heap}
def trow (hs : List Int) (M : List (List Int)) (n : Nat) (t : Tr) : List Int := (List.range n).map (t.val hs M n)
theorem trow_len (hs : List Int) (M : List (List Int)) (n : Nat) (t : Tr) : (trow hs M n t).length = n := by unfold trow; rw [length_map, length_range]
open TM in
theorem val_bn {n : Nat} {hs : List Int} {M : List (List Int)} (W : MOk n hs M) (t : Tr) (h : t.knots ≤ 12) {x : Nat} (hx : x < n) : M11.Bn 30000 (t.val hs M n x) := by
  obtain ⟨g1, g2, g3⟩ := Tr.tm_good t
  have ok := rowR_ok W t.tm g1
  have := ok.tops (t.val hs M n x) (by rw [Tr.tm_row W t]; exact List.mem_map_of_mem (mem_range.mpr hx))
  exact this.mono (by omega)
open TM in
theorem near_bn {n : Nat} {hs : List Int} {M : List (List Int)} (W : MOk n hs M) (t : Tr) (h : t.knots ≤ 12) {x : Nat} (hx : x < n) : M11.Bn 30000 (sm n fun y => ent M x y * t.val hs M n y) := by
  obtain ⟨g1, g2, g3⟩ := Tr.tm_good t
  have ok := rowR_ok W (.near t.tm) g1
  have := ok.tops (sm n fun y => ent M x y * t.val hs M n y) (by rw [near_range W (Tr.tm_row W t)]; exact List.mem_map_of_mem (f := fun x => sm n fun y => ent M x y * t.val hs M n y) (mem_range.mpr hx))
  exact this.mono (by simp only [Tm.size]; omega)
theorem val_snoc (hs : List Int) (M : List (List Int)) (n i : Nat) (wi : Option Int) (bs : List Tr) (t : Tr) (x : Nat) : (Tr.nd i wi (bs ++ [t])).val hs M n x = (Tr.nd i wi bs).val hs M n x * sm n fun y => ent M x y * t.val hs M n y := by
  rw [Tr.val, Tr.val, vals_prod, vals_prod, map_append, lprod_app, Int.mul_assoc]
  show _ = ind hs wi x * (lprod (bs.map fun t => Mr hs M n t x) * Mr hs M n t x)
  congr 2
  show Mr hs M n t x * 1 = _
  rw [Int.mul_one]
theorem knots_take (i : Nat) (wi : Option Int) (bs : List Tr) (k : Nat) : (Tr.nd i wi (bs.take k)).knots ≤ (Tr.nd i wi bs).knots := by
  rw [Tr.knots, Tr.knots]
  have := Tr.knotss_app (bs.take k) (bs.drop k)
  rw [take_append_drop] at this
  omega
theorem range_get (f : Nat → Int) {n i : Nat} (h : i < n) : ((List.range n).map f)[i]? = some (f i) := by rw [getElem?_map, getElem?_range h]; rfl
theorem rows_ent {H : Hp} {rs : List Addr} {M : List (List Int)} {n x y : Nat} (R : RowsAt H rs M) (hm : M.length = n) (hr : ∀ z ∈ M, z.length = n) (hx : x < n) (hy : y < n) : ∃ r row, rs[x]? = some r ∧ M[x]? = some row ∧ H r = some (.lst (row.map V.int)) ∧ row[y]? = some (ent M x y) ∧ ent M x y ∈ row := by
  obtain ⟨r, er⟩ := get_lt (l := rs) (i := x) (by rw [R.len]; omega)
  obtain ⟨row, ew⟩ := get_lt (l := M) (i := x) (by omega)
  obtain ⟨z, ez⟩ := get_lt (l := row) (i := y) (by rw [hr row (mem_of_getElem? ew)]; exact hy)
  have e : ent M x y = z := by unfold ent; rw [ew]; show (row[y]?).getD 0 = z; rw [ez]; rfl
  exact ⟨r, row, er, ew, R.row x r row er ew, by rw [e]; exact ez, by rw [e]; exact mem_of_getElem? ez⟩
def spLRow (K : Frag) (d : Nat) : Sp := fun vs H Q _ => ∃ (wA : Addr) (v : V) (t : Tr) (n : Nat) (hs : List Int) (M : List (List Int)), vs = [.ref wA, v] ∧ WR H wA hs M ∧ TM.MOk n hs M ∧ DA K any H v t.dat ∧ t.deep ≤ d ∧ t.knots ≤ 12 ∧ ∀ D H', Same H H' → H D = none → H' D = some (.lst ((trow hs M n t).map V.int)) → Q (.ref D) H'
abbrev nLRow : List Str := ["_law_web_here", "_law_tree_here", "_law_hues", "_law_rows", "_law_found", "_law_bough", "_law_inner", "_law_u", "_law_total", "_law_v"]
abbrev aLRow : List Str := ["_law_web_here", "_law_tree_here"]
theorem scLRow : FnScope nLRow aLRow (defScope sLRow) := ⟨rfl, rfl, rfl, by decide +kernel, rfl, by decide +kernel, by decide +kernel⟩
theorem lcLRow : LcScope (defScope sLRow) nLRow (lcScope (asgVal (bodyAt sLRow 1))) "_law_hue" := ⟨by decide +kernel, rfl, by decide +kernel, by decide +kernel, by decide +kernel, by decide +kernel, by decide +kernel, by decide +kernel, by decide +kernel, by decide +kernel⟩
theorem base_val {hs : List Int} {M : List (List Int)} {n : Nat} (h : hs.length = n) (i : Nat) (wi : Option Int) : trow hs M n (.nd i wi []) = hs.map fun h => if (wi = none ∨ wi = some h) then 1 else 0 := by
  unfold trow
  apply ext_getElem?
  intro k
  by_cases hk : k < n
  · obtain ⟨z, ez⟩ := get_lt (l := hs) (i := k) (by omega)
    rw [range_get _ hk, getElem?_map, ez, Tr.val, Tr.vals, Int.mul_one]
    unfold ind
    cases wi with
    | none => simp
    | some c =>
      simp only [ez, Option.getD_some, Option.map_some, reduceCtorEq, Option.some.injEq, false_or]
      by_cases e : z = c
      · subst e; simp
      · rw [if_neg e, if_neg (fun q => e q.symm)]
  · rw [getElem?_eq_none (by rw [length_map, length_range]; omega), getElem?_eq_none (by rw [length_map]; omega)]
theorem ok_lrow {f : Addr} {fd : FuncData} (B : BltL mg) (D : Dn K mg "_law_row" sLRow aLRow f fd) : ∀ d : Nat, FnOk P w K mg base CX0 (d + 1) f fd aLRow (spLRow K d) := by
  intro d
  induction d with
  | zero =>
    refine D.fn.ok scLRow (fun vs H Q E h => ?_) (fun cdv A outer s H vs Q E hr h => ?_)
    · obtain ⟨wA, v, t, n, hs, M, rfl, _⟩ := h
      rfl
    · obtain ⟨wA, v, t, n, hs, M, rfl, _, _, _, h, _⟩ := h
      have := t.deep_pos
      omega
  | succ d G =>
    refine D.fn.ok scLRow (fun vs H Q E h => ?_) (fun cdv A outer s H vs Q E hr h => ?_)
    · obtain ⟨wA, v, t, n, hs, M, rfl, _⟩ := h
      rfl
    · obtain ⟨wA, v, t, n, hs, M, rfl, hW, hM, hT, hd, hk, q⟩ := h
      obtain ⟨p, rfl⟩ := tree_ref hT
      obtain ⟨hA, rA, rs, w1, w2, w3, R⟩ := hW.ex
      have hn : n ≤ 16 := hM.few
      have hr1 : ∀ z ∈ M, z.length = n := fun z hz => (hM.row z hz).1
      cases t with
      | nd i0 wi bs =>
        have hd' : Tr.deeps bs ≤ d := by rw [Tr.deep] at hd; omega
        obtain ⟨l, ys, hp, hl, hlen, hys⟩ := tree_at hT
        refine ⟨_, pss_cons (ps_asg (pv 0) (pg_tup rfl (pgs_cons (pg_name (i := 2) scLRow.nd rfl (Or.inl rfl)) (pgs_cons (pg_name (i := 3) scLRow.nd rfl (Or.inl rfl)) pgs_nil))))
          (pss_cons (ps_setLc (i := 4) scLRow.nd rfl (Or.inl rfl) rfl lcLRow rfl (pi_list (pv 2)) (fun _ _ _ => pe_callTy call_int1 (by rfl) B.int boot_int (pa_cons (pe_or (pe_cmpR op_isN (pe_ix (ix_tupK (K := K)) (pv 1) pe_int (fun _ _ => rfl)) pe_non (nomark _)) (pe_one (pe_cmpR op_eq (pe_ix (ix_tupK (K := K)) (pv 1) pe_int (fun _ _ => rfl)) (pv 10) (nomark _)))) pa_nil)))
          (pss_cons (ps_for PassesOwn.never rfl (pi_list (pe_ix ix_tup (pv 1) pe_int (fun _ _ => rfl))) (pg_name (i := 5) scLRow.nd rfl (Or.inl rfl))
            (pss_cons (ps_set (i := 6) scLRow.nd rfl (Or.inl rfl) (pe_fn D G hr rfl (pa_cons (pv 0) (pa_cons (pv 5) pa_nil))))
            (pss_one (ps_for PassesOwn.never rfl (pi_range1 rfl B.range (pa_cons (pe_callB call_len_seq (by rfl) B.len boot_len (pa_cons (pv 2) pa_nil)) pa_nil)) (pg_name (i := 7) scLRow.nd rfl (Or.inl rfl))
              (pss_cons (ps_set (i := 8) scLRow.nd rfl (Or.inl rfl) pe_int)
              (pss_cons (ps_for PassesOwn.never rfl (pi_range1 rfl B.range (pa_cons (pe_callB call_len_seq (by rfl) B.len boot_len (pa_cons (pv 2) pa_nil)) pa_nil)) (pg_name (i := 9) scLRow.nd rfl (Or.inl rfl))
                (pss_one (ps_set (i := 8) scLRow.nd rfl (Or.inl rfl) (pe_op op_add (pv 8) (pe_op op_mulN (pe_ix ix_list (pe_ix ix_list (pv 3) (pv 7) (fun _ _ => rfl)) (pv 9) (fun _ _ => rfl)) (pe_ix ix_list (pv 6) (pv 9) (fun _ _ => rfl)))))))
              (pss_one (ps_asg (pe_op op_mulN (pe_ix ix_list (pv 4) (pv 7) (fun _ _ => rfl)) (pv 8)) (pg_sub (pv 4) (pv 7) set_list)))))))))
          (pss_one (ps_ret (pv 4))))), ?_⟩
        refine ⟨_, rfl, wA, _, rfl, SqT.of w1, rfl, _, _, rfl, _, _, rfl, rfl, ?_⟩
        refine ⟨_, rfl, hA, rfl, ⟨_, SqL.of w2⟩, fun Dd hD => ?_⟩
        refine lc_vals ((trow hs M n (.nd i0 wi [])).map V.int) (by rw [length_map, length_map, trow_len, hM.hl]) (by rw [length_map, hM.hl]; omega) hD (SqL.of w2) ?_ ?_ ?_
        · intro i x v H' hx hv s'
          rw [base_val hM.hl] at hv
          obtain ⟨z, hz, rfl⟩ := map_get hx
          obtain ⟨z', hz', rfl⟩ := map_get hv
          rw [getElem?_map, hz] at hz'
          cases hz'
          refine ⟨_, rfl, p, _, _, _, rfl, rfl, s'.seqT hp, rfl, rfl, _, rfl, ?_⟩
          cases wi with
          | none =>
            refine iteT ?_
            refine .inr ⟨_, rfl, ?_, Same.refl _⟩
            simp
          | some c =>
            refine iteF ?_
            refine ⟨_, rfl, p, _, _, _, rfl, rfl, s'.seqT hp, rfl, _, rfl, rfl, .inr ⟨_, rfl, ?_, Same.refl _⟩⟩
            show V.int _ = V.int _
            congr 1
            by_cases e : c = z
            · subst e; simp [vWish]
            · simp [vWish, e]
        · intro H1 s1 eD
          have nD : H Dd = none := hD
          refine ⟨_, rfl, p, _, _, _, rfl, rfl, s1.seqT hp, rfl, l, rfl, ⟨_, Same.sq s1 hl⟩, for_list (xs := ys) (fun i σ H' => ∃ (o5 o6 o7 o8 o9 : Option V), σ = [some (.ref wA), some (.ref p), some (.ref hA), some (.ref rA), some (.ref Dd), o5, o6, o7, o8, o9] ∧ Same H H' ∧ H' Dd = some (.lst ((trow hs M n (.nd i0 wi (bs.take i))).map V.int))) ⟨none, none, none, none, none, rfl, s1, by rw [take_zero]; exact eD⟩ (fun i σ H' _ ⟨_, _, _, _, _, _, s, _⟩ => Same.sq s hl) ?_ ?_⟩
          · rintro i x σ H2 hx ⟨o5, o6, o7, o8, o9, rfl, s2, e2⟩
            obtain ⟨t, ht, hxt⟩ := hys i x hx
            have kt : t.knots ≤ 12 := Tr.knotss_get (by rw [Tr.knots] at hk; omega) ht
            refine ⟨_, rfl, _, rfl, wA, x, t, n, hs, M, rfl, hW.mono s2, hM, DA.same hxt s2, Tr.deeps_get hd' ht, kt, fun I H3 s3 nI eI => ?_⟩
            have s03 := s2.trans s3
            have e3 := s3 _ _ e2
            have nID : I ≠ Dd := fun z => by rw [z, e2] at nI; cases nI
            refine ⟨_, rfl, hA, _, rfl, .inl (SqL.of (s03 _ _ w2)), _, rfl, by omega, by rw [length_map, hM.hl]; omega, ?_⟩
            rw [length_map, hM.hl, Int.toNat_natCast]
            refine for_range (n := n) (fun u σ H' => ∃ (o7 o8 o9 : Option V), σ = [some (.ref wA), some (.ref p), some (.ref hA), some (.ref rA), some (.ref Dd), some x, some (.ref I), o7, o8, o9] ∧ Same H H' ∧ H' I = some (.lst ((trow hs M n t).map V.int)) ∧ H' Dd = some (.lst (((List.range n).map fun y => if y < u then (Tr.nd i0 wi (bs.take (i + 1))).val hs M n y else (Tr.nd i0 wi (bs.take i)).val hs M n y).map V.int))) ⟨_, _, _, rfl, s03, eI, by rw [e3]; rfl⟩ ?_ ?_
            · rintro u σ H4 hu ⟨o7, o8, o9, rfl, s4, e4, d4⟩
              have e0 : ((0 : Int) + (u : Nat)) = (u : Int) := by omega
              rw [e0]
              refine ⟨_, rfl, hA, _, rfl, .inl (SqL.of (s4 _ _ w2)), _, rfl, by omega, by rw [length_map, hM.hl]; omega, ?_⟩
              rw [length_map, hM.hl, Int.toNat_natCast]
              refine for_range (n := n) (fun v σ H' => ∃ (o9 : Option V), σ = [some (.ref wA), some (.ref p), some (.ref hA), some (.ref rA), some (.ref Dd), some x, some (.ref I), some (.int (u : Int)), some (.int (sm v fun y => ent M u y * t.val hs M n y)), o9] ∧ H' = H4) ⟨_, rfl, rfl⟩ ?_ ?_
              · rintro v σ H5 hv ⟨o9, rfl, rfl⟩
                have e0 : ((0 : Int) + (v : Nat)) = (v : Int) := by omega
                rw [e0]
                obtain ⟨r, row, er, ew, eh, ee, em⟩ := rows_ent R hM.ml hr1 hu hv
                refine ⟨_, rfl, _, rfl, _, rfl, rA, _, _, _, rfl, rfl, SqL.of (s4 _ _ w3), atI_nat (by rw [getElem?_map, er]; rfl), _, rfl, r, _, _, _, rfl, rfl, SqL.of (s4 _ _ eh), atI_nat (by rw [getElem?_map, ee]; rfl), _, rfl, _, rfl, I, _, _, _, rfl, rfl, SqL.of e4, atI_nat (by rw [getElem?_map]; unfold trow; rw [range_get _ hv]; rfl), _, _, rfl, rfl, ⟨30000, by decide, (TM.bn200 ((hM.row row (mem_of_getElem? ew)).2 _ em)).mono (by decide), val_bn hM t kt hv⟩, _, _, rfl, rfl, ?_⟩
                exact ⟨_, rfl, rfl⟩
              · rintro σ H5 ⟨o9, rfl, rfl⟩
                have ku := knots_take i0 wi bs i
                refine ⟨_, rfl, _, rfl, Dd, _, _, _, rfl, rfl, SqL.of d4, atI_nat (by rw [getElem?_map, range_get _ hu]; rfl), _, rfl, _, _, rfl, rfl, ⟨30000, by decide, ?_, near_bn hM t kt hu⟩, ?_⟩
                · rw [if_neg (Nat.lt_irrefl u)]
                  exact val_bn hM _ (by omega) hu
                · refine ⟨_, rfl, _, rfl, Dd, _, _, u, rfl, rfl, d4, ?_, ?_⟩
                  · rw [length_map, length_map, length_range]
                    exact ixN_nat hu
                  · refine ⟨_, _, _, rfl, ?_, ?_, ?_⟩
                    · intro b o e
                      rw [upd_ne (ne_of_none e nD)]
                      exact s4 _ _ e
                    · rw [upd_ne nID]
                      exact e4
                    · rw [upd_same]
                      congr 2
                      rw [← map_set]
                      congr 1
                      apply ext_getElem?
                      intro y
                      rw [List.getElem?_set]
                      by_cases hy : y < n
                      · rw [range_get _ hy, range_get _ hy]
                        by_cases e : u = y
                        · subst e
                          rw [if_pos rfl, if_pos (by rw [length_map, length_range]; exact hu), if_pos (Nat.lt_succ_self u), take_snoc ht, val_snoc, if_neg (Nat.lt_irrefl u)]
                        · rw [if_neg e]
                          congr 1
                          by_cases h1 : y < u
                          · rw [if_pos h1, if_pos (by omega)]
                          · rw [if_neg h1, if_neg (by omega)]
                      · have g : ∀ f : Nat → Int, ((List.range n).map f)[y]? = none := fun f => getElem?_eq_none (by rw [length_map, length_range]; omega)
                        rw [g, g, if_neg (by omega : ¬ u = y)]
            · rintro σ H4 ⟨o7, o8, o9, rfl, s4, e4, d4⟩
              refine ⟨_, _, _, _, _, rfl, s4, ?_⟩
              rw [d4]
              congr 3
              refine map_congr_left fun y hy => ?_
              rw [if_pos (mem_range.mp hy)]
          · rintro σ H2 ⟨o5, o6, o7, o8, o9, rfl, s2, e2⟩
            rw [hlen, take_length] at e2
            exact ⟨_, rfl, q Dd H2 s2 nD e2⟩
        · rintro σ H' Q1 Q2 hq ⟨v, e, a1, a2, a3, a4, a5, a6, a7, a8, a9, c, e2, g⟩
          refine ⟨v, e, a1, a2, a3, a4, a5, a6, a7, a8, a9, c, e2, ?_⟩
          cases c with
          | true =>
            rw [if_pos rfl] at g
            refine iteT ?_
            rcases g with ⟨i, e, g⟩ | ⟨i, e, g⟩
            · exact .inl ⟨i, e, hq _ _ g⟩
            · exact .inr ⟨i, e, hq _ _ g⟩
          | false =>
            rw [if_neg Bool.false_ne_true] at g
            refine iteF ?_
            obtain ⟨u, f, b1, b2, b3, b4, b5, b6, b7, b8, u2, f2, b9, g⟩ := g
            refine ⟨u, f, b1, b2, b3, b4, b5, b6, b7, b8, u2, f2, b9, ?_⟩
            rcases g with ⟨i, e, g⟩ | ⟨i, e, g⟩
            · exact .inl ⟨i, e, hq _ _ g⟩
            · exact .inr ⟨i, e, hq _ _ g⟩
end
section
variable {X : Cx}
structure QE (X : Cx) (e : Expr) (t : TE) : Prop where
  o : PE X e t
structure QA (X : Cx) (es : List Expr) (t : TA) : Prop where
  o : PA X es t
theorem qa_nil : QA X [] tNil := ⟨pa_nil⟩
theorem qa_cons {e : Expr} {es : List Expr} {te : TE} {t : TA} (ha : QE X e te) (hr : QA X es t) (hs : starEach (e :: es) X.env = (false, eval e X.env) :: starEach es X.env := by rfl) : QA X (e :: es) (tCons te t) := ⟨pa_cons ha.o hr.o hs⟩
theorem qe_lst {es : List Expr} {t : TA} {pos : Pos} (h : QA X es t) : QE X (.List es pos) (tLst t) := ⟨pe_lst h.o⟩
theorem qe_tup {es : List Expr} {t : TA} {k : Nat} {pos : Pos} (h : QA X es t) : QE X (.Tuple es k pos) (tTup t) := ⟨pe_tup h.o⟩
theorem qe_ix {a b : Expr} {ta tb : TE} {pos : Pos} {r : R2} (hr : IxR X r) (ha : QE X a ta) (hb : QE X b tb) (hs : PlainIx b) : QE X (.Subscript a b pos) (tOp r ta tb) := ⟨pe_ix hr ha.o hb.o hs⟩
end
section
variable {P : Program} {w : World} {K : Frag} {mg : Str → Option Value} {base : Heap}
structure Sw (b e : Nat) (d : PyData) : Prop where
  sh : d.showable = true
  nd : d.hasDict = false
  ly : d.canLay0 = true
  is : d.intsShort 600 = true
  bk : d.bulk ≤ b
  dp : d.depth ≤ e
theorem Sw.mono {b b' e e' : Nat} {d : PyData} (h : Sw b e d) (h1 : b ≤ b') (h2 : e ≤ e') : Sw b' e' d := ⟨h.sh, h.nd, h.ly, h.is, Nat.le_trans h.bk h1, Nat.le_trans h.dp h2⟩
theorem sw_int {z : Int} (h : z.natAbs < 10 ^ 550) : Sw 0 0 (.int z) := by
  refine ⟨?_, rfl, rfl, ?_, Nat.le_refl _, Nat.le_refl _⟩
  · have lg : z.natAbs.log2 < 1900 := by
      by_cases e : z.natAbs = 0
      · rw [e]; decide
      · exact (Nat.log2_lt e).mpr (Nat.lt_of_lt_of_le h (by decide))
    simp only [PyData.showable, decide_eq_true_iff]
    omega
  · simp only [PyData.intsShort, decide_eq_true_iff]
    have e := int_text_length_le10 (k := 550) (by decide) h
    show (Str.ofString (toString z)).length ≤ 600
    rw [PySem.ofString_length]
    exact Nat.le_trans e (by decide)
theorem sw_none : Sw 0 0 .none := ⟨rfl, rfl, rfl, rfl, Nat.le_refl _, Nat.le_refl _⟩
theorem sws {b e : Nat} : ∀ {ds : List PyData}, (∀ d ∈ ds, Sw b e d) → PyData.showableAll ds = true ∧ PyData.hasDictAll ds = false ∧ PyData.canLayAll0 ds = true ∧ PyData.intsShortAll 600 ds = true ∧ PyData.bulkAll ds ≤ ds.length * (b + 1) ∧ PyData.depthAll ds ≤ e
  | [], _ => ⟨rfl, rfl, rfl, rfl, Nat.zero_le _, Nat.zero_le _⟩
  | d :: ds, h => by
    have hd := h d mem_cons_self
    obtain ⟨a1, a2, a3, a4, a5, a6⟩ := sws (ds := ds) fun x hx => h x (mem_cons_of_mem _ hx)
    refine ⟨?_, ?_, ?_, ?_, ?_, ?_⟩
    · simp only [PyData.showableAll, hd.sh, a1, Bool.and_self]
    · simp only [PyData.hasDictAll, hd.nd, a2, Bool.or_self]
    · simp only [PyData.canLayAll0, hd.ly, a3, Bool.and_self]
    · simp only [PyData.intsShortAll, hd.is, a4, Bool.and_self]
    · simp only [PyData.bulkAll, length_cons, Nat.succ_mul]
      have := hd.bk
      omega
    · simp only [PyData.depthAll]
      have := hd.dp
      omega
theorem Sw.list {b e n : Nat} {ds : List PyData} (h : ∀ d ∈ ds, Sw b e d) (hn : ds.length ≤ n) : Sw (n * (b + 1)) (e + 1) (.list ds) := by
  obtain ⟨a1, a2, a3, a4, a5, a6⟩ := sws h
  refine ⟨by simp only [PyData.showable, a1], by simp only [PyData.hasDict, a2], by simp only [PyData.canLay0, a3], by simp only [PyData.intsShort, a4], ?_, ?_⟩
  · simp only [PyData.bulk]
    exact Nat.le_trans a5 (Nat.mul_le_mul_right _ hn)
  · simp only [PyData.depth]
    omega
theorem Sw.tup {b e n : Nat} {ds : List PyData} (h : ∀ d ∈ ds, Sw b e d) (hn : ds.length ≤ n) : Sw (n * (b + 1)) (e + 1) (.tuple ds) := by
  obtain ⟨a1, a2, a3, a4, a5, a6⟩ := sws h
  refine ⟨by simp only [PyData.showable, a1], by simp only [PyData.hasDict, a2], by simp only [PyData.canLay0, a3], by simp only [PyData.intsShort, a4], ?_, ?_⟩
  · simp only [PyData.bulk]
    exact Nat.le_trans a5 (Nat.mul_le_mul_right _ hn)
  · simp only [PyData.depth]
    omega
theorem Sw.out {b e : Nat} {d : PyData} (h : Sw b e d) (hb : b ≤ 20000) (he : e ≤ 32) : d.showable = true ∧ d.hasDict = false ∧ d.depth ≤ 32 ∧ d.shown.length ≤ sizeLine := by
  refine ⟨h.sh, h.nd, Nat.le_trans h.dp he, ?_⟩
  have z := PyData.shown_le_bulk 600 (by decide) _ (PyData.leavesShort_of_canLay0 600 _ h.ly h.is)
  have e := sizeLine_eq
  have := h.bk
  omega
theorem sw_dF {f : Int × Int} (h1 : f.1.natAbs < 10 ^ 550) (h2 : f.2.natAbs < 10 ^ 550) : Sw 2 1 (dF f) := by
  have h : ∀ d ∈ [PyData.int f.1, .int f.2], Sw 0 0 d := fun d hd => by
    simp only [mem_cons, not_mem_nil, or_false] at hd
    rcases hd with rfl | rfl
    · exact sw_int h1
    · exact sw_int h2
  exact Sw.tup (n := 2) h (by show 2 ≤ 2; decide)
theorem big_lt {z : Int} {n : Nat} (h : z.natAbs ≤ n) (hn : n < 10 ^ 550) : z.natAbs < 10 ^ 550 := Nat.lt_of_le_of_lt h hn
theorem sw_dT {F : List (List (Int × Int))} (h : TabE F) : Sw 800 3 (dT F) := by
  have hc : (1000000 : Nat) < 10 ^ 550 := Nat.lt_of_lt_of_le (by decide : 1000000 < 10 ^ 7) (Nat.pow_le_pow_right (by decide) (by decide))
  refine (Sw.list (b := 48) (e := 2) (n := 16) (fun d hd => ?_) (by rw [length_map]; exact h.1)).mono (by decide) (by decide)
  obtain ⟨r, hr, rfl⟩ := mem_map.mp hd
  obtain ⟨h1, h2⟩ := h.2 r hr
  refine (Sw.list (b := 2) (e := 1) (n := 16) (fun d hd => ?_) (by rw [length_map]; exact h1)).mono (by decide) (by decide)
  obtain ⟨f, hf, rfl⟩ := mem_map.mp hd
  obtain ⟨f1, f2, f3⟩ := h2 f hf
  exact sw_dF (big_lt f3 hc) (big_lt (by omega) hc)
mutual
def Tr.sml : Tr → Prop
  | .nd _ w bs => (∀ c, w = some c → c.natAbs ≤ 3) ∧ Tr.smls bs
def Tr.smls : List Tr → Prop
  | [] => True
  | t :: ts => t.sml ∧ Tr.smls ts
end
mutual
theorem Tr.ok_sml {ws : Nat → Option Int} {ch : Nat → List Nat} (h : ∀ i c, ws i = some c → c.natAbs ≤ 3) : ∀ t : Tr, t.ok ws ch → t.sml
  | .nd i w bs, o => by
    rw [Tr.ok] at o
    rw [Tr.sml]
    exact ⟨fun c e => h i c (by rw [← o.1]; exact e), Tr.oks_sml h bs o.2.2⟩
theorem Tr.oks_sml {ws : Nat → Option Int} {ch : Nat → List Nat} (h : ∀ i c, ws i = some c → c.natAbs ≤ 3) : ∀ ts : List Tr, Tr.oks ws ch ts → Tr.smls ts
  | [], _ => by rw [Tr.smls]; trivial
  | t :: ts, o => by
    rw [Tr.oks] at o
    rw [Tr.smls]
    exact ⟨Tr.ok_sml h t o.1, Tr.oks_sml h ts o.2⟩
end
theorem sw_wish {w : Option Int} (h : ∀ c, w = some c → c.natAbs ≤ 3) : Sw 0 0 (dWish w) := by
  cases w with
  | none => exact sw_none
  | some c => exact sw_int (big_lt (h c rfl) (Nat.lt_of_lt_of_le (by decide : 3 < 10 ^ 1) (Nat.pow_le_pow_right (by decide) (by decide))))
mutual
theorem Tr.sw : ∀ t : Tr, t.sml → t.dat.showable = true ∧ t.dat.hasDict = false ∧ t.dat.canLay0 = true ∧ t.dat.intsShort 600 = true ∧ t.dat.bulk + 1 ≤ 5 * t.knots ∧ t.dat.depth ≤ 2 * t.deep
  | .nd i w bs, h => by
    rw [Tr.sml] at h
    obtain ⟨a1, a2, a3, a4, a5, a6⟩ := Tr.sws bs h.2
    have hw := sw_wish h.1
    have b0 := hw.bk
    have d0 := hw.dp
    rw [Tr.dat, Tr.knots, Tr.deep]
    refine ⟨?_, ?_, ?_, ?_, ?_, ?_⟩
    · simp only [PyData.showable, PyData.showableAll, hw.sh, a1, Bool.and_self]
    · simp only [PyData.hasDict, PyData.hasDictAll, hw.nd, a2, Bool.or_self]
    · simp only [PyData.canLay0, PyData.canLayAll0, hw.ly, a3, Bool.and_self]
    · simp only [PyData.intsShort, PyData.intsShortAll, hw.is, a4, Bool.and_self]
    · simp only [PyData.bulk, PyData.bulkAll]
      omega
    · simp only [PyData.depth, PyData.depthAll]
      omega
theorem Tr.sws : ∀ ts : List Tr, Tr.smls ts → PyData.showableAll (Tr.dats ts) = true ∧ PyData.hasDictAll (Tr.dats ts) = false ∧ PyData.canLayAll0 (Tr.dats ts) = true ∧ PyData.intsShortAll 600 (Tr.dats ts) = true ∧ PyData.bulkAll (Tr.dats ts) ≤ 5 * Tr.knotss ts ∧ PyData.depthAll (Tr.dats ts) ≤ 2 * Tr.deeps ts
  | [], _ => by
    rw [Tr.dats, Tr.knotss]
    exact ⟨rfl, rfl, rfl, rfl, Nat.zero_le _, Nat.zero_le _⟩
  | t :: ts, h => by
    rw [Tr.smls] at h
    obtain ⟨a1, a2, a3, a4, a5, a6⟩ := Tr.sw t h.1
    obtain ⟨b1, b2, b3, b4, b5, b6⟩ := Tr.sws ts h.2
    rw [Tr.dats, Tr.knotss, Tr.deeps]
    refine ⟨?_, ?_, ?_, ?_, ?_, ?_⟩
    · simp only [PyData.showableAll, a1, b1, Bool.and_self]
    · simp only [PyData.hasDictAll, a2, b2, Bool.or_self]
    · simp only [PyData.canLayAll0, a3, b3, Bool.and_self]
    · simp only [PyData.intsShortAll, a4, b4, Bool.and_self]
    · simp only [PyData.bulkAll]
      have : 1 ≤ t.knots := by
        cases t with
        | nd i w bs => rw [Tr.knots]; omega
      omega
    · simp only [PyData.depthAll]
      omega
end
theorem Tr.sw8 {t : Tr} (h : t.sml) (hk : t.knots ≤ 12) : Sw 60 24 t.dat := by
  obtain ⟨a1, a2, a3, a4, a5, a6⟩ := Tr.sw t h
  have := t.deep_le
  exact ⟨a1, a2, a3, a4, by omega, by omega⟩
theorem sm_le {n m : Nat} {f : Nat → Int} (h : ∀ i < n, (f i).natAbs ≤ m) : (sm n f).natAbs ≤ n * m := by
  induction n with
  | zero => exact Nat.zero_le _
  | succ n ih =>
    rw [sm, Nat.succ_mul]
    have h1 := ih fun i hi => h i (by omega)
    have h2 := h n (by omega)
    omega
theorem ind_le (hs : List Int) (w : Option Int) (x : Nat) : (ind hs w x).natAbs ≤ 1 := by
  unfold ind
  cases w with
  | none => exact Nat.le_refl _
  | some c =>
    show (if hs[x]?.getD 0 = c then (1 : Int) else 0).natAbs ≤ 1
    by_cases h : hs[x]?.getD 0 = c
    · rw [if_pos h]; decide
    · rw [if_neg h]; decide
def cW : Nat := 16 * wMax
theorem cW_pos : 1 ≤ cW := by decide
theorem ent_le {n : Nat} {M : List (List Int)} (S : SqN n M) (x y : Nat) : (ent M x y).natAbs ≤ 2 * wMax := by
  unfold ent
  cases h : M[x]? with
  | none => exact Nat.zero_le _
  | some r =>
    show ((r[y]?).getD 0).natAbs ≤ _
    cases h2 : r[y]? with
    | none => exact Nat.zero_le _
    | some z => exact (S.row x r h).2 z (mem_of_getElem? h2)
mutual
theorem Tr.val_le {hs : List Int} {M : List (List Int)} {n : Nat} (S : SqN n M) (hn : n ≤ 8) : ∀ (t : Tr) (x : Nat), (t.val hs M n x).natAbs ≤ cW ^ (2 * t.knots - 1)
  | .nd i w bs, x => by
    rw [Tr.val, Int.natAbs_mul, Tr.knots]
    have h1 := ind_le hs w x
    have h2 := Tr.vals_le S hn (hs := hs) bs x
    refine Nat.le_trans (Nat.mul_le_mul h1 h2) ?_
    rw [Nat.one_mul]
    exact Nat.pow_le_pow_right cW_pos (by omega)
theorem Tr.vals_le {hs : List Int} {M : List (List Int)} {n : Nat} (S : SqN n M) (hn : n ≤ 8) : ∀ (ts : List Tr) (x : Nat), (Tr.vals hs M n ts x).natAbs ≤ cW ^ (2 * Tr.knotss ts)
  | [], x => by
    rw [Tr.vals]
    exact Nat.one_le_pow _ _ cW_pos
  | t :: ts, x => by
    rw [Tr.vals, Int.natAbs_mul, Tr.knotss]
    have h2 := Tr.vals_le S hn (hs := hs) ts x
    have kp := t.knots_pos
    have h1 : (sm n fun y => ent M x y * t.val hs M n y).natAbs ≤ cW ^ (2 * t.knots) := by
      refine Nat.le_trans (sm_le (m := 2 * wMax * cW ^ (2 * t.knots - 1)) fun y _ => ?_) ?_
      · rw [Int.natAbs_mul]
        exact Nat.mul_le_mul (ent_le S x y) (Tr.val_le S hn t y)
      · have e : 2 * t.knots = (2 * t.knots - 1) + 1 := by omega
        conv => rhs; rw [e, Nat.pow_succ, Nat.mul_comm]
        rw [← Nat.mul_assoc]
        refine Nat.mul_le_mul_right _ ?_
        unfold cW
        refine Nat.le_trans (Nat.mul_le_mul_right _ hn) ?_
        omega
    refine Nat.le_trans (Nat.mul_le_mul h1 h2) ?_
    rw [← Nat.pow_add]
    exact Nat.pow_le_pow_right cW_pos (by omega)
end
theorem trow_sum_le {hs : List Int} {M : List (List Int)} {n : Nat} (S : SqN n M) (hn : n ≤ 8) (t : Tr) (hk : t.knots ≤ 9) : ((trow hs M n t).sum).natAbs ≤ 8 * cW ^ 18 := by
  unfold trow
  rw [sm_list]
  refine Nat.le_trans (sm_le (m := cW ^ 18) fun x _ => ?_) (Nat.mul_le_mul_right _ hn)
  exact Nat.le_trans (Tr.val_le S hn t x) (Nat.pow_le_pow_right cW_pos (by omega))
theorem big18 : 8 * cW ^ 18 < 10 ^ 500 := by decide +kernel
mutual
theorem Tr.ok_not {ws : Nat → Option Int} {ch : Nat → List Nat} {j k : Nat} : ∀ t : Tr, j ∉ t.labs → t.ok ws ch → t.ok ws (hung ch j k)
  | .nd i w bs, hj, h => by
    rw [Tr.labs, mem_cons] at hj
    rw [Tr.ok] at h ⊢
    refine ⟨h.1, ?_, Tr.oks_not bs (fun z => hj (.inr z)) h.2.2⟩
    unfold hung
    rw [if_neg (fun z => hj (.inl z.symm))]
    exact h.2.1
theorem Tr.oks_not {ws : Nat → Option Int} {ch : Nat → List Nat} {j k : Nat} : ∀ ts : List Tr, j ∉ Tr.labss ts → Tr.oks ws ch ts → Tr.oks ws (hung ch j k) ts
  | [], _, h => by rw [Tr.oks]; trivial
  | t :: ts, hj, h => by
    rw [Tr.labss, mem_append] at hj
    rw [Tr.oks] at h ⊢
    exact ⟨Tr.ok_not t (fun z => hj (.inl z)) h.1, Tr.oks_not ts (fun z => hj (.inr z)) h.2⟩
end
def sumN : Nat → (Nat → Nat) → Nat
  | 0, _ => 0
  | n + 1, f => sumN n f + f n
theorem sumN_congr {f g : Nat → Nat} : ∀ {n : Nat}, (∀ i, i < n → f i = g i) → sumN n f = sumN n g
  | 0, _ => rfl
  | n + 1, h => by rw [sumN, sumN, sumN_congr fun i hi => h i (by omega), h n (by omega)]
theorem sumN_upd (f : Nat → Nat) (j c : Nat) : ∀ n : Nat, j < n → sumN n (fun x => if x = j then f x + c else f x) = sumN n f + c
  | 0, h => by omega
  | n + 1, h => by
    rw [sumN, sumN]
    by_cases e : j = n
    · subst e
      rw [if_pos rfl, sumN_congr (g := f) fun i hi => by rw [if_neg (by omega)]]
      omega
    · rw [if_neg (fun z => e z.symm), sumN_upd f j c n (by omega)]
      omega
theorem sumN_one : ∀ n : Nat, sumN n (fun _ => 1) = n
  | 0 => rfl
  | n + 1 => by rw [sumN, sumN_one n]
structure Wood (ks : List Kn) (ch : Nat → List Nat) (bs : Nat → List Tr) (m r : Nat) : Prop where
  kids : ∀ x, x < r → ch x = (bs x).map Tr.root
  ok : ∀ x, x < r → Tr.oks (kW ks) ch (bs x)
  labs : ∀ x, x < r → ∀ y ∈ Tr.labss (bs x), r ≤ y ∧ y < m
  sum : sumN r (fun x => 1 + Tr.knotss (bs x)) = m
theorem Wood.start (ks : List Kn) (m : Nat) : Wood ks (fun _ => []) (fun _ => []) m m := by
  refine ⟨fun _ _ => rfl, fun x _ => (by rw [Tr.oks]; trivial), fun x _ y hy => (by rw [Tr.labss] at hy; cases hy), ?_⟩
  have e : (fun x : Nat => 1 + Tr.knotss []) = fun _ => 1 := by funext x; rw [Tr.knotss]
  rw [e, sumN_one]
theorem Wood.hang {ks : List Kn} {ch : Nat → List Nat} {bs : Nat → List Tr} {m k j : Nat} (W : Wood ks ch bs m (k + 1)) (hj : j < k) (hk : k < m) : Wood ks (hung ch j k) (fun x => if x = j then bs x ++ [.nd k (kW ks k) (bs k)] else bs x) m k := by
  have nj : ∀ x, x < k + 1 → j ∉ Tr.labss (bs x) := fun x hx z => by have := (W.labs x hx j z).1; omega
  have okk : (Tr.nd k (kW ks k) (bs k)).ok (kW ks) (hung ch j k) := by
    rw [Tr.ok]
    refine ⟨rfl, ?_, Tr.oks_not _ (nj k (by omega)) (W.ok k (by omega))⟩
    unfold hung
    rw [if_neg (by omega)]
    exact W.kids k (by omega)
  refine ⟨fun x hx => ?_, fun x hx => ?_, fun x hx y hy => ?_, ?_⟩
  · show hung ch j k x = (if x = j then _ else _ : List Tr).map Tr.root
    unfold hung
    by_cases e : x = j
    · subst e
      rw [if_pos rfl, if_pos rfl, map_append, W.kids x (by omega)]
      rfl
    · rw [if_neg e, if_neg e]
      exact W.kids x (by omega)
  · show Tr.oks _ _ (if x = j then _ else _)
    by_cases e : x = j
    · subst e
      rw [if_pos rfl]
      exact Tr.oks_app (Tr.oks_not _ (nj x (by omega)) (W.ok x (by omega))) (by rw [Tr.oks, Tr.oks]; exact ⟨okk, trivial⟩)
    · rw [if_neg e]
      exact Tr.oks_not _ (nj x (by omega)) (W.ok x (by omega))
  · have hy' : y ∈ Tr.labss (if x = j then bs x ++ [.nd k (kW ks k) (bs k)] else bs x) := hy
    by_cases e : x = j
    · subst e
      rw [if_pos rfl, Tr.labss_app, mem_append] at hy'
      rcases hy' with z | z
      · have := W.labs x (by omega) y z
        omega
      · rw [Tr.labss, Tr.labss, append_nil, Tr.labs, mem_cons] at z
        rcases z with z | z
        · omega
        · have := W.labs k (by omega) y z
          omega
    · rw [if_neg e] at hy'
      have := W.labs x (by omega) y hy'
      omega
  · have e : (fun x => 1 + Tr.knotss (if x = j then bs x ++ [.nd k (kW ks k) (bs k)] else bs x)) = fun x => if x = j then (1 + Tr.knotss (bs x)) + (1 + Tr.knotss (bs k)) else 1 + Tr.knotss (bs x) := by
      funext x
      by_cases e : x = j
      · subst e
        rw [if_pos rfl, if_pos rfl, Tr.knotss_snoc, Tr.knots]
        omega
      · rw [if_neg e, if_neg e]
    rw [e, sumN_upd (fun x => 1 + Tr.knotss (bs x)) j (1 + Tr.knotss (bs k)) k hj]
    have := W.sum
    rw [sumN] at this
    exact this
theorem dn_size : ∀ j : Fin 12, Builtin.Range.rangeSize (j.val : Int) 0 (-1) = (j.val : Int) ∧ Builtin.Range.small (j.val : Int) 0 (-1) = true := by decide
theorem wishes (r : Nat) (h : r < 8) : ∃ wi : Option Int, [V.non, .int 0, .non, .int 1, .non, .int 2, .non, .int 3][r]? = some (vWish wi) ∧ ∀ c, wi = some c → c.natAbs ≤ 3 := by
  match r, h with
  | 0, _ => exact ⟨none, rfl, fun c e => by cases e⟩
  | 1, _ => exact ⟨some 0, rfl, fun c e => by cases e; decide⟩
  | 2, _ => exact ⟨none, rfl, fun c e => by cases e⟩
  | 3, _ => exact ⟨some 1, rfl, fun c e => by cases e; decide⟩
  | 4, _ => exact ⟨none, rfl, fun c e => by cases e⟩
  | 5, _ => exact ⟨some 2, rfl, fun c e => by cases e; decide⟩
  | 6, _ => exact ⟨none, rfl, fun c e => by cases e⟩
  | 7, _ => exact ⟨some 3, rfl, fun c e => by cases e; decide⟩
def spTree (K : Frag) : Sp := fun vs H Q _ => ∃ c : Int, vs = [.int c] ∧ ∀ (H' : Hp) (v : V) (t : Tr), Same H H' → t.knots ≤ 8 → t.sml → DA K any H' v t.dat → Q v H'
abbrev nTree : List Str := ["_law_cell", "_law_digits", "_law_many", "_law_knots", "_law_k"]
theorem scTree : FnScope nTree ["_law_cell"] (defScope sTree) := ⟨rfl, rfl, rfl, by decide +kernel, rfl, by decide +kernel, by decide +kernel⟩
theorem ok_tree {f fD : Addr} {fd fdD : FuncData} (B : BltL mg) (F : Fun K "_law_tree" "_law_tree" sTree f fd) (DD : Dn K mg "_law_draws" sDraws ["_law_cell", "_law_many", "_law_base", "_law_free"] fD fdD) (GD : FnOk P w K mg base CX0 1 fD fdD ["_law_cell", "_law_many", "_law_base", "_law_free"] spDraws) : FnOk P w K mg base CX0 2 f fd ["_law_cell"] (spTree K) := by
  refine F.ok scTree (fun vs H Q E h => ?_) (fun cdv A outer s H vs Q E hr h => ?_)
  · obtain ⟨c, rfl, _⟩ := h
    rfl
  · obtain ⟨c, rfl, q⟩ := h
    refine ⟨_, pss_cons (ps_set (i := 1) scTree.nd rfl (Or.inl rfl) (pe_fn DD GD hr rfl (pa_cons (pv 0) (pa_cons pe_int (pa_cons pe_int (pa_cons pe_bl pa_nil))))))
      (pss_cons (ps_set (i := 2) scTree.nd rfl (Or.inl rfl) (pe_op op_add pe_int (pe_op op_mod (pe_ix ix_list (pv 1) pe_int (fun _ _ => rfl)) pe_int)))
      (pss_cons (ps_set (i := 3) scTree.nd rfl (Or.inl rfl) (pe_lst pa_nil))
      (pss_cons (ps_for PassesOwn.never rfl (pi_range1 rfl B.range (pa_cons (pv 2) pa_nil)) (pg_name (i := 4) scTree.nd rfl (Or.inl rfl))
        (pss_one (ps_expr (pe_bm plainAttrs_list slot_list_append type_list_append mt_append (pv 3) (pa_cons (@QE.o _ _ _ (qe_tup (qa_cons (qe_ix ix_list (qe_lst (qa_cons ⟨pe_non⟩ (qa_cons ⟨pe_int⟩ (qa_cons ⟨pe_non⟩ (qa_cons ⟨pe_int⟩ (qa_cons ⟨pe_non⟩ (qa_cons ⟨pe_int⟩ (qa_cons ⟨pe_non⟩ (qa_cons ⟨pe_int⟩ qa_nil))))))))) ⟨pe_op op_mod (pe_ix ix_list (pv 1) (pe_op op_add pe_int (pv 4)) (fun _ _ => rfl)) pe_int⟩ (fun _ _ => rfl)) (qa_cons ⟨pe_lst pa_nil⟩ qa_nil)))) pa_nil)))))
      (pss_cons (ps_for PassesOwn.never rfl (pi_range3 rfl B.range (pa_cons (pe_op op_sub (pv 2) pe_int) (pa_cons pe_int (pa_cons (pe_un un_neg pe_int) pa_nil)))) (pg_name (i := 4) scTree.nd rfl (Or.inl rfl))
        (pss_one (ps_expr (pe_bm plainAttrs_list slot_list_append type_list_append mt_append (pe_ix ix_tup (pe_ix ix_list (pv 3) (pe_op op_mod (pe_ix ix_list (pv 1) (pe_op op_add pe_int (pv 4)) (fun _ _ => rfl)) (pv 4)) (fun _ _ => rfl)) pe_int (fun _ _ => rfl)) (pa_cons (pe_ix ix_list (pv 3) (pv 4) (fun _ _ => rfl)) pa_nil)))))
      (pss_one (ps_ret (pe_ix ix_list (pv 3) pe_int (fun _ _ => rfl)))))))), ?_⟩
    refine ⟨_, rfl, c, 18, 60, true, rfl, by decide, by decide, .inl (by decide), fun d ds H1 hd s1 nd ed => ?_⟩
    obtain ⟨ld, bd⟩ := hd
    have dg : ∀ {i : Nat}, i < 18 → ∃ x : Nat, atI (ds.map V.int) (i : Int) = some (.int (x : Int)) := fun {i} hi => by
      obtain ⟨x, ex⟩ := get_lt (l := ds) (i := i) (by omega)
      obtain ⟨x, rfl⟩ := Int.eq_ofNat_of_zero_le (bd x (mem_of_getElem? ex)).1
      exact ⟨x, atI_nat (by rw [getElem?_map, ex]; rfl)⟩
    obtain ⟨x0, e0⟩ := dg (i := 0) (by decide)
    refine ⟨_, rfl, d, _, _, _, rfl, rfl, SqL.of ed, e0, _, _, rfl, rfl, (by show (0 : Int) < 8; decide), _, _, rfl, rfl, ?_⟩
    obtain ⟨m, em, hm0, hm1⟩ : ∃ m : Nat, (1 : Int) + (x0 : Int) % 8 = (m : Int) ∧ 1 ≤ m ∧ m ≤ 8 := ⟨(1 + (x0 : Int) % 8).toNat, by omega, by omega, by omega⟩
    dsimp only [gName]
    rw [em]
    refine ⟨Nat.zero_le _, fun R hR => ?_⟩
    have nRd : d ≠ R := ne_of_none ed hR
    refine ⟨_, rfl, (m : Int), rfl, by omega, by omega, for_range (n := m) (fun i σ H' => ∃ (o4 : Option V) (ks : List Kn), σ = [some (.int c), some (.ref d), some (.int (m : Int)), some (.ref R), o4] ∧ ks.length = i ∧ Same H1 H' ∧ H' R = some (.lst (ks.map fun k => V.ref k.1)) ∧
      Knots H' ks (fun _ => []) ∧ ∀ (i : Nat) (a l : Addr) (w : Option Int), ks[i]? = some (a, l, w) → H1 a = none ∧ a ≠ R ∧ H1 l = none ∧ l ≠ R ∧ ∀ c, w = some c → c.natAbs ≤ 3)
      ⟨none, [], rfl, rfl, Same.upd hR, upd_same, ⟨(fun i a l w h => by cases h), (fun i a l w h => by cases h), (fun i j a l w a' w' h _ => by cases h)⟩, (fun i a l w h => by cases h)⟩ ?_ ?_⟩
    · rintro i σ H2 hi ⟨o4, ks, rfl, lk, s2, e2, k1, f1⟩
      have ei : ((0 : Int) + (i : Nat)) = (i : Int) := by omega
      rw [ei]
      obtain ⟨x, ex⟩ := dg (i := 1 + i) (by omega)
      have e1i : ((1 : Int) + (i : Int)) = ((1 + i : Nat) : Int) := by push_cast; rfl
      refine ⟨_, rfl, .inl ⟨rfl, _, SqL.of e2⟩, sz8, fun l0 hl0 => ?_⟩
      have s3 : Same H2 (upd H2 l0 (.lst [V.non, .int 0, .non, .int 1, .non, .int 2, .non, .int 3])) := Same.upd hl0
      have e3 : upd H2 l0 (.lst [V.non, .int 0, .non, .int 1, .non, .int 2, .non, .int 3]) l0 = some (.lst [V.non, .int 0, .non, .int 1, .non, .int 2, .non, .int 3]) := upd_same
      generalize upd H2 l0 (.lst [V.non, .int 0, .non, .int 1, .non, .int 2, .non, .int 3]) = H3 at s3 e3 ⊢
      have hw8 : ((x : Int) % 8) = ((x % 8 : Nat) : Int) := by omega
      obtain ⟨wi, hw, hws⟩ := wishes (x % 8) (by omega)
      refine ⟨_, rfl, _, rfl, _, _, rfl, rfl, d, _, _, _, rfl, rfl, SqL.of (s3 _ _ (s2 _ _ ed)), by rw [e1i]; exact ex, _, _, rfl, rfl, (by show (0 : Int) < 8; decide), l0, _, _, vWish wi, rfl, rfl, SqL.of e3, by rw [hw8]; exact atI_nat hw, Nat.zero_le _, fun l hl => ?_⟩
      refine ⟨sz2, fun a ha => ?_⟩
      have e23 := s3 _ _ e2
      have nlR : l ≠ R := (ne_of_none e23 hl).symm
      have naR : a ≠ R := (ne_of_none (by rw [upd_ne nlR.symm]; exact e23) ha).symm
      have nal : a ≠ l := (ne_of_none upd_same ha).symm
      have ha2 : H3 a = none := by rw [upd_ne nal] at ha; exact ha
      refine ⟨R, _, _, rfl, rfl, by rw [upd_ne naR.symm, upd_ne nlR.symm]; exact e23, small1000 (by rw [length_map]; omega), ?_⟩
      have kp : ∀ b o, b ≠ R → H2 b = some o → upd (upd (upd H3 l (.lst [])) a (.tup [vWish wi, .ref l])) R (.lst ((ks.map fun k => V.ref k.1) ++ [.ref a])) b = some o := fun b o n2 e => by
        have e' := s3 b o e
        rw [upd_ne n2, upd_ne (ne_of_none e' ha2), upd_ne (ne_of_none e' hl)]
        exact e'
      refine ⟨_, ks ++ [(a, l, wi)], rfl, by rw [length_append, lk]; rfl, fun b o e => ?_, by rw [upd_same, map_append]; rfl, ?_, ?_⟩
      · exact kp b o (ne_of_none e hR) (s2 _ _ e)
      · refine k1.snoc (fun i a' l' w' e => ?_) (by rw [upd_ne naR, upd_same]) (by rw [upd_ne nlR, upd_ne nal.symm, upd_same]) (s3.free hl)
        obtain ⟨_, g2, _, g4, _⟩ := f1 i a' l' w' e
        exact ⟨fun o z => kp a' o g2 z, fun o z => kp l' o g4 z⟩
      · intro i' a' l' w' e
        rcases snoc_get e with e | ⟨_, e⟩
        · exact f1 i' a' l' w' e
        · cases e
          exact ⟨(s2.trans s3).free ha2, naR, (s2.trans s3).free hl, nlR, hws⟩
    · rintro σ H2 ⟨o4, ks, rfl, lk, s2, e2, k1, f1⟩
      obtain ⟨z1, z2⟩ := dn_size ⟨m - 1, by omega⟩
      have em1 : ((m : Int) - 1) = ((m - 1 : Nat) : Int) := by omega
      refine ⟨_, rfl, _, _, rfl, rfl, _, rfl, (m : Int) - 1, 0, -1, rfl, ⟨by decide, by decide⟩, by rw [em1]; exact z2, by rw [em1]; show 0 ≤ Builtin.Range.rangeSize ((m - 1 : Nat) : Int) 0 (-1); rw [z1]; omega, ?_⟩
      have z1' : Builtin.Range.rangeSize ((m - 1 : Nat) : Int) 0 (-1) = ((m - 1 : Nat) : Int) := z1
      have en : (Builtin.Range.rangeSize ((m : Int) - 1) 0 (-1)).toNat = m - 1 := by rw [em1, z1', Int.toNat_natCast]
      rw [en]
      refine for_rangeS (n := m - 1) (fun i σ H' => ∃ (o4 : Option V) (ch : Nat → List Nat) (bs : Nat → List Tr), σ = [some (.int c), some (.ref d), some (.int (m : Int)), some (.ref R), o4] ∧ Same H1 H' ∧ H' R = some (.lst (ks.map fun k => V.ref k.1)) ∧ Knots H' ks ch ∧ Wood ks ch bs m (m - i) ∧ ∀ x, (ch x).length ≤ i)
        ⟨_, fun _ => [], fun _ => [], rfl, s2, e2, k1, Wood.start ks m, fun _ => Nat.le_refl _⟩ ?_ ?_
      · rintro i σ H3 hi ⟨o4, ch, bs, rfl, s3, e3, k3, W, hc⟩
        obtain ⟨k, hk⟩ : ∃ k, m - i = k + 1 := ⟨m - i - 1, by omega⟩
        have hk0 : 1 ≤ k := by omega
        have hkm : k < m := by omega
        rw [hk] at W
        have ek : ((m : Int) - 1 + (i : Nat) * (-1)) = (k : Int) := by omega
        rw [ek]
        obtain ⟨x, ex⟩ := dg (i := 9 + k) (by omega)
        have e1k : ((9 : Int) + (k : Int)) = ((9 + k : Nat) : Int) := by push_cast; rfl
        have exk : ((x : Int) % (k : Int)) = ((x % k : Nat) : Int) := by rw [Int.natCast_emod]
        have hj : x % k < k := Nat.mod_lt _ (by omega)
        obtain ⟨a, l, wi, ha, _⟩ := kn_ex (ks := ks) (j := x % k) (by omega)
        obtain ⟨a', l', wi', ha', ea'⟩ := kn_ex (ks := ks) (j := k) (by omega)
        have el := k3.ls (x % k) a l wi ha
        refine ⟨_, rfl, _, rfl, _, rfl, _, _, rfl, rfl, d, _, _, _, rfl, rfl, SqL.of (s3 _ _ ed), by rw [e1k]; exact ex, _, rfl, _, _, rfl, rfl, (by show (0 : Int) < (k : Int); omega), R, _, _, _, rfl, rfl, SqL.of e3, by rw [exk]; exact at_kn ha, a, _, _, _, rfl, rfl, SqT.of (k3.tp (x % k) a l wi ha), rfl, .inl ⟨rfl, _, SqL.of el⟩, _, rfl, _, rfl, R, _, _, _, rfl, rfl, SqL.of e3, at_kn ha', ?_⟩
        obtain ⟨_, g2, g3, g4, _⟩ := f1 (x % k) a l wi ha
        refine ⟨l, _, _, rfl, rfl, el, small1000 (by rw [length_map]; have := hc (x % k); omega), ?_⟩
        have k4 := k3.hang (m := k) ha
        rw [ea'] at k4
        have ei1 : m - (i + 1) = k := by omega
        refine ⟨_, hung ch (x % k) k, _, rfl, fun b o e => ?_, by rw [upd_ne g4.symm]; exact e3, k4, by rw [ei1]; exact W.hang hj hkm, fun y => ?_⟩
        · rw [upd_ne (ne_of_none e g3)]
          exact s3 _ _ e
        · unfold hung
          have := hc y
          have := hc (x % k)
          split
          · rw [length_append]; show _ + 1 ≤ _; omega
          · omega
      · rintro σ H3 ⟨o4, ch, bs, rfl, s3, e3, k3, W, hc⟩
        have e1 : m - (m - 1) = 1 := by omega
        rw [e1] at W
        obtain ⟨a, l, wi, ha, ea⟩ := kn_ex (ks := ks) (j := 0) (by omega)
        have kn : (Tr.nd 0 (kW ks 0) (bs 0)).knots = m := by
          have := W.sum
          rw [sumN, sumN, Nat.zero_add] at this
          rw [Tr.knots]
          exact this
        have da : DA K any H3 (.ref (kA ks (Tr.nd 0 (kW ks 0) (bs 0)).root)) (Tr.nd 0 (kW ks 0) (bs 0)).dat := Tr.da k3 (fun _ _ _ _ _ => ⟨trivial, trivial⟩) _ (by rw [Tr.ok]; exact ⟨rfl, W.kids 0 (by decide), W.ok 0 (by decide)⟩) (fun y hy => by
          rw [Tr.labs, mem_cons] at hy
          rcases hy with z | z
          · omega
          · have := (W.labs 0 (by decide) y z).2
            omega)
        have ea2 : kA ks (Tr.nd 0 (kW ks 0) (bs 0)).root = a := ea
        rw [ea2] at da
        exact ⟨_, rfl, R, _, _, _, rfl, rfl, SqL.of e3, at_kn ha, q H3 _ _ (s1.trans s3) (by omega) (Tr.ok_sml (ws := kW ks) (fun i c (e : kW ks i = some c) => by
          unfold kW at e
          cases hk : ks[i]? with
          | none => rw [hk] at e; cases e
          | some z =>
            obtain ⟨za, zl, zw⟩ := z
            rw [hk] at e
            exact (f1 i za zl zw hk).2.2.2.2 c e) _ (by rw [Tr.ok]; exact ⟨rfl, W.kids 0 (by decide), W.ok 0 (by decide)⟩)) da⟩
theorem wz_mok {H : Hp} {p : Addr} {n : Nat} {hs : List Int} {M : List (List Int)} (W : Wz H p n hs M) (hn : n ≤ 8) : TM.MOk n hs M := by
  refine ⟨W.len, W.sq.len, fun x hx => ?_, by omega⟩
  obtain ⟨i, hi⟩ := List.getElem?_of_mem hx
  obtain ⟨h1, h2⟩ := W.sq.row i x hi
  exact ⟨h1, fun z hz => Nat.le_trans (h2 z hz) (by decide)⟩
open TM in
theorem tr_tm {H : Hp} {wA : Addr} {u : V} {t : Tr} {hs : List Int} {M : List (List Int)} {n : Nat} {ok : Addr → Prop} (wr : WR H wA hs M) (mo : MOk n hs M) (few : t.knots ≤ 12) (d : DA K ok H u t.term) : TmW K H wA u t.tm hs M n := by
  obtain ⟨g1, g2, g3⟩ := t.tm_good
  exact ⟨wr, mo, g1, by omega, by omega, by rw [t.tm_dat]; exact DA.any d⟩
open TM in
theorem tot_val {t : Tr} {hs : List Int} {M : List (List Int)} {n : Nat} (W : MOk n hs M) : M11.low (rowR hs M t.tm).1.sum (rowR hs M t.tm).2 = ((trow hs M n t).sum, 1) := by
  rw [t.tm_row W]
  show M11.low (trow hs M n t).sum 1 = _
  rw [M11.low_one]
def PapU (K : Frag) (H : Hp) (pA : Addr) (t : Tr) (f g : Int × Int) : Prop := ∃ (v : V) (p0 p1 : Addr), H pA = some (.tup [.str "unlike", v, .ref p0, .ref p1]) ∧ DA K any H v t.dat ∧ H p0 = some (tupF f) ∧ H p1 = some (tupF g)
def PapA (H : Hp) (pA : Addr) (F : List (List (Int × Int))) : Prop := ∃ tA : Addr, H pA = some (.tup [.str "alike", .ref tA]) ∧ FGrd H tA F
theorem PapU.mono {H H' : Hp} {pA : Addr} {t : Tr} {f g : Int × Int} (h : PapU K H pA t f g) (s : Same H H') : PapU K H' pA t f g := by
  obtain ⟨v, p0, p1, h1, h2, h3, h4⟩ := h
  exact ⟨v, p0, p1, s _ _ h1, h2.mono s.keep fun _ _ => trivial, s _ _ h3, s _ _ h4⟩
abbrev nLook : List Str := ["web", "other", "paper", "term"]
abbrev aLook : List Str := ["web", "other", "paper"]
theorem scLook : FnScope nLook aLook (defScope sLook) := ⟨rfl, rfl, rfl, by decide +kernel, rfl, by decide +kernel, by decide +kernel⟩
def LkU (n m : Nat) (hs hs' : List Int) (M M' : List (List Int)) (t : Tr) (f g : Int × Int) : Prop := f ≠ g ∧ f = ((trow hs M n t).sum, 1) ∧ g = ((trow hs' M' m t).sum, 1)
def spLook (K : Frag) : Sp := fun vs H Q _ => ∃ (wA oA pA : Addr) (n m : Nat) (hs hs' : List Int) (M M' : List (List Int)), vs = [.ref wA, .ref oA, .ref pA] ∧ Wz H wA n hs M ∧ Wz H oA m hs' M' ∧ n ≤ 8 ∧ m ≤ 8 ∧
  ((∃ F, PapA H pA F ∧ F.length ≤ 16 ∧ (∀ r ∈ F, r.length ≤ 16 ∧ ∀ f ∈ r, FrB f) ∧ ∀ b H', b = goesB n hs hs' M M' F → Same H H' → Q (.bl b) H') ∨
   (∃ t f g, PapU K H pA t f g ∧ t.knots ≤ 12 ∧ ∀ b H', (b = true ↔ LkU n m hs hs' M M' t f g) → Same H H' → Q (.bl b) H'))
theorem ok_look {f fG fTm fTt : Addr} {fd fdG fdTm fdTt : FuncData} (F0 : Fun K "look_trees" "look_trees" sLook f fd)
    (DG : Dn K mg "goes_through" sGoes aGoes fG fdG) (GG : FnOk P w K mg base CX0 4 fG fdG aGoes spGoes)
    (DTm : Dn K mg "term_of" sTermOf ["tree"] fTm fdTm) (GTm : FnOk P w K mg base CX0 13 fTm fdTm ["tree"] (spTermOf K 12))
    (DTt : Dn K mg "total_of" sTotalOf ["web", "term"] fTt fdTt) (GTt : FnOk P w K mg base CX0 9 fTt fdTt ["web", "term"] (spTotalOf K)) : FnOk P w K mg base CX0 14 f fd aLook (spLook K) := by
  refine F0.ok scLook (fun vs H Q E h => ?_) (fun cdv A outer s H vs Q E hr h => ?_)
  · obtain ⟨wA, oA, pA, n, m, hs, hs', M, M', rfl, _⟩ := h
    rfl
  · obtain ⟨wA, oA, pA, n, m, hs, hs', M, M', rfl, W, W', hn, hm, h⟩ := h
    have r4 := hr.mono (j := 4) (by decide)
    have r9 := hr.mono (j := 9) (by decide)
    refine ⟨_, pss_cons (ps_if (pt_cmpR op_eq (pe_ix ix_tup (pv 2) pe_int (fun _ _ => rfl)) pe_str (nomark _)) (pss_one (ps_ret (pe_fn DG GG r4 rfl (pa_cons (pv 0) (pa_cons (pv 1) (pa_cons (pe_ix ix_tup (pv 2) pe_int (fun _ _ => rfl)) pa_nil)))))) pss_nil)
      (pss_cons (ps_if (pt_cmpR (op_eqD hr.units) (pe_ix ix_tup (pv 2) pe_int (fun _ _ => rfl)) (pe_ix ix_tup (pv 2) pe_int (fun _ _ => rfl)) (nomark _)) (pss_one (ps_ret pe_bl)) pss_nil)
      (pss_cons (ps_set (i := 3) scLook.nd rfl (Or.inl rfl) (pe_fn DTm GTm hr rfl (pa_cons (pe_ix ix_tup (pv 2) pe_int (fun _ _ => rfl)) pa_nil)))
      (pss_one (ps_ret (pe_and (pe_cmpR (op_eqD hr.units) (pe_fn DTt GTt r9 rfl (pa_cons (pv 0) (pa_cons (pv 3) pa_nil))) (pe_ix ix_tup (pv 2) pe_int (fun _ _ => rfl)) (nomark _))
        (pe_one (pe_cmpR (op_eqD hr.units) (pe_fn DTt GTt r9 rfl (pa_cons (pv 1) (pa_cons (pv 3) pa_nil))) (pe_ix ix_tup (pv 2) pe_int (fun _ _ => rfl)) (nomark _)))))))), ?_⟩
    rcases h with ⟨F, ⟨tA, ep, g⟩, hF, hFr, q⟩ | ⟨t, f0, f1, ⟨v, p0, p1, ep, dv, e0, e1⟩, tk, q⟩
    · refine ⟨_, rfl, pA, _, _, .str "alike", rfl, rfl, SqT.of ep, at_hd _ _, rfl, _, rfl, itDP rfl ?_⟩
      exact ⟨_, rfl, _, rfl, _, rfl, pA, _, _, .ref tA, rfl, rfl, SqT.of ep, at_snd _ _ _, wA, oA, tA, n, m, hs, hs', M, M', F, rfl, W.wr, W'.wr, W.len, W'.len, W.sq, W'.sq, hn, hm, g, hF, hFr, fun b H' e s => q b H' e s⟩
    · refine ⟨_, rfl, pA, _, _, .str "unlike", rfl, rfl, SqT.of ep, at_hd _ _, rfl, _, rfl, itDN (fun z => absurd (V.str.inj z) (by decide +kernel)) ?_⟩
      have at2 : atI [V.str "unlike", v, .ref p0, .ref p1] 2 = some (.ref p0) := atI_nat (j := 2) rfl
      have at3 : atI [V.str "unlike", v, .ref p0, .ref p1] 3 = some (.ref p1) := atI_nat (j := 3) rfl
      refine ⟨_, rfl, pA, _, _, .ref p0, rfl, rfl, SqT.of ep, at2, _, rfl, pA, _, _, .ref p1, rfl, rfl, SqT.of ep, at3, dF f0, dF f1, daF e0, daF e1, ⟨(lay_dF _).1, (lay_dF _).1, Nat.le_trans (lay_dF _).2 (by decide)⟩, _, rfl, ?_⟩
      rw [eqv_dF]
      by_cases hfg : f0 = f1
      · rw [decide_eq_true hfg]
        exact iteT (q false H ⟨fun z => (by cases z), fun L => absurd hfg L.1⟩ (Same.refl _))
      rw [decide_eq_false hfg]
      refine iteF ?_
      have td := t.deep_le
      refine ⟨_, rfl, pA, _, _, v, rfl, rfl, SqT.of ep, at_snd _ _ _, v, t, rfl, dv, by omega, fun u H1 s1 du => ?_⟩
      have mo := wz_mok W hn
      have mo' := wz_mok W' hm
      refine ⟨_, rfl, _, rfl, wA, u, t.tm, hs, M, n, rfl, tr_tm (W.same s1).wr mo tk du, ?_⟩
      rintro zv H2 s2 ⟨tp, rfl, htp⟩
      rw [tot_val mo] at htp
      have s12 := s1.trans s2
      refine ⟨_, rfl, pA, _, _, .ref p0, rfl, rfl, SqT.of (s12 _ _ ep), at2, dF _, dF f0, daF htp, daF (s12 _ _ e0), ⟨(lay_dF _).1, (lay_dF _).1, Nat.le_trans (lay_dF _).2 (by decide)⟩, _, rfl, ?_⟩
      rw [eqv_dF]
      by_cases h0 : ((trow hs M n t).sum, (1 : Int)) = f0
      case neg =>
        rw [decide_eq_false h0]
        exact iteF (q false H2 ⟨fun z => (by cases z), fun L => absurd L.2.1.symm h0⟩ s12)
      rw [decide_eq_true h0]
      refine iteT ?_
      refine ⟨_, rfl, _, rfl, oA, u, t.tm, hs', M', m, rfl, tr_tm (W'.same s12).wr mo' tk (du.mono s2.keep fun _ _ => trivial : DA K any H2 u t.term), ?_⟩
      rintro zv H3 s3 ⟨tp2, rfl, htp2⟩
      rw [tot_val mo'] at htp2
      have s13 := s12.trans s3
      refine ⟨_, rfl, pA, _, _, .ref p1, rfl, rfl, SqT.of (s13 _ _ ep), at3, dF _, dF f1, daF htp2, daF (s13 _ _ e1), ⟨(lay_dF _).1, (lay_dF _).1, Nat.le_trans (lay_dF _).2 (by decide)⟩, q _ H3 ?_ s13⟩
      rw [eqv_dF, decide_eq_true_iff]
      exact ⟨fun z => ⟨hfg, h0.symm, z.symm⟩, fun L => L.2.2.symm⟩
abbrev nUn : List Str := ["_law_web_here", "_law_other", "_law_cell", "_law_tree_here", "_law_totals", "_law_told", "_law_way", "_law_more"]
abbrev aUn : List Str := ["_law_web_here", "_law_other", "_law_cell"]
theorem scUn : FnScope nUn aUn (defScope sUnlike) := ⟨rfl, rfl, rfl, by decide +kernel, rfl, by decide +kernel, by decide +kernel⟩
def Bg (f : Int × Int) : Prop := f.1.natAbs < 10 ^ 550 ∧ f.2.natAbs < 10 ^ 550
def spUn (K : Frag) : Sp := fun vs H Q _ => ∃ (wA oA : Addr) (n m : Nat) (hs hs' : List Int) (M M' : List (List Int)) (c : Int), vs = [.ref wA, .ref oA, .int c] ∧ Wz H wA n hs M ∧ Wz H oA m hs' M' ∧ n ≤ 8 ∧ m ≤ 8 ∧
  ∀ (rA pA : Addr) (b : Bool) (t : Tr) (f g : Int × Int) (H' : Hp), Same H H' → H' rA = some (.tup [.ref pA, .bl b]) → PapU K H' pA t f g → t.knots ≤ 8 → t.sml → Bg f → Bg g → (b = true ↔ LkU n m hs hs' M M' t f g) → Q (.ref rA) H'
theorem bg_of {x : Int} (h : x.natAbs ≤ 10 ^ 540) : Bg (x, 1) := ⟨Nat.lt_of_le_of_lt h (Nat.pow_lt_pow_right (by decide) (by decide)), Nat.one_lt_pow (by decide) (by decide)⟩
theorem sum_le540 {hs : List Int} {M : List (List Int)} {n : Nat} (S : SqN n M) (hn : n ≤ 8) (t : Tr) (hk : t.knots ≤ 9) : ((trow hs M n t).sum).natAbs ≤ 10 ^ 530 :=
  Nat.le_trans (trow_sum_le S hn t hk) (Nat.le_trans (Nat.le_of_lt big18) (Nat.pow_le_pow_right (by decide) (by decide)))
def JU (H0 : Hp) (wA oA : Addr) (c : Int) (v : V) (tA : Addr) (wy : Nat) (σ : L2.St) (H' : Hp) : Prop := ∃ (ta q0 q1 : Addr) (f g : Int × Int) (o7 : Option V), σ = [some (.ref wA), some (.ref oA), some (.int c), some v, some (.ref tA), some (.ref ta), some (.int (wy : Int)), o7] ∧ Same H0 H' ∧ H0 ta = none ∧ H' ta = some (.lst [.ref q0, .ref q1]) ∧ H' q0 = some (tupF f) ∧ H' q1 = some (tupF g) ∧ Bg f ∧ Bg g
theorem ten_le : (3 * 10 ^ 530 + 1 : Nat) ≤ 10 ^ 540 := by decide +kernel
theorem ok_unlike {f fT fR fL : Addr} {fd fdT fdR fdL : FuncData} (B : BltL mg) (F0 : Fun K "_law_unlike" "_law_unlike" sUnlike f fd)
    (DT : Dn K mg "_law_tree" sTree ["_law_cell"] fT fdT) (GT : FnOk P w K mg base CX0 2 fT fdT ["_law_cell"] (spTree K))
    (DR : Dn K mg "_law_row" sLRow aLRow fR fdR) (GR : FnOk P w K mg base CX0 13 fR fdR aLRow (spLRow K 12))
    (DL : Dn K mg "_law_lowest" sLow aLow fL fdL) (GL : FnOk P w K mg base CX0 1 fL fdL aLow spLow) : FnOk P w K mg base CX0 14 f fd aUn (spUn K) := by
  refine F0.ok scUn (fun vs H Q E h => ?_) (fun cdv A outer s H vs Q E hr h => ?_)
  · obtain ⟨wA, oA, n, m, hs, hs', M, M', c, rfl, _⟩ := h
    rfl
  · obtain ⟨wA, oA, n, m, hs, hs', M, M', c, rfl, W, W', hn, hm, q⟩ := h
    have r1 := hr.mono (j := 1) (by decide)
    have r2 := hr.mono (j := 2) (by decide)
    refine ⟨_, pss_cons (ps_set (i := 3) scUn.nd rfl (Or.inl rfl) (pe_fn DT GT r2 rfl (pa_cons (pe_op op_fdiv (pv 2) pe_int) pa_nil)))
      (pss_cons (ps_set (i := 4) scUn.nd rfl (Or.inl rfl) (pe_lst (pa_cons (pe_tup (pa_cons (pe_callB (call_sum rfl) (by rfl) B.sum boot_sum (pa_cons (pe_fn DR GR hr rfl (pa_cons (pv 0) (pa_cons (pv 3) pa_nil))) pa_nil)) (pa_cons pe_int pa_nil))) (pa_cons (pe_tup (pa_cons (pe_callB (call_sum rfl) (by rfl) B.sum boot_sum (pa_cons (pe_fn DR GR hr rfl (pa_cons (pv 1) (pa_cons (pv 3) pa_nil))) pa_nil)) (pa_cons pe_int pa_nil))) pa_nil))))
      (pss_cons (ps_set (i := 5) scUn.nd rfl (Or.inl rfl) (pe_callTy call_list_of (by rfl) B.list boot_list (pa_cons (pv 4) pa_nil)))
      (pss_cons (ps_set (i := 6) scUn.nd rfl (Or.inl rfl) (pe_op op_mod (pv 2) pe_int))
      (pss_mid (ps_if (pt_cmpR op_eq (pv 6) pe_int (nomark _)) (pss_one (ps_set (i := 5) scUn.nd rfl (Or.inl rfl) (pe_lst (pa_cons (pe_ix ix_list (pv 4) pe_int (fun _ _ => rfl)) (pa_cons (pe_ix ix_list (pv 4) pe_int (fun _ _ => rfl)) pa_nil))))) pss_nil)
      (pss_mid (ps_if (PW.pt (pw_or (pt_cmpR op_eq (pv 6) pe_int (nomark _)) (pw_or1 (pt_cmpR op_eq (pv 6) pe_int (nomark _)))))
        (pss_one (ps_asg (pe_fn DL GL r1 rfl (pa_cons (pe_op op_add (pe_op op_mul (pe_ix ix_tup (pe_ix ix_list (pv 4) (pe_op op_sub (pv 6) pe_int) (fun _ _ => rfl)) pe_int (fun _ _ => rfl)) pe_int) pe_int) (pa_cons pe_int pa_nil))) (pg_sub (pv 5) (pe_op op_sub (pv 6) pe_int) set_list))) pss_nil)
      (pss_mid (ps_if (pt_cmpR op_eq (pv 6) pe_int (nomark _)) (pss_one (ps_set (i := 5) scUn.nd rfl (Or.inl rfl) (pe_lst (pa_cons (pe_tup (pa_cons (pe_op op_add (pe_ix ix_tup (pe_ix ix_list (pv 4) pe_int (fun _ _ => rfl)) pe_int (fun _ _ => rfl)) pe_int) (pa_cons pe_int pa_nil))) (pa_cons (pe_tup (pa_cons (pe_op op_add (pe_ix ix_tup (pe_ix ix_list (pv 4) pe_int (fun _ _ => rfl)) pe_int (fun _ _ => rfl)) pe_int) (pa_cons pe_int pa_nil))) pa_nil))))) pss_nil)
      (pss_mid (ps_if (pt_cmpR op_eq (pv 6) pe_int (nomark _)) (pss_cons (ps_set (i := 7) scUn.nd rfl (Or.inl rfl) (pe_tup (pa_cons pe_non (pa_cons (pe_lst (pa_cons (pv 3) pa_nil)) pa_nil))))
        (pss_one (ps_set (i := 5) scUn.nd rfl (Or.inl rfl) (pe_lst (pa_cons (pe_tup (pa_cons (pe_callB (call_sum rfl) (by rfl) B.sum boot_sum (pa_cons (pe_fn DR GR hr rfl (pa_cons (pv 0) (pa_cons (pv 7) pa_nil))) pa_nil)) (pa_cons pe_int pa_nil))) (pa_cons (pe_tup (pa_cons (pe_callB (call_sum rfl) (by rfl) B.sum boot_sum (pa_cons (pe_fn DR GR hr rfl (pa_cons (pv 1) (pa_cons (pv 7) pa_nil))) pa_nil)) (pa_cons pe_int pa_nil))) pa_nil)))))) pss_nil)
      (pss_one (ps_ret (pe_tup (pa_cons (pe_tup (pa_cons pe_str (pa_cons (pv 3) (pa_cons (pe_ix ix_list (pv 5) pe_int (fun _ _ => rfl)) (pa_cons (pe_ix ix_list (pv 5) pe_int (fun _ _ => rfl)) pa_nil)))))
        (pa_cons (pe_and (pe_cmpR (op_eqD hr.units) (pv 5) (pv 4) (nomark _)) (pe_one (pe_cmpR (op_neD hr.units) (pe_ix ix_list (pv 4) pe_int (fun _ _ => rfl)) (pe_ix ix_list (pv 4) pe_int (fun _ _ => rfl)) (nomark _)))) pa_nil)))))))))))), ?_⟩
    have mo := wz_mok W hn
    have mo' := wz_mok W' hm
    refine ⟨_, rfl, _, _, rfl, rfl, ⟨by decide, by decide⟩, c / 8, rfl, fun H1 v t s1 tk ts dv => ?_⟩
    have td := t.deep_le
    refine ⟨_, rfl, _, rfl, wA, v, t, n, hs, M, rfl, (W.same s1).wr, mo, dv, by omega, by omega, fun D1 H2 s2 n2 e2 => ⟨D1, _, rfl, SqL.of e2, sz2, fun t0 ht0 => ?_⟩⟩
    have s3 : Same H2 (upd H2 t0 (.tup [.int (trow hs M n t).sum, .int 1])) := Same.upd ht0
    have e3 : upd H2 t0 (.tup [.int (trow hs M n t).sum, .int 1]) t0 = some (tupF ((trow hs M n t).sum, 1)) := upd_same
    generalize upd H2 t0 (.tup [.int (trow hs M n t).sum, .int 1]) = H3 at s3 e3 ⊢
    have s13 := (s1.trans s2).trans s3
    have dv3 : DA K any H3 v t.dat := dv.mono (s2.trans s3).keep fun _ _ => trivial
    refine ⟨_, rfl, _, rfl, oA, v, t, m, hs', M', rfl, (W'.same s13).wr, mo', dv3, by omega, by omega, fun D2 H4 s4 n4 e4 => ⟨D2, _, rfl, SqL.of e4, sz2, fun t1 ht1 => ?_⟩⟩
    have s5 : Same H4 (upd H4 t1 (.tup [.int (trow hs' M' m t).sum, .int 1])) := Same.upd ht1
    have e5 : upd H4 t1 (.tup [.int (trow hs' M' m t).sum, .int 1]) t1 = some (tupF ((trow hs' M' m t).sum, 1)) := upd_same
    generalize upd H4 t1 (.tup [.int (trow hs' M' m t).sum, .int 1]) = H5 at s5 e5 ⊢
    refine ⟨sz2, fun tA htA => ?_⟩
    have s6 : Same H5 (upd H5 tA (.lst [.ref t0, .ref t1])) := Same.upd htA
    have e6 : upd H5 tA (.lst [.ref t0, .ref t1]) tA = some (.lst [.ref t0, .ref t1]) := upd_same
    generalize upd H5 tA (.lst [.ref t0, .ref t1]) = H6 at s6 e6 ⊢
    have s36 := (s4.trans s5).trans s6
    have e0 : H6 t0 = some (tupF ((trow hs M n t).sum, 1)) := s36 _ _ e3
    have e1 : H6 t1 = some (tupF ((trow hs' M' m t).sum, 1)) := s6 _ _ e5
    have sH6 := s13.trans s36
    have dv6 : DA K any H6 v t.dat := dv3.mono s36.keep fun _ _ => trivial
    have T0 := sum_le540 W.sq hn (hs := hs) t (by omega)
    have T1 := sum_le540 W'.sq hm (hs := hs') t (by omega)
    have p5 : (10 ^ 530 : Nat) ≤ 10 ^ 540 := Nat.pow_le_pow_right (by decide) (by decide)
    have ten := ten_le
    have B0 : Bg ((trow hs M n t).sum, 1) := bg_of (Nat.le_trans T0 p5)
    have B1 : Bg ((trow hs' M' m t).sum, 1) := bg_of (Nat.le_trans T1 p5)
    refine ⟨_, rfl, tA, _, rfl, .inl (SqL.of e6), fun l0 hl0 => ?_⟩
    have s7 : Same H6 (upd H6 l0 (.lst [.ref t0, .ref t1])) := Same.upd hl0
    have e7 : upd H6 l0 (.lst [.ref t0, .ref t1]) l0 = some (.lst [.ref t0, .ref t1]) := upd_same
    generalize upd H6 l0 (.lst [.ref t0, .ref t1]) = H7 at s7 e7 ⊢
    refine ⟨_, rfl, _, _, rfl, rfl, (by show (0 : Int) < 8; decide), ?_⟩
    obtain ⟨wy, ewy⟩ := Int.eq_ofNat_of_zero_le (Int.emod_nonneg c (by decide : (8 : Int) ≠ 0))
    dsimp only
    rw [ewy]
    have tot0 : ∀ {H' : Hp}, Same H6 H' → SqL K H' tA [.ref t0, .ref t1] := fun s' => SqL.of (s' _ _ e6)
    have at0 : atI [V.ref t0, V.ref t1] 0 = some (.ref t0) := at_hd _ _
    have at1 : atI [V.ref t0, V.ref t1] 1 = some (.ref t1) := at_snd _ _ _
    refine ⟨JU H6 wA oA c v tA wy, ?_, ?_⟩
    · refine ⟨_, rfl, rfl, _, rfl, ?_⟩
      by_cases hk : wy = 1
      case neg => exact itDN (fun z => hk (by have := V.int.inj z; omega)) ⟨l0, t0, t1, _, _, none, rfl, s7, hl0, e7, s7 _ _ e0, s7 _ _ e1, B0, B1⟩
      refine itDP (by rw [hk]; rfl) ?_
      refine ⟨_, rfl, tA, _, _, _, rfl, rfl, tot0 s7, at1, _, rfl, tA, _, _, _, rfl, rfl, tot0 s7, at0, sz2, fun l1 hl1 => ?_⟩
      exact ⟨l1, t1, t0, _, _, none, rfl, s7.trans (Same.upd hl1), s7.free hl1, upd_same, Same.upd hl1 _ _ (s7 _ _ e1), Same.upd hl1 _ _ (s7 _ _ e0), B1, B0⟩
    rintro σ H8 ⟨ta, q0, q1, f0, g0, o7, rfl, s8, nt, et, eq0, eq1, Bf, Bgg⟩
    refine ⟨JU H6 wA oA c v tA wy, ?_, ?_⟩
    · have skip : JU H6 wA oA c v tA wy [some (.ref wA), some (.ref oA), some (.int c), some v, some (.ref tA), some (.ref ta), some (.int (wy : Int)), o7] H8 := ⟨ta, q0, q1, f0, g0, o7, rfl, s8, nt, et, eq0, eq1, Bf, Bgg⟩
      have go : ∀ j : Nat, j < 2 → wy = 2 + j → ∃ (x : Int) (p : Addr), atI [V.ref t0, V.ref t1] ((wy : Int) - 2) = some (.ref p) ∧ H6 p = some (tupF (x, 1)) ∧ x.natAbs ≤ 10 ^ 530 := fun j hj ew => by
        have e : (wy : Int) - 2 = (j : Int) := by omega
        rw [e]
        match j, hj with
        | 0, _ => exact ⟨_, t0, at0, e0, T0⟩
        | 1, _ => exact ⟨_, t1, at1, e1, T1⟩
      have put : ∀ (j : Nat) (p : Addr) (z : Int × Int) (H9 : Hp), j < 2 → wy = 2 + j → Same H8 H9 → H9 p = some (tupF z) → Bg z → JU H6 wA oA c v tA wy [some (.ref wA), some (.ref oA), some (.int c), some v, some (.ref tA), some (.ref ta), some (.int (wy : Int)), o7] (upd H9 ta (.lst ([V.ref q0, V.ref q1].set j (.ref p)))) := fun j p z H9 hj ew s9 ep Bz => by
        have ss : Same H6 (upd H9 ta (.lst ([V.ref q0, V.ref q1].set j (.ref p)))) := fun b o e => by
          rw [upd_ne (ne_of_none e nt)]
          exact s9 _ _ (s8 _ _ e)
        have et9 := s9 _ _ et
        have kp : ∀ {a : Addr} {y : Int × Int}, H9 a = some (tupF y) → upd H9 ta (.lst ([V.ref q0, V.ref q1].set j (.ref p))) a = some (tupF y) := fun {a y} e => by
          rw [upd_ne (fun z => by subst z; rw [et9] at e; cases e)]
          exact e
        match j, hj with
        | 0, _ => exact ⟨ta, p, q1, z, g0, o7, rfl, ss, nt, upd_same, kp ep, kp (s9 _ _ eq1), Bz, Bgg⟩
        | 1, _ => exact ⟨ta, q0, p, f0, z, o7, rfl, ss, nt, upd_same, kp (s9 _ _ eq0), kp ep, Bf, Bz⟩
      have run : ∀ j : Nat, j < 2 → wy = 2 + j → tAsg (tCall spLow [] E0 (tCons (tOp (rI0 fun i j => V.int (i + j)) (tOp (L2.rI CMul fun i j => V.int (i * j)) (tOp (rIxT K) (tOp (rIxL K) (tVar 4) (tOp (rI0 fun i j => V.int (i - j)) (tVar 6) (tC (V.int 2)))) (tC (V.int 0))) (tC (V.int 3))) (tC (V.int 1))) (tCons (tC (V.int 3)) tNil))) (gSub (tVar 5) (tOp (rI0 fun i j => V.int (i - j)) (tVar 6) (tC (V.int 2))) rSetL) { nx := JU H6 wA oA c v tA wy, rt := fun v H => Q v H, bk := fun _ _ => False, ct := fun _ _ => False } [some (.ref wA), some (.ref oA), some (.int c), some v, some (.ref tA), some (.ref ta), some (.int (wy : Int)), o7] H8 := fun j hj ew => by
        obtain ⟨x, p, a1, a2, a3⟩ := go j hj ew
        refine ⟨_, rfl, _, rfl, _, _, rfl, rfl, tA, _, _, .ref p, rfl, rfl, tot0 s8, a1, p, _, _, .int x, rfl, rfl, SqT.of (s8 _ _ a2), at_hd _ _, _, _, rfl, rfl, cmul_r (by decide) (by decide), _, _, rfl, rfl, ?_⟩
        refine ⟨_, _, rfl, by decide, small_bn (by decide), fun p' H9 s9 n9 e9 => ?_⟩
        refine ⟨_, rfl, _, rfl, _, _, rfl, rfl, ta, _, _, j, rfl, rfl, s9 _ _ et, ?_, ?_⟩
        · show ixN 2 ((wy : Int) - 2) = some j
          rw [show (wy : Int) - 2 = (j : Int) by omega]
          exact ixN_nat hj
        · obtain ⟨l1, l2⟩ := M11.low_le (t := x * 3 + 1) (b := 3) (by decide)
          have hb : Bg (M11.low (x * 3 + 1) 3) := ⟨Nat.lt_of_le_of_lt l1 (Nat.lt_of_le_of_lt (show (x * 3 + 1).natAbs ≤ 10 ^ 540 by omega) (Nat.pow_lt_pow_right (by decide) (by decide))), Nat.lt_of_le_of_lt l2 (Nat.lt_of_lt_of_le (by decide : 3 < 10 ^ 1) (Nat.pow_le_pow_right (by decide) (by decide)))⟩
          exact put j p' _ H9 hj ew s9 e9 hb
      refine ⟨_, rfl, rfl, _, rfl, ?_⟩
      by_cases h2 : wy = 2
      · exact itDP (by rw [h2]; rfl) (iteT (run 0 (by decide) h2))
      refine itDN (fun z => h2 (by have := V.int.inj z; omega)) ?_
      refine ⟨_, rfl, rfl, _, rfl, ?_⟩
      by_cases h3 : wy = 3
      · exact itDP (by rw [h3]; rfl) (run 1 (by decide) h3)
      · exact itDN (fun z => h3 (by have := V.int.inj z; omega)) skip
    clear eq0 eq1 et nt s8 Bf Bgg
    rintro σ H8 ⟨ta, q0, q1, f0, g0, o7, rfl, s8, nt, et, eq0, eq1, Bf, Bgg⟩
    refine ⟨JU H6 wA oA c v tA wy, ?_, ?_⟩
    · refine ⟨_, rfl, rfl, _, rfl, ?_⟩
      by_cases hk : wy = 4
      case neg => exact itDN (fun z => hk (by have := V.int.inj z; omega)) ⟨ta, q0, q1, f0, g0, o7, rfl, s8, nt, et, eq0, eq1, Bf, Bgg⟩
      refine itDP (by rw [hk]; rfl) ?_
      refine ⟨_, rfl, tA, _, _, _, rfl, rfl, tot0 s8, at0, t0, _, _, _, rfl, rfl, SqT.of (s8 _ _ e0), at_hd _ _, _, _, rfl, rfl, sz2, fun u0 hu0 => ?_⟩
      have s9 : Same H8 (upd H8 u0 (.tup [.int ((trow hs M n t).sum + 1), .int 1])) := Same.upd hu0
      have f9 : upd H8 u0 (.tup [.int ((trow hs M n t).sum + 1), .int 1]) u0 = some (tupF ((trow hs M n t).sum + 1, 1)) := upd_same
      generalize upd H8 u0 (.tup [.int ((trow hs M n t).sum + 1), .int 1]) = H9 at s9 f9 ⊢
      have s69 := s8.trans s9
      refine ⟨_, rfl, tA, _, _, _, rfl, rfl, tot0 s69, at1, t1, _, _, _, rfl, rfl, SqT.of (s69 _ _ e1), at_hd _ _, _, _, rfl, rfl, sz2, fun u1 hu1 => ?_⟩
      have s10 : Same H9 (upd H9 u1 (.tup [.int ((trow hs' M' m t).sum + 1), .int 1])) := Same.upd hu1
      have f10 : upd H9 u1 (.tup [.int ((trow hs' M' m t).sum + 1), .int 1]) u1 = some (tupF ((trow hs' M' m t).sum + 1, 1)) := upd_same
      generalize upd H9 u1 (.tup [.int ((trow hs' M' m t).sum + 1), .int 1]) = H10 at s10 f10 ⊢
      refine ⟨sz2, fun l1 hl1 => ?_⟩
      exact ⟨l1, u0, u1, _, _, o7, rfl, (s69.trans s10).trans (Same.upd hl1), (s69.trans s10).free hl1, upd_same, Same.upd hl1 _ _ (s10 _ _ f9), Same.upd hl1 _ _ f10, bg_of (by omega), bg_of (by omega)⟩
    clear eq0 eq1 et nt s8 Bf Bgg
    rintro σ H8 ⟨ta, q0, q1, f0, g0, o7, rfl, s8, nt, et, eq0, eq1, Bf, Bgg⟩
    refine ⟨JU H6 wA oA c v tA wy, ?_, ?_⟩
    · refine ⟨_, rfl, rfl, _, rfl, ?_⟩
      by_cases hk : wy = 5
      case neg => exact itDN (fun z => hk (by have := V.int.inj z; omega)) ⟨ta, q0, q1, f0, g0, o7, rfl, s8, nt, et, eq0, eq1, Bf, Bgg⟩
      refine itDP (by rw [hk]; rfl) ?_
      refine ⟨_, rfl, sz1, fun l1 hl1 => ?_⟩
      have s9 : Same H8 (upd H8 l1 (.lst [v])) := Same.upd hl1
      have f9 : upd H8 l1 (.lst [v]) l1 = some (.lst [v]) := upd_same
      generalize upd H8 l1 (.lst [v]) = H9 at s9 f9 ⊢
      refine ⟨sz2, fun mA hmA => ?_⟩
      have s10 : Same H9 (upd H9 mA (.tup [.non, .ref l1])) := Same.upd hmA
      have f10 : upd H9 mA (.tup [.non, .ref l1]) mA = some (.tup [.non, .ref l1]) := upd_same
      generalize upd H9 mA (.tup [.non, .ref l1]) = Ha at s10 f10 ⊢
      have s6a := (s8.trans s9).trans s10
      obtain ⟨t', et'⟩ : ∃ t' : Tr, t' = .nd 0 none [t] := ⟨_, rfl⟩
      have da : DA K any Ha (.ref mA) t'.dat := by
        rw [et', Tr.dat, Tr.dats, Tr.dats]
        exact .tup trivial (SqT.of f10) (.cons .non (.cons (.lst trivial (SqL.of (s10 _ _ f9)) (.cons (dv6.mono s6a.keep fun _ _ => trivial) .nil)) .nil))
      have tk' : t'.knots ≤ 9 := by
        rw [et', Tr.knots, Tr.knotss, Tr.knotss]
        omega
      have td' := t'.deep_le
      have T0' := sum_le540 W.sq hn (hs := hs) t' tk'
      have T1' := sum_le540 W'.sq hm (hs := hs') t' tk'
      have sHa := sH6.trans s6a
      refine ⟨_, rfl, _, rfl, wA, .ref mA, t', n, hs, M, rfl, (W.same sHa).wr, mo, da, by omega, by omega, fun D3 Hb sb nb eb => ⟨D3, _, rfl, SqL.of eb, sz2, fun u0 hu0 => ?_⟩⟩
      have sc : Same Hb (upd Hb u0 (.tup [.int (trow hs M n t').sum, .int 1])) := Same.upd hu0
      have fc : upd Hb u0 (.tup [.int (trow hs M n t').sum, .int 1]) u0 = some (tupF ((trow hs M n t').sum, 1)) := upd_same
      generalize upd Hb u0 (.tup [.int (trow hs M n t').sum, .int 1]) = Hc at sc fc ⊢
      have sbc := sb.trans sc
      refine ⟨_, rfl, _, rfl, oA, .ref mA, t', m, hs', M', rfl, (W'.same (sHa.trans sbc)).wr, mo', da.mono sbc.keep (fun _ _ => trivial), by omega, by omega, fun D4 Hd sd nd' ed => ⟨D4, _, rfl, SqL.of ed, sz2, fun u1 hu1 => ?_⟩⟩
      have se : Same Hd (upd Hd u1 (.tup [.int (trow hs' M' m t').sum, .int 1])) := Same.upd hu1
      have fe : upd Hd u1 (.tup [.int (trow hs' M' m t').sum, .int 1]) u1 = some (tupF ((trow hs' M' m t').sum, 1)) := upd_same
      generalize upd Hd u1 (.tup [.int (trow hs' M' m t').sum, .int 1]) = He at se fe ⊢
      refine ⟨sz2, fun l2 hl2 => ?_⟩
      have s6e := (s6a.trans sbc).trans (sd.trans se)
      exact ⟨l2, u0, u1, _, _, _, rfl, s6e.trans (Same.upd hl2), s6e.free hl2, upd_same, Same.upd hl2 _ _ ((sd.trans se) _ _ fc), Same.upd hl2 _ _ fe, bg_of (Nat.le_trans T0' p5), bg_of (Nat.le_trans T1' p5)⟩
    clear eq0 eq1 et nt s8 Bf Bgg
    rintro σ H8 ⟨ta, q0, q1, f0, g0, o7, rfl, s8, nt, et, eq0, eq1, Bf, Bgg⟩
    have aq0 : atI [V.ref q0, V.ref q1] 0 = some (.ref q0) := at_hd _ _
    have aq1 : atI [V.ref q0, V.ref q1] 1 = some (.ref q1) := at_snd _ _ _
    refine ⟨_, rfl, _, rfl, ta, _, _, _, rfl, rfl, SqL.of et, aq0, _, rfl, ta, _, _, _, rfl, rfl, SqL.of et, aq1, sz4, fun pA hpA => ?_⟩
    have s9 : Same H8 (upd H8 pA (.tup [.str "unlike", v, .ref q0, .ref q1])) := Same.upd hpA
    have f9 : upd H8 pA (.tup [.str "unlike", v, .ref q0, .ref q1]) pA = some (.tup [.str "unlike", v, .ref q0, .ref q1]) := upd_same
    generalize upd H8 pA (.tup [.str "unlike", v, .ref q0, .ref q1]) = H9 at s9 f9 ⊢
    have s69 := s8.trans s9
    have pap : PapU K H9 pA t f0 g0 := ⟨v, q0, q1, f9, dv6.mono s69.keep fun _ _ => trivial, s9 _ _ eq0, s9 _ _ eq1⟩
    have fin : ∀ (b : Bool) (rA : Addr), H9 rA = none → (b = true ↔ LkU n m hs hs' M M' t f0 g0) → Q (.ref rA) (upd H9 rA (.tup [.ref pA, .bl b])) := fun b rA hrA hb => q rA pA b t f0 g0 _ ((sH6.trans s69).trans (Same.upd hrA)) upd_same (pap.mono (Same.upd hrA)) tk ts Bf Bgg hb
    refine ⟨_, rfl, _, rfl, .list [dF f0, dF g0], .list [dF ((trow hs M n t).sum, 1), dF ((trow hs' M' m t).sum, 1)], .lst trivial (SqL.of (s9 _ _ et)) (.cons (daF (s9 _ _ eq0)) (.cons (daF (s9 _ _ eq1)) .nil)), .lst trivial (SqL.of (s69 _ _ e6)) (.cons (daF (s69 _ _ e0)) (.cons (daF (s69 _ _ e1)) .nil)), ⟨?_, ?_, ?_⟩, _, rfl, ?_⟩
    · simp only [PyData.canLay0, PyData.canLayAll0, (lay_dF _).1, Bool.and_self]
    · simp only [PyData.canLay0, PyData.canLayAll0, (lay_dF _).1, Bool.and_self]
    · have z1 := (lay_dF f0).2
      have z2 := (lay_dF g0).2
      simp only [PyData.depth, PyData.depthAll]
      omega
    have ee : PyData.eqv (.list [dF f0, dF g0]) (.list [dF ((trow hs M n t).sum, 1), dF ((trow hs' M' m t).sum, 1)]) = (decide (f0 = ((trow hs M n t).sum, 1)) && decide (g0 = ((trow hs' M' m t).sum, 1))) := by simp only [PyData.eqv, PyData.eqvAll, eqv_dF, Bool.and_true]
    rw [ee]
    cases hb : (decide (f0 = ((trow hs M n t).sum, 1)) && decide (g0 = ((trow hs' M' m t).sum, 1))) with
    | false =>
      refine iteF ⟨sz2, fun rA hrA => fin false rA hrA ⟨fun z => (by cases z), fun L => ?_⟩⟩
      rw [decide_eq_true L.2.1, decide_eq_true L.2.2] at hb
      cases hb
    | true =>
      refine iteT ?_
      rw [Bool.and_eq_true, decide_eq_true_iff, decide_eq_true_iff] at hb
      refine ⟨_, rfl, tA, _, _, _, rfl, rfl, tot0 s69, at0, _, rfl, tA, _, _, _, rfl, rfl, tot0 s69, at1, dF _, dF _, daF (s69 _ _ e0), daF (s69 _ _ e1), ⟨(lay_dF _).1, (lay_dF _).1, Nat.le_trans (lay_dF _).2 (by decide)⟩, sz2, fun rA hrA => fin _ rA hrA ?_⟩
      rw [eqv_dF, ← hb.1, ← hb.2]
      show (!decide (f0 = g0)) = true ↔ _
      rw [Bool.not_eq_true', decide_eq_false_iff_not]
      exact ⟨fun z => ⟨z, hb.1, hb.2⟩, fun L => L.1⟩
def spLaw (K : Frag) : Sp := fun vs H Q _ => ∃ (a : Addr) (ns : List Int), vs = [.ref a] ∧ SqL K H a (ns.map V.int) ∧ ns.length ≤ 63 ∧ ∀ H', Q (.bl true) H'
abbrev nLaw : List Str := ["_law_script", "_law_web_here", "_law_other", "_law_copy", "_law_cell", "_law_paper", "_law_due", "_law_table_here", "_law_kept", "_law_told"]
theorem scLaw : FnScope nLaw ["_law_script"] (defScope sLaw) := ⟨rfl, rfl, rfl, by decide +kernel, rfl, by decide +kernel, by decide +kernel⟩
def PapOk (K : Frag) (n m : Nat) (hs hs' : List Int) (M M' : List (List Int)) (H : Hp) (pA : Addr) (b : Bool) (d : PyData) : Prop :=
  DA K any H (.ref pA) d ∧ Sw 5000 30 d ∧ ((∃ F, PapA H pA F ∧ TabE F ∧ (b = true ↔ LG n hs hs' M M' F)) ∨ (∃ t f g, PapU K H pA t f g ∧ t.knots ≤ 12 ∧ (b = true ↔ LkU n m hs hs' M M' t f g)))
theorem sw_str {x : Str} (h : x.cps.all (· < 0x110000) = true) (hb : x.cps.size ≤ 10) : Sw 10 0 (.str x) := by
  refine ⟨rfl, rfl, ?_, rfl, ?_, Nat.zero_le _⟩
  · simp only [PyData.canLay0, PyData.strOk]
    exact h
  · simp only [PyData.bulk]
    exact hb
theorem pap_a {n m : Nat} {hs hs' : List Int} {M M' : List (List Int)} {H : Hp} {pA : Addr} {b : Bool} {F : List (List (Int × Int))} (p : PapA H pA F) (t : TabE F) (hb : b = true ↔ LG n hs hs' M M' F) : PapOk K n m hs hs' M M' H pA b (.tuple [.str "alike", dT F]) := by
  obtain ⟨tA, e, g⟩ := p
  refine ⟨.tup trivial (SqT.of e) (.cons (.str _) (.cons g.da .nil)), ?_, .inl ⟨F, ⟨tA, e, g⟩, t, hb⟩⟩
  refine (Sw.tup (b := 800) (e := 3) (n := 2) (fun d hd => ?_) (by show 2 ≤ 2; decide)).mono (by decide) (by decide)
  simp only [mem_cons, not_mem_nil, or_false] at hd
  rcases hd with rfl | rfl
  · exact (sw_str (by decide +kernel) (by decide +kernel)).mono (by decide) (by decide)
  · exact sw_dT t
theorem pap_u {n m : Nat} {hs hs' : List Int} {M M' : List (List Int)} {H : Hp} {pA : Addr} {b : Bool} {t : Tr} {f g : Int × Int} (p : PapU K H pA t f g) (tk : t.knots ≤ 8) (ts : t.sml) (bf : Bg f) (bg : Bg g) (hb : b = true ↔ LkU n m hs hs' M M' t f g) : PapOk K n m hs hs' M M' H pA b (.tuple [.str "unlike", t.dat, dF f, dF g]) := by
  obtain ⟨v, p0, p1, e, dv, e0, e1⟩ := p
  refine ⟨.tup trivial (SqT.of e) (.cons (.str _) (.cons dv (.cons (daF e0) (.cons (daF e1) .nil)))), ?_, .inr ⟨t, f, g, ⟨v, p0, p1, e, dv, e0, e1⟩, by omega, hb⟩⟩
  refine (Sw.tup (b := 800) (e := 25) (n := 4) (fun d hd => ?_) (by show 4 ≤ 4; decide)).mono (by decide) (by decide)
  simp only [mem_cons, not_mem_nil, or_false] at hd
  rcases hd with rfl | rfl | rfl | rfl
  · exact (sw_str (by decide +kernel) (by decide +kernel)).mono (by decide) (by decide)
  · exact (Tr.sw8 ts (by omega)).mono (by decide) (by decide)
  · exact (sw_dF bf.1 bf.2).mono (by decide) (by decide)
  · exact (sw_dF bg.1 bg.2).mono (by decide) (by decide)
theorem grd_none {H : Hp} {a : Addr} (h : H a = some (.lst [])) : FGrd H a [] := ⟨[], ⟨[], h, rfl, fun i r x h => by cases h⟩, rfl, fun i x fs h => by cases h⟩
theorem grd_one {H : Hp} {a r : Addr} (h : H a = some (.lst [.ref r])) (hr : H r = some (.lst [])) : FGrd H a [[]] := by
  refine ⟨[[]], ⟨[r], h, rfl, fun i r' x h1 h2 => ?_⟩, rfl, fun i x fs h1 h2 => ?_⟩
  · match i, h1, h2 with
    | 0, h1, h2 => cases h1; cases h2; exact hr
  · match i, h1, h2 with
    | 0, h1, h2 => cases h1; cases h2; exact ⟨rfl, fun i v f h => by cases h⟩
theorem grd_two {H : Hp} {a r r' : Addr} (h : H a = some (.lst [.ref r, .ref r'])) (hr : H r = some (.lst [])) (hr' : H r' = some (.lst [])) : FGrd H a [[], []] := by
  refine ⟨[[], []], ⟨[r, r'], h, rfl, fun i q x h1 h2 => ?_⟩, rfl, fun i x fs h1 h2 => ?_⟩
  · match i, h1, h2 with
    | 0, h1, h2 => cases h1; cases h2; exact hr
    | 1, h1, h2 => cases h1; cases h2; exact hr'
  · match i, h1, h2 with
    | 0, h1, h2 => cases h1; cases h2; exact ⟨rfl, fun i v f h => by cases h⟩
    | 1, h1, h2 => cases h1; cases h2; exact ⟨rfl, fun i v f h => by cases h⟩
theorem tab_emp {F : List (List (Int × Int))} (h1 : F.length ≤ 2) (h2 : ∀ r ∈ F, r = []) : TabE F := ⟨by omega, fun r hr => by
  rw [h2 r hr]
  exact ⟨Nat.zero_le _, fun f hf => by cases hf⟩⟩
theorem ok_law {f fC fT fTb fB fL fU fK : Addr} {fd fdC fdT fdTb fdB fdL fdU fdK : FuncData} (B : BltL mg) (bS : mg "str" = none) (F0 : Fun K "law" "law" sLaw f fd)
    (DC : Dn K mg "_law_cell_at" sCellAt ["_law_script", "_law_k"] fC fdC) (GC : FnOk P w K mg base CX0 1 fC fdC ["_law_script", "_law_k"] (spCell K))
    (DT : Dn K mg "_law_two" sTwo ["_law_script", "_law_most"] fT fdT) (GT : FnOk P w K mg base CX0 3 fT fdT ["_law_script", "_law_most"] (spTwo K))
    (DTb : Dn K mg "_law_table" sTable aTable fTb fdTb) (GTb : FnOk P w K mg base CX0 3 fTb fdTb aTable (spTable K))
    (DB : Dn K mg "_law_bent" sBent aBent fB fdB) (GB : FnOk P w K mg base CX0 2 fB fdB aBent spBent)
    (DL : Dn K mg "_law_goes" sLGoes aLG fL fdL) (GL : FnOk P w K mg base CX0 3 fL fdL aLG spLGoes)
    (DU : Dn K mg "_law_unlike" sUnlike aUn fU fdU) (GU : FnOk P w K mg base CX0 14 fU fdU aUn (spUn K))
    (DK : Dn K mg "look_trees" sLook aLook fK fdK) (GK : FnOk P w K mg base CX0 14 fK fdK aLook (spLook K)) : FnOk P w K mg base CX0 15 f fd ["_law_script"] (spLaw K) := by
  refine F0.ok scLaw (fun vs H Q E h => ?_) (fun cdv A outer s H vs Q E hr h => ?_)
  · obtain ⟨a, ns, rfl, _⟩ := h
    rfl
  · obtain ⟨a, ns, rfl, hS, hlen, k⟩ := h
    have r1 := hr.mono (j := 1) (by decide)
    have r2 := hr.mono (j := 2) (by decide)
    have r3 := hr.mono (j := 3) (by decide)
    refine ⟨_, pss_cons (ps_asg (pe_fn DT GT r3 rfl (pa_cons (pv 0) (pa_cons pe_int pa_nil))) (pg_tup rfl (pgs_cons (pg_name (i := 1) scLaw.nd rfl (Or.inl rfl)) (pgs_cons (pg_name (i := 2) scLaw.nd rfl (Or.inl rfl)) pgs_nil))))
      (pss_cons (ps_set (i := 3) scLaw.nd rfl (Or.inl rfl) (pe_callTy (call_strD hr.gd hr.units) (by rfl) bS boot_strT (pa_cons (pe_lst (pa_cons (pv 1) (pa_cons (pv 2) pa_nil))) pa_nil)))
      (pss_cons (ps_for PassesOwn.never rfl (pi_list (pe_op op_cat (pe_slice sl_list (pv 0) (po_some pe_int) (po_some pe_int)) (pe_lst (pa_cons (pe_fn DC GC r1 rfl (pa_cons (pv 0) (pa_cons pe_int pa_nil))) (pa_cons pe_int (pa_cons pe_int pa_nil)))))) (pg_name (i := 4) scLaw.nd rfl (Or.inl rfl))
        (pss_mid (ps_if (pt_cmpR op_eq (pe_op op_mod (pv 4) pe_int) pe_int (nomark _))
          (pss_one (ps_asg (pe_fn DU GU hr rfl (pa_cons (pv 1) (pa_cons (pv 2) (pa_cons (pe_op op_fdiv (pv 4) pe_int) pa_nil)))) (pg_tup rfl (pgs_cons (pg_name (i := 5) scLaw.nd rfl (Or.inl rfl)) (pgs_cons (pg_name (i := 6) scLaw.nd rfl (Or.inl rfl)) pgs_nil)))))
          (pss_cons (ps_set (i := 7) scLaw.nd rfl (Or.inl rfl) (pe_fn DB GB r2 rfl (pa_cons (pe_fn DTb GTb r3 rfl (pa_cons (pv 0) (pa_cons (pv 1) (pa_cons (pv 2) (pa_cons (pe_op op_fdiv (pv 4) pe_int) pa_nil))))) (pa_cons (pe_op op_fdiv (pv 4) pe_int) pa_nil))))
          (pss_mid (ps_if (pt_cmpR op_eq (pe_op op_mod (pv 4) pe_int) pe_int (nomark _)) (pss_one (ps_set (i := 7) scLaw.nd rfl (Or.inl rfl) (pe_ix ix_list (pe_lst (pa_cons (pe_lst pa_nil) (pa_cons (pe_lst (pa_cons (pe_lst pa_nil) pa_nil)) (pa_cons (pe_lst (pa_cons (pe_lst pa_nil) (pa_cons (pe_lst pa_nil) pa_nil))) pa_nil)))) (pe_op op_mod (pe_op op_fdiv (pv 4) pe_int) pe_int) (fun _ _ => rfl)))) pss_nil)
          (pss_cons (ps_set (i := 5) scLaw.nd rfl (Or.inl rfl) (pe_tup (pa_cons pe_str (pa_cons (pv 7) pa_nil))))
          (pss_one (ps_set (i := 6) scLaw.nd rfl (Or.inl rfl) (pe_fn DL GL r3 rfl (pa_cons (pv 1) (pa_cons (pv 2) (pa_cons (pv 7) pa_nil))))))))))
        (pss_cons (ps_set (i := 8) scLaw.nd rfl (Or.inl rfl) (pe_callTy (call_strD hr.gd hr.units) (by rfl) bS boot_strT (pa_cons (pv 5) pa_nil)))
        (pss_mid (ps_set (i := 9) scLaw.nd rfl (Or.inl rfl) (pe_fn DK GK hr rfl (pa_cons (pv 1) (pa_cons (pv 2) (pa_cons (pv 5) pa_nil)))))
        (pss_one (ps_if (PW.pt (pw_or (pt_not (pt_val (pe_callB call_isinst (by rfl) B.isi boot_isinstance (pa_cons (pv 9) (pa_cons (pe_bltn (v := .ty "bool") rfl B.bool boot_bool rfl) pa_nil)))))
          (pw_or (pt_cmpR op_ne (pv 9) (pv 6) (nomark _))
          (pw_or1 (pt_cmpR op_ne (pe_callTy (call_strD hr.gd hr.units) (by rfl) bS boot_strT (pa_cons (pv 5) pa_nil)) (pv 8) (nomark _)))))) (pss_one (ps_ret pe_bl)) pss_nil)))))
      )
      (pss_one (ps_ret (pe_cmpR op_eq (pe_callTy (call_strD hr.gd hr.units) (by rfl) bS boot_strT (pa_cons (pe_lst (pa_cons (pv 1) (pa_cons (pv 2) pa_nil))) pa_nil)) (pv 3) (nomark _)))))), ?_⟩
    refine ⟨_, rfl, a, ns, 5, rfl, hS, by decide, fun p w1 w2 n m hs hs' M M' H1 s1 ep W1 W2 hn hm => ?_⟩
    refine ⟨p, _, rfl, SqT.of ep, rfl, _, _, rfl, _, _, rfl, rfl, ?_⟩
    have sh := two_show W1 W2 hn hm
    have daT : ∀ {H' : Hp} {Lq : Addr}, Same H1 H' → H' Lq = some (.lst [.ref w1, .ref w2]) → DA K any H' (.ref Lq) (dTwo hs M hs' M') := by
      intro H' Lq s' e
      exact .lst trivial (SqL.of e) (.cons (W1.same s').wr.da (.cons (W2.same s').wr.da .nil))
    refine ⟨_, rfl, _, rfl, sz2, fun Lq hLq => ?_⟩
    have s2 : Same H1 (upd H1 Lq (.lst [.ref w1, .ref w2])) := Same.upd hLq
    have e2 : upd H1 Lq (.lst [.ref w1, .ref w2]) Lq = some (.lst [.ref w1, .ref w2]) := upd_same
    generalize upd H1 Lq (.lst [.ref w1, .ref w2]) = H2 at s2 e2 ⊢
    refine ⟨Lq, _, rfl, daT s2 e2, sh, ?_⟩
    have sHa := s1.trans s2
    obtain ⟨ms, hms, lms⟩ := cut_ints ns (some 7) (some 18)
    refine ⟨_, rfl, _, rfl, _, rfl, a, _, rfl, sHa.seq hS, fun l1 hl1 => ?_⟩
    rw [hms]
    have s3 : Same H2 (upd H2 l1 (.lst (ms.map V.int))) := Same.upd hl1
    have e3 : upd H2 l1 (.lst (ms.map V.int)) l1 = some (.lst (ms.map V.int)) := upd_same
    generalize upd H2 l1 (.lst (ms.map V.int)) = H3 at s3 e3 ⊢
    refine ⟨_, rfl, a, ns, 3, rfl, (sHa.trans s3).seq hS, by decide, fun c3 _ => ⟨sz3, fun l2 hl2 => ?_⟩⟩
    have s4 : Same H3 (upd H3 l2 (.lst [.int c3, .int 0, .int 1])) := Same.upd hl2
    have e4 : upd H3 l2 (.lst [.int c3, .int 0, .int 1]) l2 = some (.lst (([c3, 0, 1] : List Int).map V.int)) := upd_same
    generalize upd H3 l2 (.lst [.int c3, .int 0, .int 1]) = H4 at s4 e4 ⊢
    refine ⟨l1, l2, _, _, rfl, rfl, s4 _ _ e3, e4, Nat.le_of_lt (small1000 (by rw [length_map, length_map]; show ms.length + 3 ≤ 1000; omega)), fun l3 hl3 => ?_⟩
    rw [← map_append]
    have s5 : Same H4 (upd H4 l3 (.lst ((ms ++ [c3, 0, 1]).map V.int))) := Same.upd hl3
    have e5 : upd H4 l3 (.lst ((ms ++ [c3, 0, 1]).map V.int)) l3 = some (.lst ((ms ++ [c3, 0, 1]).map V.int)) := upd_same
    generalize upd H4 l3 (.lst ((ms ++ [c3, 0, 1]).map V.int)) = H5 at s5 e5 ⊢
    have s25 := ((s2.trans s3).trans s4).trans s5
    generalize htx : V.str (dTwo hs M hs' M').shown = txt
    refine ⟨l3, rfl, ⟨_, SqL.of e5⟩, ?_⟩
    refine for_list (K := K) (xs := (ms ++ [c3, 0, 1]).map V.int) (fun i σ H' => ∃ (o4 o5 o6 o7 o8 o9 : Option V), σ = [some (.ref a), some (.ref w1), some (.ref w2), some txt, o4, o5, o6, o7, o8, o9] ∧ Same H5 H') ⟨none, none, none, none, none, none, by rw [← htx]; rfl, Same.refl _⟩ (fun i σ H' _ ⟨_, _, _, _, _, _, _, s'⟩ => SqL.of (s' _ _ e5)) ?_ ?_
    · rintro i vv σ Ha hvv ⟨o4, o5, o6, o7, o8, o9, rfl, sa⟩
      obtain ⟨c, hc, rfl⟩ := map_get hvv
      have t1a := s25.trans sa
      have Wa := W1.same t1a
      have Wb := W2.same t1a
      refine ⟨fun σ H' => ∃ (pA : Addr) (b : Bool) (d : PyData) (o7 : Option V), σ = [some (.ref a), some (.ref w1), some (.ref w2), some txt, some (.int c), some (.ref pA), some (.bl b), o7, o8, o9] ∧ Same Ha H' ∧ PapOk K n m hs hs' M M' H' pA b d, ?_, ?_⟩
      · refine ⟨_, rfl, _, _, rfl, rfl, (by show (0 : Int) < 2; decide), rfl, _, rfl, ?_⟩
        by_cases h2 : c % 2 = 0
        · refine itDP (show V.int (c % 2) = V.int 0 by rw [h2]) ?_
          refine ⟨_, rfl, _, rfl, _, rfl, _, _, rfl, rfl, ⟨by decide, by decide⟩, w1, w2, n, m, hs, hs', M, M', c / 2, rfl, Wa, Wb, hn, hm, fun rA pA b t f g Hb sb er pp tk ts bf bg hb => ?_⟩
          exact ⟨rA, _, rfl, SqT.of er, rfl, _, _, rfl, _, _, rfl, rfl, pA, b, _, o7, rfl, sb, pap_u pp tk ts bf bg hb⟩
        refine itDN (fun z => h2 (V.int.inj z)) ?_
        refine ⟨_, rfl, _, rfl, _, rfl, _, rfl, _, _, rfl, rfl, ⟨by decide, by decide⟩, ?_⟩
        refine ⟨a, w1, w2, ns, n, m, hs, hs', M, M', c / 6, rfl, (s1.trans t1a).seq hS, Wa.wr, Wb.wr, W1.len, W2.len, hn, hm, fun tA F Hb sb gb tb => ?_⟩
        refine ⟨_, rfl, _, _, rfl, rfl, ⟨by decide, by decide⟩, tA, c / 5, F, rfl, gb, tb, fun bA F' Hc sc gc tc => ?_⟩
        have sac := sb.trans sc
        refine ⟨fun σ H' => ∃ (bA : Addr) (F' : List (List (Int × Int))), σ = [some (.ref a), some (.ref w1), some (.ref w2), some txt, some (.int c), o5, o6, some (.ref bA), o8, o9] ∧ Same Ha H' ∧ FGrd H' bA F' ∧ TabE F', ?_, ?_⟩
        · refine ⟨_, rfl, _, _, rfl, rfl, (by show (0 : Int) < 22; decide), rfl, _, rfl, ?_⟩
          by_cases h7 : c % 22 = 7
          case neg => exact itDN (fun z => h7 (V.int.inj z)) ⟨bA, F', rfl, sac, gc, tc⟩
          refine itDP (show V.int (c % 22) = V.int 7 by rw [h7]) ?_
          refine ⟨Nat.zero_le _, fun x1 hx1 => ?_⟩
          have q1 : Same Hc (upd Hc x1 (.lst [])) := Same.upd hx1
          have f1 : upd Hc x1 (.lst []) x1 = some (.lst []) := upd_same
          generalize upd Hc x1 (.lst []) = G1 at q1 f1 ⊢
          refine ⟨Nat.zero_le _, fun x2 hx2 => ?_⟩
          have q2 : Same G1 (upd G1 x2 (.lst [])) := Same.upd hx2
          have f2 : upd G1 x2 (.lst []) x2 = some (.lst []) := upd_same
          generalize upd G1 x2 (.lst []) = G2 at q2 f2 ⊢
          refine ⟨sz1, fun x3 hx3 => ?_⟩
          have q3 : Same G2 (upd G2 x3 (.lst [.ref x2])) := Same.upd hx3
          have f3 : upd G2 x3 (.lst [.ref x2]) x3 = some (.lst [.ref x2]) := upd_same
          generalize upd G2 x3 (.lst [.ref x2]) = G3 at q3 f3 ⊢
          refine ⟨Nat.zero_le _, fun x4 hx4 => ?_⟩
          have q4 : Same G3 (upd G3 x4 (.lst [])) := Same.upd hx4
          have f4 : upd G3 x4 (.lst []) x4 = some (.lst []) := upd_same
          generalize upd G3 x4 (.lst []) = G4 at q4 f4 ⊢
          refine ⟨Nat.zero_le _, fun x5 hx5 => ?_⟩
          have q5 : Same G4 (upd G4 x5 (.lst [])) := Same.upd hx5
          have f5 : upd G4 x5 (.lst []) x5 = some (.lst []) := upd_same
          generalize upd G4 x5 (.lst []) = G5 at q5 f5 ⊢
          refine ⟨sz2, fun x6 hx6 => ?_⟩
          have q6 : Same G5 (upd G5 x6 (.lst [.ref x4, .ref x5])) := Same.upd hx6
          have f6 : upd G5 x6 (.lst [.ref x4, .ref x5]) x6 = some (.lst [.ref x4, .ref x5]) := upd_same
          generalize upd G5 x6 (.lst [.ref x4, .ref x5]) = G6 at q6 f6 ⊢
          refine ⟨sz3, fun x7 hx7 => ?_⟩
          have q7 : Same G6 (upd G6 x7 (.lst [.ref x1, .ref x3, .ref x6])) := Same.upd hx7
          have f7 : upd G6 x7 (.lst [.ref x1, .ref x3, .ref x6]) x7 = some (.lst [.ref x1, .ref x3, .ref x6]) := upd_same
          generalize upd G6 x7 (.lst [.ref x1, .ref x3, .ref x6]) = G7 at q7 f7 ⊢
          have q67 := q6.trans q7
          have q57 := q5.trans q67
          have q47 := q4.trans q57
          have q37 := q3.trans q47
          have q27 := q2.trans q37
          refine ⟨_, rfl, _, _, rfl, rfl, ⟨by decide, by decide⟩, _, _, rfl, rfl, (by show (0 : Int) < 3; decide), ?_⟩
          obtain ⟨j, ej⟩ := Int.eq_ofNat_of_zero_le (Int.emod_nonneg (c / 22) (by decide : (3 : Int) ≠ 0))
          have hj : j < 3 := by have := Int.emod_lt_of_pos (c / 22) (by decide : (0 : Int) < 3); omega
          have pick : ∃ (r : Addr) (F : List (List (Int × Int))), atI [V.ref x1, V.ref x3, V.ref x6] (c / 22 % 3) = some (.ref r) ∧ FGrd G7 r F ∧ TabE F := by
            rw [ej]
            match j, hj with
            | 0, _ => exact ⟨x1, [], rfl, grd_none (q27 _ _ f1), tab_emp (by decide) (fun r hr => by cases hr)⟩
            | 1, _ => exact ⟨x3, [[]], rfl, grd_one (q47 _ _ f3) (q37 _ _ f2), tab_emp (by decide) (fun r hr => mem_singleton.mp hr)⟩
            | 2, _ => exact ⟨x6, [[], []], rfl, grd_two (q7 _ _ f6) (q57 _ _ f4) (q67 _ _ f5), tab_emp (by decide) (fun r hr => by simpa using hr)⟩
          obtain ⟨r, F, p1, p2, p3⟩ := pick
          exact ⟨x7, _, _, .ref r, rfl, rfl, SqL.of f7, p1, r, F, rfl, sac.trans (q1.trans q27), p2, p3⟩
        · rintro σ Hd ⟨bA, F', rfl, sd, gd, td⟩
          refine ⟨_, rfl, sz2, fun pA hpA => ?_⟩
          have se : Same Hd (upd Hd pA (.tup [.str "alike", .ref bA])) := Same.upd hpA
          have ee : upd Hd pA (.tup [.str "alike", .ref bA]) pA = some (.tup [.str "alike", .ref bA]) := upd_same
          generalize upd Hd pA (.tup [.str "alike", .ref bA]) = He at se ee ⊢
          have t1e := t1a.trans (sd.trans se)
          have hFr : ∀ r ∈ F', r.length ≤ 16 ∧ ∀ f ∈ r, FrB f := fun r hr => ⟨(td.2 r hr).1, fun f hf => ((td.2 r hr).2 f hf).b (by decide)⟩
          refine ⟨_, rfl, _, rfl, _, rfl, w1, w2, bA, n, m, hs, hs', M, M', F', rfl, (W1.same t1e).wr, (W2.same t1e).wr, W1.len, W2.len, W1.sq, W2.sq, hn, hm, gd.mono se, td.1, hFr, fun b Hf hb sf => ?_⟩
          exact ⟨pA, b, _, _, rfl, (sd.trans se).trans sf, pap_a (m := m) ⟨bA, sf _ _ ee, (gd.mono se).mono sf⟩ td hb⟩
      · rintro σ Hb ⟨pA, b, d, o7, rfl, sb, dd, sw, hp⟩
        have t1b := t1a.trans sb
        have out := sw.out (by decide) (by decide)
        refine ⟨_, rfl, pA, d, rfl, dd, out, ?_⟩
        refine ⟨fun σ H' => σ = [some (.ref a), some (.ref w1), some (.ref w2), some txt, some (.int c), some (.ref pA), some (.bl b), o7, some (.str d.shown), some (.bl b)] ∧ Same Hb H', ?_, ?_⟩
        · refine ⟨_, rfl, _, rfl, _, rfl, w1, w2, pA, n, m, hs, hs', M, M', rfl, W1.same t1b, W2.same t1b, hn, hm, ?_⟩
          rcases hp with ⟨F, pp, tt, hb⟩ | ⟨t, f0, g0, pp, tk, hb⟩
          · have hFr : ∀ r ∈ F, r.length ≤ 16 ∧ ∀ f ∈ r, FrB f := fun r hr => ⟨(tt.2 r hr).1, fun f hf => ((tt.2 r hr).2 f hf).b (by decide)⟩
            refine .inl ⟨F, pp, tt.1, hFr, fun bl Hc hbl sc => ⟨?_, sc⟩⟩
            have e : bl = b := by
              rw [Bool.eq_iff_iff, hb, hbl]
              exact goes_iff W1.len W2.len W1.sq W2.sq fun r hr f hf => ((hFr r hr).2 f hf).1
            rw [e]
            rfl
          · refine .inr ⟨t, f0, g0, pp, tk, fun bl Hc hbl sc => ⟨?_, sc⟩⟩
            have e : bl = b := by rw [Bool.eq_iff_iff, hb, hbl]
            rw [e]
            rfl
        · rintro σ Hc ⟨rfl, sc⟩
          refine ⟨_, rfl, _, _, _, true, rfl, .bl _, kitBB, _, rfl, iteF ?_⟩
          refine ⟨_, rfl, _, rfl, rfl, _, rfl, iteNS rfl ?_⟩
          refine ⟨_, rfl, pA, d, rfl, dd.mono sc.keep (fun _ _ => trivial), out, _, rfl, rfl, _, rfl, iteNS rfl ?_⟩
          exact ⟨_, _, _, _, _, _, rfl, (sa.trans sb).trans sc⟩
    · rintro σ Ha ⟨o4, o5, o6, o7, o8, o9, rfl, sa⟩
      refine ⟨_, rfl, _, rfl, sz2, fun Lz hLz => ?_⟩
      have sz : Same H1 (upd Ha Lz (.lst [.ref w1, .ref w2])) := (s25.trans sa).trans (Same.upd hLz)
      refine ⟨Lz, _, rfl, daT sz upd_same, sh, _, rfl, by rw [← htx]; rfl, ?_⟩
      rw [htx, decide_eq_true rfl]
      exact k _
end
structure At (K : Frag) (x : Str) (st : Stmt) (f : Addr) (fd : FuncData) : Prop where
  fn : Fun K x x st f fd
  ns : PySem.W.nsIn K mainGlobals x = some (some (.ref f))
theorem at_mk {K : Frag} {x : Str} {st : Stmt} {f : Addr} {oc : Value} {od an : Option Addr} {osl : Array (Option Value)} {kV doc pm cdv ct : Value} (a : PySem.W.nsIn K mainGlobals x = some (some (.ref f))) (l : K.lookup f = some ⟨oc, od, .func (PySem.W.fnOf x x (defArgs st) (defBody st) (defScope st) .none kV doc pm an cdv ct), osl⟩)
    (c : PySem.W.codeIn K cdv x = true) (k : PySem.W.keepIn K (.ref f) = true) : ∃ f fd, At K x st f fd := ⟨f, _, fun_mk l c k, a⟩
theorem kit_ref {K : Frag} {CN C : Addr} {cd : ClassData} {b : Bool} (h0 : (Value.ref CN == Value.ref C) = false) (h1 : PySem.W.clsIn K C = some cd) (h2 : PySem.W.typeIn K (.ref C) = some (.type "type")) (h3 : PySem.W.subIn K (.ref CN) (.ref C) = some b) : PySem.W.kitOne K (.ref CN) (.ref C) = some b := by
  unfold PySem.W.kitOne PySem.W.kitCls
  rw [if_neg (by rw [h0]; decide)]
  show (if ((PySem.W.clsIn K C).isSome && PySem.W.typeIn K (.ref C) == some (.type "type")) = true then PySem.W.subIn K (.ref CN) (.ref C) else none) = some b
  rw [h1, h2, h3]
  rfl
theorem kit_ty {K : Frag} {CN : Addr} {T : String} {b : Bool} (h0 : (Value.ref CN == Value.type T) = false) (h1 : PySem.W.kitMeta T = true) (h3 : PySem.W.subIn K (.ref CN) (.type T) = some b) : PySem.W.kitOne K (.ref CN) (.type T) = some b := by
  unfold PySem.W.kitOne PySem.W.kitCls
  rw [if_neg (by rw [h0]; decide)]
  show (if PySem.W.kitMeta T = true then PySem.W.subIn K (.ref CN) (.type T) else none) = some b
  rw [if_pos h1, h3]
theorem all_mk {l : PySem.W.OpenLaw} {w : World} {K : Frag} {h : Heap} {mg : Str → Option Value} {fa fL : Addr} (X : K.In h) (G : h.Ns mainGlobals mg) (hfa : mg "law" = some (.ref fa)) (A0 : ∃ f fd, At K "fraction_of" sFr f fd) (A1 : ∃ f fd, At K "inner_terms" sInner f fd) (A2 : ∃ f fd, At K "terms_innermost_first" sFirst f fd) (A3 : ∃ f fd, At K "shared_by_all" sAll f fd) (A4 : ∃ f fd, At K "lowered" sLowered f fd) (A5 : ∃ f fd, At K "one_by_one_product" sBothRow f fd) (A6 : ∃ f fd, At K "one_by_one_sum" sPlusRow f fd) (A7 : ∃ f fd, At K "many_times" sManyRow f fd) (A8 : ∃ f fd, At K "tops_of_leaf" sLeaf f fd) (A9 : ∃ f fd, At K "tops_from_one" sFromOne f fd) (A10 : ∃ f fd, At K "value_from_two" sFromTwo f fd) (A11 : ∃ f fd, At K "value_by_kind" sByKind f fd) (A12 : ∃ f fd, At K "value_of" sOver f fd) (A13 : ∃ f fd, At K "total_of_value" sTov f fd) (A14 : ∃ f fd, At K "total_of_term" sTot f fd) (A15 : ∃ f fd, At K "total_of" sTotalOf f fd) (A16 : ∃ f fd, At K "greatest_divisor" sGd f fd) (A17 : ∃ f fd, At K "common_bottom" sBottom f fd) (A18 : ∃ f fd, At K "top_over" sTopOver f fd) (A19 : ∃ f fd, At K "column_of" sCol f fd) (A20 : ∃ f fd, At K "columns_of" sCols f fd) (A21 : ∃ f fd, At K "sum_of_products" sDot f fd) (A22 : ∃ f fd, At K "sums_with_each" sEach f fd) (A23 : ∃ f fd, At K "product_of_grids" sProd f fd) (A24 : ∃ f fd, At K "in_one_list" sInOne f fd) (A25 : ∃ f fd, At K "in_square" sInSq f fd) (A26 : ∃ f fd, At K "is_square" sIsSq f fd) (A27 : ∃ f fd, At K "come_to" sCome f fd) (A28 : ∃ f fd, At K "are_shared_out" sShared f fd) (A29 : ∃ f fd, At K "keeps_hue" sKeepsHue f fd) (A30 : ∃ f fd, At K "keep_hues" sKeepHues f fd) (A31 : ∃ f fd, At K "goes_through" sGoes f fd) (A32 : ∃ f fd, At K "_law_cell_at" sCellAt f fd) (A33 : ∃ f fd, At K "_law_draws" sDraws f fd) (A34 : ∃ f fd, At K "_law_square" sSquare f fd) (A35 : ∃ f fd, At K "_law_web" sWebP f fd) (A36 : ∃ f fd, At K "_law_order" sOrder f fd) (A37 : ∃ f fd, At K "_law_lift" sLift f fd) (A38 : ∃ f fd, At K "_law_renamed" sLRen f fd) (A39 : ∃ f fd, At K "_law_two" sTwo f fd) (A40 : ∃ f fd, At K "_law_lowest" sLow f fd) (A41 : ∃ f fd, At K "_law_mixed" sMixed f fd) (A42 : ∃ f fd, At K "_law_by_hues" sByHues f fd) (A43 : ∃ f fd, At K "_law_bent" sBent f fd) (A44 : ∃ f fd, At K "_law_sum" sLSum f fd) (A45 : ∃ f fd, At K "_law_goes" sLGoes f fd) (A46 : ∃ f fd, At K "_law_table" sTable f fd) (A47 : ∃ f fd, At K "term_of" sTermOf f fd) (A48 : ∃ f fd, At K "look_trees" sLook f fd) (A49 : ∃ f fd, At K "_law_tree" sTree f fd) (A50 : ∃ f fd, At K "_law_row" sLRow f fd) (A51 : ∃ f fd, At K "_law_unlike" sUnlike f fd)
    {aT : Addr} (aTn : PySem.W.nsIn K mainGlobals "INNER_TERMS" = some (some (.ref aT))) (tbl : PyProof.Rows.KTD.tabLook (PyProof.Rows.KTD.datLooks fun b => K.lookup b) (fun b => K.lookup b) aT (tabD inTab) = true)
    {oc kV doc pm cdv ct : Value} {od an : Option Addr} {osl : Array (Option Value)} (aL : PySem.W.nsIn K mainGlobals "law" = some (some (.ref fL))) (lL : K.lookup fL = some ⟨oc, od, .func (PySem.W.fnOf "law" "law" (defArgs sLaw) (defBody sLaw) (defScope sLaw) .none kV doc pm an cdv ct), osl⟩) (cL : PySem.W.codeIn K cdv "law" = true) (kL : PySem.W.keepIn K (.ref fL) = true)
    (z_len : PySem.W.nsIn K mainGlobals "len" = some none) (z_range : PySem.W.nsIn K mainGlobals "range" = some none) (z_int : PySem.W.nsIn K mainGlobals "int" = some none) (z_sorted : PySem.W.nsIn K mainGlobals "sorted" = some none) (z_enumerate : PySem.W.nsIn K mainGlobals "enumerate" = some none) (z_sum : PySem.W.nsIn K mainGlobals "sum" = some none) (z_zip : PySem.W.nsIn K mainGlobals "zip" = some none) (z_list : PySem.W.nsIn K mainGlobals "list" = some none) (z_isinstance : PySem.W.nsIn K mainGlobals "isinstance" = some none) (z_bool : PySem.W.nsIn K mainGlobals "bool" = some none) (z_max : PySem.W.nsIn K mainGlobals "max" = some none) (z_str : PySem.W.nsIn K mainGlobals "str" = some none) (z_abs : PySem.W.nsIn K mainGlobals "abs" = some none) (z_all : PySem.W.nsIn K mainGlobals "all" = some none) (z_ValueError : PySem.W.nsIn K mainGlobals "ValueError" = some none) (z_tuple : PySem.W.nsIn K mainGlobals "tuple" = some none) :
    ∃ fd : FuncData, (∀ (s : Shared) (v : Value), BindsTo s fd ⟨[v], []⟩ [("_law_script", v)]) ∧ ∀ base : Heap, K.In base → base.Ns mainGlobals mg → FnOk l.prog w K mg base CX0 15 fa fd ["_law_script"] (spLaw K) := by
  have e := hfa.symm.trans (mg_of X G aL)
  cases e
  obtain ⟨f0, fd0, T0⟩ := A0
  have D0 : Dn K mg "fraction_of" sFr ["top", "bottom"] f0 fd0 := ⟨T0.fn, mg_of X G T0.ns, T0.fn.binds fun _ _ _ _ _ _ us hl => match us, hl with | [_, _], _ => rfl⟩
  obtain ⟨f1, fd1, T1⟩ := A1
  have D1 : Dn K mg "inner_terms" sInner ["term"] f1 fd1 := ⟨T1.fn, mg_of X G T1.ns, T1.fn.binds fun _ _ _ _ _ _ us hl => match us, hl with | [_], _ => rfl⟩
  obtain ⟨f2, fd2, T2⟩ := A2
  have D2 : Dn K mg "terms_innermost_first" sFirst ["term"] f2 fd2 := ⟨T2.fn, mg_of X G T2.ns, T2.fn.binds fun _ _ _ _ _ _ us hl => match us, hl with | [_], _ => rfl⟩
  obtain ⟨f3, fd3, T3⟩ := A3
  have D3 : Dn K mg "shared_by_all" sAll ["divisor", "tops"] f3 fd3 := ⟨T3.fn, mg_of X G T3.ns, T3.fn.binds fun _ _ _ _ _ _ us hl => match us, hl with | [_, _], _ => rfl⟩
  obtain ⟨f4, fd4, T4⟩ := A4
  have D4 : Dn K mg "lowered" sLowered ["tops", "bottom"] f4 fd4 := ⟨T4.fn, mg_of X G T4.ns, T4.fn.binds fun _ _ _ _ _ _ us hl => match us, hl with | [_, _], _ => rfl⟩
  obtain ⟨f5, fd5, T5⟩ := A5
  have D5 : Dn K mg "one_by_one_product" sBothRow ["value", "other"] f5 fd5 := ⟨T5.fn, mg_of X G T5.ns, T5.fn.binds fun _ _ _ _ _ _ us hl => match us, hl with | [_, _], _ => rfl⟩
  obtain ⟨f6, fd6, T6⟩ := A6
  have D6 : Dn K mg "one_by_one_sum" sPlusRow ["value", "other"] f6 fd6 := ⟨T6.fn, mg_of X G T6.ns, T6.fn.binds fun _ _ _ _ _ _ us hl => match us, hl with | [_, _], _ => rfl⟩
  obtain ⟨f7, fd7, T7⟩ := A7
  have D7 : Dn K mg "many_times" sManyRow ["f", "value"] f7 fd7 := ⟨T7.fn, mg_of X G T7.ns, T7.fn.binds fun _ _ _ _ _ _ us hl => match us, hl with | [_, _], _ => rfl⟩
  obtain ⟨f8, fd8, T8⟩ := A8
  have D8 : Dn K mg "tops_of_leaf" sLeaf ["web", "term"] f8 fd8 := ⟨T8.fn, mg_of X G T8.ns, T8.fn.binds fun _ _ _ _ _ _ us hl => match us, hl with | [_, _], _ => rfl⟩
  obtain ⟨f9, fd9, T9⟩ := A9
  have D9 : Dn K mg "tops_from_one" sFromOne ["web", "kind", "tops"] f9 fd9 := ⟨T9.fn, mg_of X G T9.ns, T9.fn.binds fun _ _ _ _ _ _ us hl => match us, hl with | [_, _, _], _ => rfl⟩
  obtain ⟨f10, fd10, T10⟩ := A10
  have D10 : Dn K mg "value_from_two" sFromTwo ["web", "kind", "value", "other"] f10 fd10 := ⟨T10.fn, mg_of X G T10.ns, T10.fn.binds fun _ _ _ _ _ _ us hl => match us, hl with | [_, _, _, _], _ => rfl⟩
  obtain ⟨f11, fd11, T11⟩ := A11
  have D11 : Dn K mg "value_by_kind" sByKind ["web", "term", "inner_values"] f11 fd11 := ⟨T11.fn, mg_of X G T11.ns, T11.fn.binds fun _ _ _ _ _ _ us hl => match us, hl with | [_, _, _], _ => rfl⟩
  obtain ⟨f12, fd12, T12⟩ := A12
  have D12 : Dn K mg "value_of" sOver ["web", "term"] f12 fd12 := ⟨T12.fn, mg_of X G T12.ns, T12.fn.binds fun _ _ _ _ _ _ us hl => match us, hl with | [_, _], _ => rfl⟩
  obtain ⟨f13, fd13, T13⟩ := A13
  have D13 : Dn K mg "total_of_value" sTov ["value"] f13 fd13 := ⟨T13.fn, mg_of X G T13.ns, T13.fn.binds fun _ _ _ _ _ _ us hl => match us, hl with | [_], _ => rfl⟩
  obtain ⟨f14, fd14, T14⟩ := A14
  have D14 : Dn K mg "total_of_term" sTot ["web", "term"] f14 fd14 := ⟨T14.fn, mg_of X G T14.ns, T14.fn.binds fun _ _ _ _ _ _ us hl => match us, hl with | [_, _], _ => rfl⟩
  obtain ⟨f15, fd15, T15⟩ := A15
  have D15 : Dn K mg "total_of" sTotalOf ["web", "term"] f15 fd15 := ⟨T15.fn, mg_of X G T15.ns, T15.fn.binds fun _ _ _ _ _ _ us hl => match us, hl with | [_, _], _ => rfl⟩
  obtain ⟨f16, fd16, T16⟩ := A16
  have D16 : Dn K mg "greatest_divisor" sGd ["number", "other"] f16 fd16 := ⟨T16.fn, mg_of X G T16.ns, T16.fn.binds fun _ _ _ _ _ _ us hl => match us, hl with | [_, _], _ => rfl⟩
  obtain ⟨f17, fd17, T17⟩ := A17
  have D17 : Dn K mg "common_bottom" sBottom ["fractions"] f17 fd17 := ⟨T17.fn, mg_of X G T17.ns, T17.fn.binds fun _ _ _ _ _ _ us hl => match us, hl with | [_], _ => rfl⟩
  obtain ⟨f18, fd18, T18⟩ := A18
  have D18 : Dn K mg "top_over" sTopOver ["f", "bottom"] f18 fd18 := ⟨T18.fn, mg_of X G T18.ns, T18.fn.binds fun _ _ _ _ _ _ us hl => match us, hl with | [_, _], _ => rfl⟩
  obtain ⟨f19, fd19, T19⟩ := A19
  have D19 : Dn K mg "column_of" sCol ["rows", "place"] f19 fd19 := ⟨T19.fn, mg_of X G T19.ns, T19.fn.binds fun _ _ _ _ _ _ us hl => match us, hl with | [_, _], _ => rfl⟩
  obtain ⟨f20, fd20, T20⟩ := A20
  have D20 : Dn K mg "columns_of" sCols ["rows"] f20 fd20 := ⟨T20.fn, mg_of X G T20.ns, T20.fn.binds fun _ _ _ _ _ _ us hl => match us, hl with | [_], _ => rfl⟩
  obtain ⟨f21, fd21, T21⟩ := A21
  have D21 : Dn K mg "sum_of_products" sDot ["numbers", "others"] f21 fd21 := ⟨T21.fn, mg_of X G T21.ns, T21.fn.binds fun _ _ _ _ _ _ us hl => match us, hl with | [_, _], _ => rfl⟩
  obtain ⟨f22, fd22, T22⟩ := A22
  have D22 : Dn K mg "sums_with_each" sEach ["numbers", "rows"] f22 fd22 := ⟨T22.fn, mg_of X G T22.ns, T22.fn.binds fun _ _ _ _ _ _ us hl => match us, hl with | [_, _], _ => rfl⟩
  obtain ⟨f23, fd23, T23⟩ := A23
  have D23 : Dn K mg "product_of_grids" sProd ["rows", "others"] f23 fd23 := ⟨T23.fn, mg_of X G T23.ns, T23.fn.binds fun _ _ _ _ _ _ us hl => match us, hl with | [_, _], _ => rfl⟩
  obtain ⟨f24, fd24, T24⟩ := A24
  have D24 : Dn K mg "in_one_list" sInOne ["rows"] f24 fd24 := ⟨T24.fn, mg_of X G T24.ns, T24.fn.binds fun _ _ _ _ _ _ us hl => match us, hl with | [_], _ => rfl⟩
  obtain ⟨f25, fd25, T25⟩ := A25
  have D25 : Dn K mg "in_square" sInSq ["things", "size"] f25 fd25 := ⟨T25.fn, mg_of X G T25.ns, T25.fn.binds fun _ _ _ _ _ _ us hl => match us, hl with | [_, _], _ => rfl⟩
  obtain ⟨f26, fd26, T26⟩ := A26
  have D26 : Dn K mg "is_square" sIsSq ["rows", "size"] f26 fd26 := ⟨T26.fn, mg_of X G T26.ns, T26.fn.binds fun _ _ _ _ _ _ us hl => match us, hl with | [_, _], _ => rfl⟩
  obtain ⟨f27, fd27, T27⟩ := A27
  have D27 : Dn K mg "come_to" sCome ["rows", "whole"] f27 fd27 := ⟨T27.fn, mg_of X G T27.ns, T27.fn.binds fun _ _ _ _ _ _ us hl => match us, hl with | [_, _], _ => rfl⟩
  obtain ⟨f28, fd28, T28⟩ := A28
  have D28 : Dn K mg "are_shared_out" sShared ["shares", "whole"] f28 fd28 := ⟨T28.fn, mg_of X G T28.ns, T28.fn.binds fun _ _ _ _ _ _ us hl => match us, hl with | [_, _], _ => rfl⟩
  obtain ⟨f29, fd29, T29⟩ := A29
  have D29 : Dn K mg "keeps_hue" sKeepsHue ["hue", "hues_there", "shares"] f29 fd29 := ⟨T29.fn, mg_of X G T29.ns, T29.fn.binds fun _ _ _ _ _ _ us hl => match us, hl with | [_, _, _], _ => rfl⟩
  obtain ⟨f30, fd30, T30⟩ := A30
  have D30 : Dn K mg "keep_hues" sKeepHues ["hues", "hues_there", "shares"] f30 fd30 := ⟨T30.fn, mg_of X G T30.ns, T30.fn.binds fun _ _ _ _ _ _ us hl => match us, hl with | [_, _, _], _ => rfl⟩
  obtain ⟨f31, fd31, T31⟩ := A31
  have D31 : Dn K mg "goes_through" sGoes ["web", "other", "table"] f31 fd31 := ⟨T31.fn, mg_of X G T31.ns, T31.fn.binds fun _ _ _ _ _ _ us hl => match us, hl with | [_, _, _], _ => rfl⟩
  obtain ⟨f32, fd32, T32⟩ := A32
  have D32 : Dn K mg "_law_cell_at" sCellAt ["_law_script", "_law_k"] f32 fd32 := ⟨T32.fn, mg_of X G T32.ns, T32.fn.binds fun _ _ _ _ _ _ us hl => match us, hl with | [_, _], _ => rfl⟩
  obtain ⟨f33, fd33, T33⟩ := A33
  have D33 : Dn K mg "_law_draws" sDraws ["_law_cell", "_law_many", "_law_base", "_law_free"] f33 fd33 := ⟨T33.fn, mg_of X G T33.ns, T33.fn.binds fun _ _ _ _ _ _ us hl => match us, hl with | [_, _, _, _], _ => rfl⟩
  obtain ⟨f34, fd34, T34⟩ := A34
  have D34 : Dn K mg "_law_square" sSquare ["_law_many", "_law_draws_here", "_law_way"] f34 fd34 := ⟨T34.fn, mg_of X G T34.ns, T34.fn.binds fun _ _ _ _ _ _ us hl => match us, hl with | [_, _, _], _ => rfl⟩
  obtain ⟨f35, fd35, T35⟩ := A35
  have D35 : Dn K mg "_law_web" sWebP ["_law_script", "_law_at", "_law_many", "_law_free"] f35 fd35 := ⟨T35.fn, mg_of X G T35.ns, T35.fn.binds fun _ _ _ _ _ _ us hl => match us, hl with | [_, _, _, _], _ => rfl⟩
  obtain ⟨f36, fd36, T36⟩ := A36
  have D36 : Dn K mg "_law_order" sOrder ["_law_cell", "_law_many", "_law_free"] f36 fd36 := ⟨T36.fn, mg_of X G T36.ns, T36.fn.binds fun _ _ _ _ _ _ us hl => match us, hl with | [_, _, _], _ => rfl⟩
  obtain ⟨f37, fd37, T37⟩ := A37
  have D37 : Dn K mg "_law_lift" sLift ["_law_web_here", "_law_cell", "_law_free"] f37 fd37 := ⟨T37.fn, mg_of X G T37.ns, T37.fn.binds fun _ _ _ _ _ _ us hl => match us, hl with | [_, _, _], _ => rfl⟩
  obtain ⟨f38, fd38, T38⟩ := A38
  have D38 : Dn K mg "_law_renamed" sLRen ["_law_web_here", "_law_order_here"] f38 fd38 := ⟨T38.fn, mg_of X G T38.ns, T38.fn.binds fun _ _ _ _ _ _ us hl => match us, hl with | [_, _], _ => rfl⟩
  obtain ⟨f39, fd39, T39⟩ := A39
  have D39 : Dn K mg "_law_two" sTwo ["_law_script", "_law_most"] f39 fd39 := ⟨T39.fn, mg_of X G T39.ns, T39.fn.binds fun _ _ _ _ _ _ us hl => match us, hl with | [_, _], _ => rfl⟩
  obtain ⟨f40, fd40, T40⟩ := A40
  have D40 : Dn K mg "_law_lowest" sLow ["_law_top", "_law_bottom"] f40 fd40 := ⟨T40.fn, mg_of X G T40.ns, T40.fn.binds fun _ _ _ _ _ _ us hl => match us, hl with | [_, _], _ => rfl⟩
  obtain ⟨f41, fd41, T41⟩ := A41
  have D41 : Dn K mg "_law_mixed" sMixed ["_law_many", "_law_orders", "_law_shares"] f41 fd41 := ⟨T41.fn, mg_of X G T41.ns, T41.fn.binds fun _ _ _ _ _ _ us hl => match us, hl with | [_, _, _], _ => rfl⟩
  obtain ⟨f42, fd42, T42⟩ := A42
  have D42 : Dn K mg "_law_by_hues" sByHues ["_law_web_here", "_law_other"] f42 fd42 := ⟨T42.fn, mg_of X G T42.ns, T42.fn.binds fun _ _ _ _ _ _ us hl => match us, hl with | [_, _], _ => rfl⟩
  obtain ⟨f43, fd43, T43⟩ := A43
  have D43 : Dn K mg "_law_bent" sBent ["_law_table_here", "_law_cell"] f43 fd43 := ⟨T43.fn, mg_of X G T43.ns, T43.fn.binds fun _ _ _ _ _ _ us hl => match us, hl with | [_, _], _ => rfl⟩
  obtain ⟨f44, fd44, T44⟩ := A44
  have D44 : Dn K mg "_law_sum" sLSum ["_law_terms"] f44 fd44 := ⟨T44.fn, mg_of X G T44.ns, T44.fn.binds fun _ _ _ _ _ _ us hl => match us, hl with | [_], _ => rfl⟩
  obtain ⟨f45, fd45, T45⟩ := A45
  have D45 : Dn K mg "_law_goes" sLGoes ["_law_web_here", "_law_other", "_law_table_here"] f45 fd45 := ⟨T45.fn, mg_of X G T45.ns, T45.fn.binds fun _ _ _ _ _ _ us hl => match us, hl with | [_, _, _], _ => rfl⟩
  obtain ⟨f46, fd46, T46⟩ := A46
  have D46 : Dn K mg "_law_table" sTable ["_law_script", "_law_web_here", "_law_other", "_law_cell"] f46 fd46 := ⟨T46.fn, mg_of X G T46.ns, T46.fn.binds fun _ _ _ _ _ _ us hl => match us, hl with | [_, _, _, _], _ => rfl⟩
  obtain ⟨f47, fd47, T47⟩ := A47
  have D47 : Dn K mg "term_of" sTermOf ["tree"] f47 fd47 := ⟨T47.fn, mg_of X G T47.ns, T47.fn.binds fun _ _ _ _ _ _ us hl => match us, hl with | [_], _ => rfl⟩
  obtain ⟨f48, fd48, T48⟩ := A48
  have D48 : Dn K mg "look_trees" sLook ["web", "other", "paper"] f48 fd48 := ⟨T48.fn, mg_of X G T48.ns, T48.fn.binds fun _ _ _ _ _ _ us hl => match us, hl with | [_, _, _], _ => rfl⟩
  obtain ⟨f49, fd49, T49⟩ := A49
  have D49 : Dn K mg "_law_tree" sTree ["_law_cell"] f49 fd49 := ⟨T49.fn, mg_of X G T49.ns, T49.fn.binds fun _ _ _ _ _ _ us hl => match us, hl with | [_], _ => rfl⟩
  obtain ⟨f50, fd50, T50⟩ := A50
  have D50 : Dn K mg "_law_row" sLRow ["_law_web_here", "_law_tree_here"] f50 fd50 := ⟨T50.fn, mg_of X G T50.ns, T50.fn.binds fun _ _ _ _ _ _ us hl => match us, hl with | [_, _], _ => rfl⟩
  obtain ⟨f51, fd51, T51⟩ := A51
  have D51 : Dn K mg "_law_unlike" sUnlike ["_law_web_here", "_law_other", "_law_cell"] f51 fd51 := ⟨T51.fn, mg_of X G T51.ns, T51.fn.binds fun _ _ _ _ _ _ us hl => match us, hl with | [_, _, _], _ => rfl⟩
  have FL := fun_mk (st := sLaw) lL cL kL
  have BL : BltL mg := ⟨mg_none_of X G z_len, mg_none_of X G z_range, mg_none_of X G z_int, mg_none_of X G z_sorted, mg_none_of X G z_enumerate, mg_none_of X G z_sum, mg_none_of X G z_zip, mg_none_of X G z_list, mg_none_of X G z_isinstance, mg_none_of X G z_bool, mg_none_of X G z_max⟩
  have BR : BltR mg := ⟨mg_none_of X G z_abs, mg_none_of X G z_len, mg_none_of X G z_sum, mg_none_of X G z_zip, mg_none_of X G z_range, mg_none_of X G z_enumerate, mg_none_of X G z_isinstance, mg_none_of X G z_ValueError, mg_none_of X G z_int, mg_none_of X G z_bool, mg_none_of X G z_list, mg_none_of X G z_tuple⟩
  have BG : BltG mg := ⟨mg_none_of X G z_len, mg_none_of X G z_sum, mg_none_of X G z_zip, mg_none_of X G z_range, mg_none_of X G z_all⟩
  have gT := mg_of X G aTn
  have TB : TabK K aT inTab := ⟨tbl⟩
  refine ⟨PySem.W.fnOf "law" "law" (defArgs sLaw) (defBody sLaw) (defScope sLaw) .none kV doc pm an cdv ct, fun s v => .of_eq rfl, fun base _ _ => ?_⟩
  have GGd := ok_gd (P := l.prog) (w := w) (base := base) BR D16.fn
  have GBo := ok_bottom D17.fn D16 GGd
  have GTo := ok_topOver (P := l.prog) (w := w) (base := base) (mg := mg) D18.fn
  have GCl := ok_col (P := l.prog) (w := w) (base := base) (mg := mg) D19.fn
  have GCs := ok_cols BR D20.fn D19 GCl
  have GDo := ok_dot (P := l.prog) (w := w) (base := base) BR D21.fn
  have GEa := ok_eachG D22.fn D21 GDo
  have GPg := ok_prod D23.fn D20 GCs D22 GEa
  have GIo := ok_inOne (P := l.prog) (w := w) (base := base) (mg := mg) D24.fn
  have GSq := ok_inSq (P := l.prog) (w := w) (base := base) BR D25.fn
  have GIs := ok_isSq (P := l.prog) (w := w) (base := base) BG D26.fn
  have GCm := ok_come (P := l.prog) (w := w) (base := base) BG D27.fn
  have GSh := ok_shared D28.fn D24 GIo D27 GCm D20 GCs
  have GKh := ok_keepsHue (P := l.prog) (w := w) (base := base) BG D29.fn
  have GKe := ok_keepHues BG D30.fn D29 GKh
  have GGo := ok_goes BG D31.fn D26 GIs D24 GIo D17 GBo D18 GTo D25 GSq D28 GSh D30 GKe D23 GPg
  have GC := ok_cell (P := l.prog) (w := w) (base := base) BL D32.fn
  have GD := ok_draws (P := l.prog) (w := w) (base := base) BL D33.fn
  have GQ := ok_square (P := l.prog) (w := w) (base := base) BL D34.fn
  have GW := ok_webP BL D35.fn D32 GC D33 GD D34 GQ
  have GO := ok_order BL D36.fn D33 GD
  have GL := ok_lift BL D37.fn D33 GD
  have GR := ok_lren (P := l.prog) (w := w) (base := base) (mg := mg) D38.fn
  have GT := ok_two BL D39.fn D32 GC D35 GW D36 GO D37 GL D38 GR
  have GLo := ok_low (P := l.prog) (w := w) (base := base) BR D40.fn
  have GMi := ok_mixed BL D41.fn D40 GLo
  have GBh := ok_byHues BL D42.fn D40 GLo
  have GBe := ok_bent BL D43.fn D40 GLo
  have GLs := ok_lsum D44.fn D40 GLo
  have GLg := ok_lgoes BL D45.fn D44 GLs
  have GTb := ok_table BL D46.fn D32 GC D36 GO D42 GBh D41 GMi
  have GF := ok_fr BR D0.fn D16 GGd
  have GIn := ok_inner (P := l.prog) (w := w) (base := base) BR gT TB D1.fn
  have GFi := ok_first D2.fn D1 GIn
  have GAl := ok_all D3.fn D16 GGd
  have GLw := ok_lowered D4.fn D3 GAl
  have GSu := ok_sumsEach D22.fn D21 GDo
  have GB2 := ok_both BR D5.fn D4 GLw
  have GPr := ok_plusR BR D6.fn D4 GLw
  have GMa := ok_many D7.fn D16 GGd D3 GAl
  have GLe := ok_leaf (P := l.prog) (w := w) (base := base) BR D8.fn
  have GFo := ok_fromOne D9.fn D22 GSu
  have GT2 := ok_fromTwo D10.fn D5 GB2 D6 GPr
  have GK := ok_byKind BR D11.fn D8 GLe D9 GFo D10 GT2 D7 GMa
  have GOv := ok_over BR D12.fn D2 GFi D1 GIn D11 GK
  have GTv := ok_tov BR D13.fn D0 GF
  have GTt := ok_tot D14.fn D12 GOv D13 GTv
  have GTl := ok_totalOf D15.fn D14 GTt
  have GTm := ok_termOf (P := l.prog) (w := w) (base := base) D47 12
  have GLk := ok_look D48.fn D31 GGo D47 GTm D15 GTl
  have GTr := ok_tree BL D49.fn D33 GD
  have GRw := ok_lrow (P := l.prog) (w := w) (base := base) BL D50 12
  have GUn := ok_unlike BL D51.fn D49 GTr D50 GRw D40 GLo
  exact ok_law BL (mg_none_of X G z_str) FL D32 GC D39 GT D46 GTb D43 GBe D45 GLg D51 GUn D48 GLk
theorem walk {l : PySem.W.OpenLaw} {q : Program} {loose : List Str} {XP : (Str → Option Value) → Heap → Prop} {YP : World → Heap → Prop} {d : DefRec} {K : Params → Frag} (hn : l.most = some 63) (hdf : d.params.defaults = [])
    (hY : ∀ (w : World) (h : Heap), YP w h → (K w.params).In h)
    (F : ∀ (w : World) (mg : Str → Option Value) (fa : Addr) (h : Heap), (K w.params).In h → h.Ns mainGlobals mg → mg d.name = some (.ref fa) →
      ∃ fd : FuncData, (∀ (s : Shared) (u : Value), BindsTo s fd ⟨[u], []⟩ [("_law_script", u)]) ∧ ∀ base : Heap, (K w.params).In base → base.Ns mainGlobals mg → FnOk l.prog w (K w.params) mg base CX0 15 fa fd ["_law_script"] (spLaw (K w.params))) :
    PySem.W.WalkO q loose XP YP l.row.toRowW d [] (fun f vs => PySem.call f vs) :=
  L2.walk_of (n := 63) (k := 15) (x := "_law_script") (CX := fun _ => CX0) (sp := fun w => spLaw (K w.params)) hn (by decide) hdf ⟨rfl, by decide, by decide, rfl⟩ hY F (fun _ _ a ns hl _ hS => ⟨a, ns, rfl, hS, hl, fun _ => rfl⟩) fun _ _ _ _ _ z => z
end My
open PySem PySem.W PyProof.Rows
namespace PySem.W.Fast
def tw11548630731136678106 := ()
def tw7353938717702829791 := ()
def tw15338096223577062015 := ()
def tw11196177777782534560 := ()
def tw11899204608789069488 := ()
def tw5467351453950613221 := ()
def tw8480727386420610365 := ()
def tw5772578417049053648 := ()
def tw12364018585252646173 := ()
def tw3464876333373450629 := ()
def tw2076174881874583159 := ()
def tw6140216850818398019 := ()
def tw11825556914733456953 := ()
def tw5165465493076683973 := ()
def tw16944809996591336568 := ()
def tw5025373229741599305 := ()
def tw721990614399196445 := ()
def tw17322275125963344376 := ()
def tw11855522701141016768 := ()
def tw3087519451447552260 := ()
def tw16264619446216606471 := ()
def tw5392665898233354984 := ()
def tw14426164748129294992 := ()
def tw1378576760073062231 := ()
def tw10620797787853994276 := ()
def tw10738123808320533754 := ()
def tw16424974096732880946 := ()
def tw8658724885349548071 := ()
def tw4111430223034890728 := ()
def tw244218946006721733 := ()
def tw6842628454020013863 := ()
def tw227607466564891133 := ()
def tw17448372888343786143 := ()
def tw15829756576398828051 := ()
def tw14377781482775739501 := ()
def tw10198950400305187830 := ()
def tw9338938501198113789 := ()
def tw16146261091943464297 := ()
def tw5104427707516355400 := ()
def tw14567166202749125611 := ()
def tw16906832726530646048 := ()
def tw12004229118397619497 := ()
def tw2608894182048484396 := ()
def tw16598890823586327545 := ()
def tw15833200856744591225 := ()
def tw3532895965627821722 := ()
def tw3626529120052861775 := ()
def tw5707859916660635060 := ()
def tw8372657105175215824 := ()
def tw14398117032331110459 := ()
def tw7190087293075100871 := ()
def tw14907478592860396277 := ()
def tw4715017368393376864 := ()
def tw11560419785705446978 := ()
def tw16333214076532830054 := ()
def tw5654517320594076292 := ()
end PySem.W.Fast
set_option maxRecDepth 100000 in
set_option maxHeartbeats 0 in
theorem PySem.Challenge.cw_evenkin_k52_papers_of_trees_looked_at_holds : PySem.Challenge.rw_evenkin_k52_papers_of_trees_looked_at.Holds := by
  w_on; o_law; k_head; (case hw => w_witness2)
  k_fill
  refine My.walk (l := PySem.Challenge.rw_evenkin_k52_papers_of_trees_looked_at) rfl rfl (fun w h Y => PySem.W.kIn_of Y) ?F
  case F =>
    intro w mg fa h KX G hmg
    refine' My.all_mk KX G hmg (My.at_mk ?a0 ?l0 ?c0 ?k0) (My.at_mk ?a1 ?l1 ?c1 ?k1) (My.at_mk ?a2 ?l2 ?c2 ?k2) (My.at_mk ?a3 ?l3 ?c3 ?k3) (My.at_mk ?a4 ?l4 ?c4 ?k4) (My.at_mk ?a5 ?l5 ?c5 ?k5) (My.at_mk ?a6 ?l6 ?c6 ?k6) (My.at_mk ?a7 ?l7 ?c7 ?k7) (My.at_mk ?a8 ?l8 ?c8 ?k8) (My.at_mk ?a9 ?l9 ?c9 ?k9) (My.at_mk ?a10 ?l10 ?c10 ?k10) (My.at_mk ?a11 ?l11 ?c11 ?k11) (My.at_mk ?a12 ?l12 ?c12 ?k12) (My.at_mk ?a13 ?l13 ?c13 ?k13) (My.at_mk ?a14 ?l14 ?c14 ?k14) (My.at_mk ?a15 ?l15 ?c15 ?k15) (My.at_mk ?a16 ?l16 ?c16 ?k16) (My.at_mk ?a17 ?l17 ?c17 ?k17) (My.at_mk ?a18 ?l18 ?c18 ?k18) (My.at_mk ?a19 ?l19 ?c19 ?k19) (My.at_mk ?a20 ?l20 ?c20 ?k20) (My.at_mk ?a21 ?l21 ?c21 ?k21) (My.at_mk ?a22 ?l22 ?c22 ?k22) (My.at_mk ?a23 ?l23 ?c23 ?k23) (My.at_mk ?a24 ?l24 ?c24 ?k24) (My.at_mk ?a25 ?l25 ?c25 ?k25) (My.at_mk ?a26 ?l26 ?c26 ?k26) (My.at_mk ?a27 ?l27 ?c27 ?k27) (My.at_mk ?a28 ?l28 ?c28 ?k28) (My.at_mk ?a29 ?l29 ?c29 ?k29) (My.at_mk ?a30 ?l30 ?c30 ?k30) (My.at_mk ?a31 ?l31 ?c31 ?k31) (My.at_mk ?a32 ?l32 ?c32 ?k32) (My.at_mk ?a33 ?l33 ?c33 ?k33) (My.at_mk ?a34 ?l34 ?c34 ?k34) (My.at_mk ?a35 ?l35 ?c35 ?k35) (My.at_mk ?a36 ?l36 ?c36 ?k36) (My.at_mk ?a37 ?l37 ?c37 ?k37) (My.at_mk ?a38 ?l38 ?c38 ?k38) (My.at_mk ?a39 ?l39 ?c39 ?k39) (My.at_mk ?a40 ?l40 ?c40 ?k40) (My.at_mk ?a41 ?l41 ?c41 ?k41) (My.at_mk ?a42 ?l42 ?c42 ?k42) (My.at_mk ?a43 ?l43 ?c43 ?k43) (My.at_mk ?a44 ?l44 ?c44 ?k44) (My.at_mk ?a45 ?l45 ?c45 ?k45) (My.at_mk ?a46 ?l46 ?c46 ?k46) (My.at_mk ?a47 ?l47 ?c47 ?k47) (My.at_mk ?a48 ?l48 ?c48 ?k48) (My.at_mk ?a49 ?l49 ?c49 ?k49) (My.at_mk ?a50 ?l50 ?c50 ?k50) (My.at_mk ?a51 ?l51 ?c51 ?k51) ?aTn ?tbl ?aL ?lL ?cL ?kL ?z_len ?z_range ?z_int ?z_sorted ?z_enumerate ?z_sum ?z_zip ?z_list ?z_isinstance ?z_bool ?z_max ?z_str ?z_abs ?z_all ?z_ValueError ?z_tuple
    (case a0 => k_is); (case l0 => k_is); (case c0 => k_is); (case k0 => k_is)
    (case a1 => k_is); (case l1 => k_is); (case c1 => k_is); (case k1 => k_is)
    (case a2 => k_is); (case l2 => k_is); (case c2 => k_is); (case k2 => k_is)
    (case a3 => k_is); (case l3 => k_is); (case c3 => k_is); (case k3 => k_is)
    (case a4 => k_is); (case l4 => k_is); (case c4 => k_is); (case k4 => k_is)
    (case a5 => k_is); (case l5 => k_is); (case c5 => k_is); (case k5 => k_is)
    (case a6 => k_is); (case l6 => k_is); (case c6 => k_is); (case k6 => k_is)
    (case a7 => k_is); (case l7 => k_is); (case c7 => k_is); (case k7 => k_is)
    (case a8 => k_is); (case l8 => k_is); (case c8 => k_is); (case k8 => k_is)
    (case a9 => k_is); (case l9 => k_is); (case c9 => k_is); (case k9 => k_is)
    (case a10 => k_is); (case l10 => k_is); (case c10 => k_is); (case k10 => k_is)
    (case a11 => k_is); (case l11 => k_is); (case c11 => k_is); (case k11 => k_is)
    (case a12 => k_is); (case l12 => k_is); (case c12 => k_is); (case k12 => k_is)
    (case a13 => k_is); (case l13 => k_is); (case c13 => k_is); (case k13 => k_is)
    (case a14 => k_is); (case l14 => k_is); (case c14 => k_is); (case k14 => k_is)
    (case a15 => k_is); (case l15 => k_is); (case c15 => k_is); (case k15 => k_is)
    (case a16 => k_is); (case l16 => k_is); (case c16 => k_is); (case k16 => k_is)
    (case a17 => k_is); (case l17 => k_is); (case c17 => k_is); (case k17 => k_is)
    (case a18 => k_is); (case l18 => k_is); (case c18 => k_is); (case k18 => k_is)
    (case a19 => k_is); (case l19 => k_is); (case c19 => k_is); (case k19 => k_is)
    (case a20 => k_is); (case l20 => k_is); (case c20 => k_is); (case k20 => k_is)
    (case a21 => k_is); (case l21 => k_is); (case c21 => k_is); (case k21 => k_is)
    (case a22 => k_is); (case l22 => k_is); (case c22 => k_is); (case k22 => k_is)
    (case a23 => k_is); (case l23 => k_is); (case c23 => k_is); (case k23 => k_is)
    (case a24 => k_is); (case l24 => k_is); (case c24 => k_is); (case k24 => k_is)
    (case a25 => k_is); (case l25 => k_is); (case c25 => k_is); (case k25 => k_is)
    (case a26 => k_is); (case l26 => k_is); (case c26 => k_is); (case k26 => k_is)
    (case a27 => k_is); (case l27 => k_is); (case c27 => k_is); (case k27 => k_is)
    (case a28 => k_is); (case l28 => k_is); (case c28 => k_is); (case k28 => k_is)
    (case a29 => k_is); (case l29 => k_is); (case c29 => k_is); (case k29 => k_is)
    (case a30 => k_is); (case l30 => k_is); (case c30 => k_is); (case k30 => k_is)
    (case a31 => k_is); (case l31 => k_is); (case c31 => k_is); (case k31 => k_is)
    (case a32 => k_is); (case l32 => k_is); (case c32 => k_is); (case k32 => k_is)
    (case a33 => k_is); (case l33 => k_is); (case c33 => k_is); (case k33 => k_is)
    (case a34 => k_is); (case l34 => k_is); (case c34 => k_is); (case k34 => k_is)
    (case a35 => k_is); (case l35 => k_is); (case c35 => k_is); (case k35 => k_is)
    (case a36 => k_is); (case l36 => k_is); (case c36 => k_is); (case k36 => k_is)
    (case a37 => k_is); (case l37 => k_is); (case c37 => k_is); (case k37 => k_is)
    (case a38 => k_is); (case l38 => k_is); (case c38 => k_is); (case k38 => k_is)
    (case a39 => k_is); (case l39 => k_is); (case c39 => k_is); (case k39 => k_is)
    (case a40 => k_is); (case l40 => k_is); (case c40 => k_is); (case k40 => k_is)
    (case a41 => k_is); (case l41 => k_is); (case c41 => k_is); (case k41 => k_is)
    (case a42 => k_is); (case l42 => k_is); (case c42 => k_is); (case k42 => k_is)
    (case a43 => k_is); (case l43 => k_is); (case c43 => k_is); (case k43 => k_is)
    (case a44 => k_is); (case l44 => k_is); (case c44 => k_is); (case k44 => k_is)
    (case a45 => k_is); (case l45 => k_is); (case c45 => k_is); (case k45 => k_is)
    (case a46 => k_is); (case l46 => k_is); (case c46 => k_is); (case k46 => k_is)
    (case a47 => k_is); (case l47 => k_is); (case c47 => k_is); (case k47 => k_is)
    (case a48 => k_is); (case l48 => k_is); (case c48 => k_is); (case k48 => k_is)
    (case a49 => k_is); (case l49 => k_is); (case c49 => k_is); (case k49 => k_is)
    (case a50 => k_is); (case l50 => k_is); (case c50 => k_is); (case k50 => k_is)
    (case a51 => k_is); (case l51 => k_is); (case c51 => k_is); (case k51 => k_is)
    (case aTn => k_is)
    (case tbl => first | rfl | with_unfolding_all rfl | decide +kernel)
    (case aL => k_is); (case lL => k_is); (case cL => k_is); (case kL => k_is)
    (case z_len => k_is); (case z_range => k_is); (case z_int => k_is); (case z_sorted => k_is); (case z_enumerate => k_is); (case z_sum => k_is); (case z_zip => k_is); (case z_list => k_is); (case z_isinstance => k_is); (case z_bool => k_is); (case z_max => k_is); (case z_str => k_is); (case z_abs => k_is); (case z_all => k_is); (case z_ValueError => k_is); (case z_tuple => k_is)
