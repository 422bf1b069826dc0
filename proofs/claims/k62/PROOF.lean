import PyProof.Rows.All
import Wide.All
import OpenK.AllK
import Wide.FinOn
import Lean
import PyProof.EqAt
import PyProof.EqKinds
import PyProof.TupleCall
import PySem.Challenge.RW_evenkin_k62_steps_reckoned
set_option Elab.async false
set_option linter.all false
set_option maxRecDepth 100000
namespace L2
open PySem PySem.Spec PyProof.Rows
abbrev Key := Sum Int Str
def keyIs : Key → Value → Bool
  | .inl k, v => Value.isInt k v
  | .inr x, v => Value.isStrOf x v
def keyH (w : World) : Key → Int
  | .inl k => hashInt k
  | .inr x => hashStr w x
theorem keyIs_shape : ∀ {k : Key} {v : Value}, keyIs k v = true → (∃ i t, k = Sum.inl i ∧ v = Value.int i t) ∨ (∃ x t, k = Sum.inr x ∧ v = Value.str x t)
  | .inl i, v, h => by
    obtain ⟨t, e⟩ := Value.isInt_shape (k := i) (v := v) h
    exact .inl ⟨i, t, rfl, e⟩
  | .inr x, v, h => by
    obtain ⟨t, e⟩ := Value.isStrOf_shape (x := x) (v := v) h
    exact .inr ⟨x, t, rfl, e⟩
theorem key_ll (a b : Int) : decide ((Sum.inl a : Key) = Sum.inl b) = (a == b) := by
  by_cases e : a = b
  · subst e; simp
  · have h : ¬ (Sum.inl a : Key) = Sum.inl b := fun q => e (Sum.inl.inj q)
    rw [decide_eq_false h]
    exact (beq_eq_false_iff_ne.mpr e).symm
theorem key_rr (a b : Str) : decide ((Sum.inr a : Key) = Sum.inr b) = decide (a = b) := by
  by_cases e : a = b
  · subst e; simp
  · have h : ¬ (Sum.inr a : Key) = Sum.inr b := fun q => e (Sum.inr.inj q)
    rw [decide_eq_false h, decide_eq_false e]
theorem key_lr (a : Int) (b : Str) : decide ((Sum.inl a : Key) = Sum.inr b) = false := decide_eq_false (fun q => nomatch q)
theorem key_rl (a : Str) (b : Int) : decide ((Sum.inr a : Key) = Sum.inl b) = false := decide_eq_false (fun q => nomatch q)
def mixKind (prog : Program) (w : World) : PySem.KeyKind prog w Key where
  is := keyIs
  hash := keyH w
  inj := fun v a b ha hb => by
    rcases keyIs_shape ha with ⟨i, t, rfl, rfl⟩ | ⟨x, t, rfl, rfl⟩
    · rcases keyIs_shape hb with ⟨j, u, rfl, e⟩ | ⟨y, u, rfl, e⟩
      · injection e with e1 _; rw [e1]
      · exact nomatch e
    · rcases keyIs_shape hb with ⟨j, u, rfl, e⟩ | ⟨y, u, rfl, e⟩
      · exact nomatch e
      · injection e with e1 _; rw [e1]
  byValue := fun k v h => by
    rcases keyIs_shape h with ⟨i, t, rfl, rfl⟩ | ⟨x, t, rfl, rfl⟩ <;> rfl
  pyHash := fun hv h => by
    rcases keyIs_shape hv with ⟨i, t, rfl, rfl⟩ | ⟨x, t, rfl, rfl⟩
    · exact wpAny_pyHash_int h
    · exact wpAny_pyHash_str h
  eqBool := fun hu hv h => by
    rcases keyIs_shape hu with ⟨i, t, rfl, rfl⟩ | ⟨x, t, rfl, rfl⟩
    · rcases keyIs_shape hv with ⟨j, u, rfl, rfl⟩ | ⟨y, u, rfl, rfl⟩
      · rw [key_ll] at h; exact wpAny_eqBool_int h
      · rw [key_lr] at h; exact SeqAt.EqAt.int_str i t y u _ _ _ _ h
    · rcases keyIs_shape hv with ⟨j, u, rfl, rfl⟩ | ⟨y, u, rfl, rfl⟩
      · rw [key_rl] at h; exact SeqAt.EqAt.str_int x t j u _ _ _ _ h
      · rw [key_rr] at h; exact wpAny_eqBool_str h
  «strs» := fun k x t v h => by
    rcases keyIs_shape h with ⟨i, u, rfl, e⟩ | ⟨y, u, rfl, e⟩
    · exact nomatch e
    · injection e with e1 _
      subst e1
      cases v <;> rfl
end L2
namespace L2
open PySem PySem.Spec PyProof.Rows
inductive V where
  | non | bl (b : Bool) | int (i : Int) | str (x : Str) | byt (b : Array UInt8) | flt (b : UInt64) | ref (a : Addr) | ty (n : String)
  deriving DecidableEq
def RelV : V → Value → Prop
  | .non, u => u = Value.none
  | .bl b, u => u = Value.bool b
  | .int i, u => ∃ t, u = Value.int i t
  | .str x, u => ∃ t, u = Value.str x t
  | .byt b, u => ∃ t, u = Value.bytes b t
  | .flt b, u => ∃ t, u = Value.float b t
  | .ref a, u => u = Value.ref a
  | .ty n, u => u = Value.type n
abbrev Vals : List V → List Value → Prop := Paired RelV
theorem Vals.length {xs : List V} {us : List Value} (r : Vals xs us) : xs.length = us.length := Paired.length r
theorem Vals.get : ∀ {xs : List V} {us : List Value} {i : Nat} {x : V}, Vals xs us → xs[i]? = some x → ∃ u, us[i]? = some u ∧ RelV x u
  | _, _, _, _, .nil, e => by simp at e
  | _, _, 0, _, .cons r _, e => by simp at e; subst e; exact ⟨_, rfl, r⟩
  | _, _, i + 1, x, .cons _ t, e => by
    obtain ⟨u, h1, h2⟩ := Vals.get (i := i) (x := x) t (by simpa using e)
    exact ⟨u, by simpa using h1, h2⟩
theorem Vals.set {x : V} {u : Value} (r : RelV x u) : ∀ {xs : List V} {us : List Value} (i : Nat), Vals xs us → Vals (xs.set i x) (us.set i u)
  | _, _, _, .nil => .nil
  | _, _, 0, .cons _ t => .cons r t
  | _, _, i + 1, .cons q t => .cons q (Vals.set r i t)
theorem Vals.append : ∀ {xs ys : List V} {us ws : List Value}, Vals xs us → Vals ys ws → Vals (xs ++ ys) (us ++ ws)
  | _, _, _, _, .nil, s => s
  | _, _, _, _, .cons r t, s => .cons r (Vals.append t s)
theorem Vals.take : ∀ {xs : List V} {us : List Value} (n : Nat), Vals xs us → Vals (xs.take n) (us.take n)
  | _, _, 0, _ => .nil
  | _, _, _ + 1, .nil => .nil
  | _, _, n + 1, .cons r t => .cons r (Vals.take n t)
theorem Vals.drop : ∀ {xs : List V} {us : List Value} (n : Nat), Vals xs us → Vals (xs.drop n) (us.drop n)
  | _, _, 0, r => r
  | _, _, _ + 1, .nil => .nil
  | _, _, n + 1, .cons _ t => Vals.drop n t
def RelO : Option V → Option Value → Prop
  | some v, some u => RelV v u
  | none, none => True
  | _, _ => False
def KV {κ : Type} : List (κ × V) → List (κ × Value) → Prop := Paired fun (p : κ × V) (q : κ × Value) => p.1 = q.1 ∧ RelV p.2 q.2
def kV : Key → V
  | .inl i => .int i
  | .inr x => .str x
inductive HO where
  | lst (xs : List V)
  | tup (xs : List V)
  | dK (kvs : List (Key × V)) | dT (kvs : List (List Key × V))
  | set (S : Int → Bool) (n : Nat)
  | ins (C dx : Addr) (fs : List (Str × V))
  | own (x : Addr)
  | xd (fs : List (Str × V))
  | met (f x : Addr)
  | rng (lo hi : Int)
  | frz (o : Obj) (u : HO)
  | tbl (ps : Array Value)
  | ext (φ : Heap → Prop)
abbrev Hp := Addr → Option HO
def upd (H : Hp) (a : Addr) (o : HO) : Hp := fun b => if b = a then some o else H b
theorem upd_same {H : Hp} {a : Addr} {o : HO} : upd H a o a = some o := by unfold upd; rw [if_pos rfl]
theorem upd_ne {H : Hp} {a b : Addr} {o : HO} (h : b ≠ a) : upd H a o b = H b := by unfold upd; rw [if_neg h]
theorem upd_upd {H : Hp} {a : Addr} {o u : HO} : upd (upd H a o) a u = upd H a u := by
  funext b; unfold upd; split <;> rfl
theorem ne_of_none {H : Hp} {a b : Addr} {o : HO} (h : H a = some o) (h' : H b = none) : a ≠ b := by
  intro e; subst e; rw [h] at h'; cases h'
section
variable (P : Program) (w : World)
def ObjOk (H : Hp) (h : Heap) (a : Addr) : HO → Prop
  | .lst xs => xs.length ≤ sizeLine ∧ ∃ (its : List Value) (n : Nat), Vals xs its ∧ h.get? a = some { cls := .type "list", data := .seq its.toArray n }
  | .tup xs => xs.length ≤ sizeLine ∧ ∃ its : List Value, Vals xs its ∧ IsTup h a its.toArray
  | .dK kvs => kvs.length ≤ sizeLine ∧ (a == sysModules) = false ∧ ∃ vs, KV kvs vs ∧ h.DictOf (mixKind P w) a vs
  | .dT kvs => kvs.length ≤ sizeLine ∧ (a == sysModules) = false ∧ ∃ xs : List (List Key × Addr × Value),
      Paired (fun (p : List Key × V) (q : List Key × Addr × Value) => p.1 = q.1 ∧ H q.2.1 = some (.tup (p.1.map kV)) ∧ RelV p.2 q.2.2) kvs xs ∧
      ∃ o es ep, h.get? a = some o ∧ o.ExactDict ∧ o.data = .dict es ep ∧ es.toList = xs.map (entryOfKey (tupleKind (mixKind P w))) ∧ (xs.map (·.1)).Nodup
  | .set S n => h.SetOf (intKind P w) a S n
  | .ins C dx fs => H dx = some (.own a) ∧ fs.length ≤ 1000 ∧ dx ≠ a ∧ h.get? a = some (PySem.W.instObj C dx) ∧
      ∃ mA, h.Ns1 dx mA ∧ (∀ f, RelO (fs.lookup f) (mA f)) ∧ PySem.Within mA (fs.map (·.1))
  | .own _ => ∃ o, h.get? a = some o
  | .xd fs => ∃ mA, h.Ns1 a mA ∧ ∀ f, RelO (fs.lookup f) (mA f)
  | .rng lo hi => ∃ t u v, h.get? a = some { cls := .type "range", data := .fields #[.int lo t, .int hi u, .int 1 v] }
  | .frz o u => h.get? a = some o ∧ ObjOk H h a u
  | .tbl ps => h.get? a = some { cls := .none, data := .fields ps }
  | .met f x => h.get? a = some (PySem.W.methodObj (.ref f) (.ref x))
  | .ext φ => φ h ∧ (∃ o, h.get? a = some o) ∧ ∀ h1 h2 : Heap, φ h1 → (∀ o, h1.get? a = some o → h2.get? a = some o) → φ h2
def HOk (H : Hp) (h : Heap) : Prop := ∀ a o, H a = some o → ObjOk P w H h a o
end
section
variable {P : Program} {w : World} {H H' : Hp} {h h' : Heap} {a : Addr} {o : HO}
theorem ObjOk.lt (x : ObjOk P w H h a o) : a < h.objs.size := by
  cases o with
  | lst xs => obtain ⟨_, _, _, _, e⟩ := x; exact Heap.lt_size e
  | tup xs => obtain ⟨_, _, _, p⟩ := x; exact p.lt
  | dK kvs => obtain ⟨_, _, _, _, o, _, _, e, _⟩ := x; exact Heap.lt_size e
  | dT kvs => obtain ⟨_, _, _, _, o, _, _, e, _⟩ := x; exact Heap.lt_size e
  | set S n => obtain ⟨o, _, _, _, e, _⟩ := x; exact Heap.lt_size e
  | ins C dx fs => obtain ⟨_, _, _, e, _⟩ := x; exact Heap.lt_size e
  | own y => obtain ⟨_, e⟩ := x; exact Heap.lt_size e
  | xd fs => obtain ⟨_, ⟨_, _, _, e, _⟩, _⟩ := x; exact Heap.lt_size e
  | rng lo hi => obtain ⟨_, _, _, e⟩ := x; exact Heap.lt_size e
  | frz ob u => obtain ⟨e, _⟩ := x; exact Heap.lt_size e
  | tbl ps => exact Heap.lt_size (show h.get? a = some _ from x)
  | met f y => exact Heap.lt_size (show h.get? a = some _ from x)
  | ext φ => obtain ⟨_, ⟨_, e⟩, _⟩ := x; exact Heap.lt_size e
theorem Paired.mapP {α β : Type} {F G : α → β → Prop} : ∀ {l₁ : List α} {l₂ : List β}, Paired F l₁ l₂ → (∀ a b, F a b → G a b) → Paired G l₁ l₂
  | _, _, .nil, _ => .nil
  | _, _, .cons r t, f => .cons (f _ _ r) (Paired.mapP t f)
theorem ObjOk.stay (x : ObjOk P w H h a o) (k : ∀ b u, (b = a ∨ H b = some (.own a)) → h.get? b = some u → h'.get? b = some u)
    (ho : ∀ b, H b = some (.own a) → H' b = some (.own a)) (ht : ∀ b xs, H b = some (.tup xs) → H' b = some (.tup xs)) : ObjOk P w H' h' a o := by
  induction o with
  | lst xs => obtain ⟨z, its, n, r, e⟩ := x; exact ⟨z, its, n, r, k _ _ (.inl rfl) e⟩
  | tup xs => obtain ⟨z, its, r, ob, e, c⟩ := x; exact ⟨z, its, r, ob, k _ _ (.inl rfl) e, c⟩
  | dK kvs => obtain ⟨z, y, vs, r, ob, es, ep, e, c⟩ := x; exact ⟨z, y, vs, r, ob, es, ep, k _ _ (.inl rfl) e, c⟩
  | dT kvs =>
    obtain ⟨z, y, xs, r, ob, es, ep, e, c⟩ := x
    exact ⟨z, y, xs, Paired.mapP r fun p q z => ⟨z.1, ht _ _ z.2.1, z.2.2⟩, ob, es, ep, k _ _ (.inl rfl) e, c⟩
  | set S n => obtain ⟨ob, es, ep, t, e, c⟩ := x; exact ⟨ob, es, ep, t, k _ _ (.inl rfl) e, c⟩
  | ins C dx fs =>
    obtain ⟨d, z, ne, e, mA, ⟨od, es, ep, e2, c⟩, r⟩ := x
    exact ⟨ho _ d, z, ne, k _ _ (.inl rfl) e, mA, ⟨od, es, ep, k _ _ (.inr d) e2, c⟩, r⟩
  | own y => obtain ⟨ob, e⟩ := x; exact ⟨ob, k _ _ (.inl rfl) e⟩
  | xd fs => obtain ⟨mA, ⟨od, es, ep, e, c⟩, r⟩ := x; exact ⟨mA, ⟨od, es, ep, k _ _ (.inl rfl) e, c⟩, r⟩
  | rng lo hi => obtain ⟨t, u, v, e⟩ := x; exact ⟨t, u, v, k _ _ (.inl rfl) e⟩
  | frz ob u ih => obtain ⟨e, q⟩ := x; exact ⟨k _ _ (.inl rfl) e, ih q⟩
  | tbl ps =>
    have e : h.get? a = some { cls := .none, data := .fields ps } := x
    show h'.get? a = some { cls := .none, data := .fields ps }
    exact k a _ (.inl rfl) e
  | met f y =>
    have e : h.get? a = some (PySem.W.methodObj (.ref f) (.ref y)) := x
    show h'.get? a = some (PySem.W.methodObj (.ref f) (.ref y))
    exact k a _ (.inl rfl) e
  | ext φ => obtain ⟨p, ⟨o, e⟩, st⟩ := x; exact ⟨st _ _ p fun o q => k _ _ (.inl rfl) q, ⟨o, k _ _ (.inl rfl) e⟩, st⟩
theorem HOk.lt (x : HOk P w H h) (e : H a = some o) : a < h.objs.size := (x a o e).lt
theorem HOk.fresh (x : HOk P w H h) (e : h.objs.size ≤ a) : H a = none := by
  cases q : H a with
  | none => rfl
  | some u => exact absurd (Nat.lt_of_lt_of_le (x.lt q) e) (Nat.lt_irrefl _)
theorem HOk.kept (x : HOk P w H h) (k : ∀ b u, h.get? b = some u → h'.get? b = some u) : HOk P w H h' := fun a o e =>
  (x a o e).stay (fun b u _ q => k b u q) (fun _ q => q) fun _ _ q => q
theorem HOk.laid (x : HOk P w H h) (k : ∀ b u, h.get? b = some u → h'.get? b = some u) (hp : h.objs.size ≤ a) (new : ObjOk P w (upd H a o) h' a o) : HOk P w (upd H a o) h' := fun b u e => by
  have hn := x.fresh hp
  by_cases hb : b = a
  · subst hb; rw [upd_same] at e; cases e; exact new
  · rw [upd_ne hb] at e
    exact (x b u e).stay (fun c v _ q => k c v q) (fun c q => by rw [upd_ne (ne_of_none q hn)]; exact q) fun c xs q => by rw [upd_ne (ne_of_none q hn)]; exact q
end
def Rd (H : Hp) (a : Addr) (u : HO) : Prop := H a = some u ∨ ∃ o, H a = some (.frz o u)
theorem Rd.ok {P : Program} {w : World} {H : Hp} {h : Heap} {a : Addr} {u : HO} (r : Rd H a u) (x : HOk P w H h) : ObjOk P w H h a u := by
  rcases r with r | ⟨o, r⟩
  · exact x a u r
  · obtain ⟨_, q⟩ := x a _ r
    exact q
def Mut : Option HO → Prop
  | some (.lst _) => True
  | some (.dK _) => True
  | some (.dT _) => True
  | some (.set _ _) => True
  | some (.ins _ _ _) => True
  | some (.ext _) => True
  | _ => False
section
variable {P : Program} {w : World} {H : Hp} {h h' : Heap} {x e : Addr} {o' : HO}
theorem HOk.write (ok : HOk P w H h) (mu : Mut (H x)) (he : e = x ∨ H e = some (.own x)) (k : ∀ b u, b ≠ e → h.get? b = some u → h'.get? b = some u) (heo : ∃ u, h'.get? e = some u)
    (new : ObjOk P w (upd H x o') h' x o') : HOk P w (upd H x o') h' := fun b u q => by
  have nown : ∀ c y, H c = some (.own y) → c ≠ x := fun c y r z => by subst z; rw [r] at mu; exact mu
  have ntup : ∀ c xs, H c = some (.tup xs) → c ≠ x := fun c xs r z => by subst z; rw [r] at mu; exact mu
  by_cases hb : b = x
  · subst hb; rw [upd_same] at q; cases q; exact new
  · rw [upd_ne hb] at q
    by_cases hbe : b = e
    · have q' : H b = some (.own x) := by
        rcases he with z | z
        · exact absurd (hbe.trans z) hb
        · rw [hbe]; exact z
      rw [q] at q'; cases q'
      obtain ⟨v, hv⟩ := heo
      exact ⟨v, by rw [hbe]; exact hv⟩
    · refine (ok b u q).stay (fun c v hc r => k c v ?_ r) (fun c r => by rw [upd_ne (nown c b r)]; exact r) fun c xs r => by rw [upd_ne (ntup c xs r)]; exact r
      rcases hc with rfl | hc
      · exact hbe
      · rintro rfl
        rcases he with z | z
        · exact nown c b hc z
        · rw [hc] at z; cases z; exact hb rfl
end
structure Un (fs ex : List Addr) (H H' : Hp) (h h' : Heap) : Prop where
  keep : ∀ b o, h.get? b = some o → H b = none → b ∉ fs → b ∉ ex → h'.get? b = some o
  slot : ∀ b o, h.get? b = some o → H b = none → b ∈ fs → b ∉ ex → ∃ sl, h'.get? b = some { o with slots := sl }
  free : ∀ b o, h.get? b = some o → H b = none → b ∉ ex → H' b = none
  there : ∀ b o, h.get? b = some o → b ∉ ex → ∃ o', h'.get? b = some o'
  tups : ∀ b xs, H b = some (.tup xs) → H' b = some (.tup xs)
  frzs : ∀ b o u, H b = some (.frz o u) → H' b = some (.frz o u)
  tbls : ∀ b ps, H b = some (.tbl ps) → ∃ more, H' b = some (.tbl (ps ++ more))
section
variable {fs fs' ex ex' : List Addr} {H H1 H2 : Hp} {h h1 h2 h' : Heap} {a x e : Addr} {o : HO}
theorem Un.any (u : Un fs ex H H1 h h1) {b : Addr} {ob : Obj} (q : h.get? b = some ob) (n : H b = none) (hx : b ∉ ex) : ∃ sl, h1.get? b = some { ob with slots := sl } := by
  by_cases hb : b ∈ fs
  · exact u.slot b ob q n hb hx
  · exact ⟨ob.slots, u.keep b ob q n hb hx⟩
theorem Un.kept (k : ∀ b u, h.get? b = some u → h'.get? b = some u) : Un fs ex H H h h' :=
  ⟨fun b ob q _ _ _ => k b ob q, fun b ob q _ _ _ => ⟨ob.slots, k b ob q⟩, fun _ _ _ n _ => n, fun b ob q _ => ⟨ob, k b ob q⟩, fun _ _ q => q, fun _ _ _ q => q, fun _ ps q => ⟨#[], by rw [q]; simp⟩⟩
theorem Un.refl : Un fs ex H H h h := Un.kept fun _ _ q => q
theorem Un.laid (k : ∀ b u, h.get? b = some u → h'.get? b = some u) (hp : h.objs.size ≤ a) (hn : H a = none) : Un fs ex H (upd H a o) h h' where
  keep := fun b u q _ _ _ => k b u q
  slot := fun b u q _ _ _ => ⟨u.slots, k b u q⟩
  free := fun b u q n _ => by rw [upd_ne (Nat.ne_of_lt (Nat.lt_of_lt_of_le (Heap.lt_size q) hp))]; exact n
  there := fun b u q _ => ⟨u, k b u q⟩
  tups := fun b xs q => by rw [upd_ne (ne_of_none q hn)]; exact q
  frzs := fun b u xs q => by rw [upd_ne (ne_of_none q hn)]; exact q
  tbls := fun b ps q => ⟨#[], by rw [upd_ne (ne_of_none q hn), q]; simp⟩
theorem Un.write (mu : Mut (H x)) (he : e = x ∨ H e = some (.own x)) (k : ∀ b u, b ≠ e → h.get? b = some u → h'.get? b = some u) (heo : ∃ u, h'.get? e = some u) : Un fs ex H (upd H x o) h h' := by
  have hx : ∀ b, H b = none → b ≠ x := fun b n z => by subst z; rw [n] at mu; exact mu
  have hb : ∀ b, H b = none → b ≠ e := fun b n z => by
    subst z
    rcases he with r | r
    · exact hx b n r
    · rw [n] at r; cases r
  have hm : ∀ b u, H b = some u → ¬ Mut (some u) → b ≠ x := fun b u q nm z => by subst z; rw [q] at mu; exact nm mu
  refine ⟨fun b u q n _ _ => k b u (hb b n) q, fun b u q n _ _ => ⟨u.slots, k b u (hb b n) q⟩, fun b u q n _ => by rw [upd_ne (hx b n)]; exact n, fun b u q _ => ?_,
    fun b xs q => by rw [upd_ne (hm b _ q fun z => z)]; exact q, fun b u xs q => by rw [upd_ne (hm b _ q fun z => z)]; exact q, fun b ps q => ⟨#[], by rw [upd_ne (hm b _ q fun z => z), q]; simp⟩⟩
  by_cases hbe : b = e
  · subst hbe; exact heo
  · exact ⟨u, k b u hbe q⟩
end
def trk (h : Heap) (H : Hp) : List Addr := (List.range h.objs.size).filter fun a => (H a).isSome
def hidT (h : Heap) (H : Hp) : Heap := PySem.W.hideAll h (trk h H)
theorem hidT_size (h : Heap) (H : Hp) : (hidT h H).objs.size = h.objs.size := PySem.W.hideAll_size _ _
theorem hidT_get {h : Heap} {H : Hp} {b : Addr} {o : Obj} (e : h.get? b = some o) (n : H b = none) : (hidT h H).get? b = some o :=
  PySem.W.hideAll_get _ e fun hm => by
    have q : (H b).isSome = true := (List.mem_filter.mp hm).2
    rw [n] at q; simp at q
theorem of_hidT {h : Heap} {H : Hp} {b : Addr} {o : Obj} (e : (hidT h H).get? b = some o) : h.get? b = some o ∧ H b = none := by
  have e' : h.get? b = some o := PySem.W.of_hideAll (trk h H) e
  refine ⟨e', ?_⟩
  cases q : H b with
  | none => rfl
  | some x =>
    have hm : b ∈ trk h H := List.mem_filter.mpr ⟨List.mem_range.mpr (Heap.lt_size e'), by simp [q]⟩
    have z : (hidT h H).get? b = none := PySem.W.hideAll_none (trk h H) hm
    rw [z] at e; cases e
def allNews (g h : Heap) (L : Addr) : List (Addr × Obj) := (List.range h.objs.size).filterMap fun a => if a = L ∨ (g.get? a).isSome = true then none else (h.get? a).map fun o => (a, o)
def rest (g h : Heap) (L d : Addr) : List (Addr × Obj) := (allNews g h L).filter fun p => decide (p.1 ≠ d)
end L2
namespace L2
open PySem PySem.Spec PyProof.Rows
structure Mod (K : PySem.W.Frag) (mg : Str → Option Value) (base : Heap) : Prop where
  kin : K.In base
  glob : base.Ns mainGlobals mg
  blt : ∃ mb, base.Ns builtinsNs mb ∧ ∀ x : Str, x ≠ "__name__" → mb x = bootBuiltins x
  nolimit : base.NoLimit
structure Cx where
  prog : Program
  w : World
  K : PySem.W.Frag
  mg : Str → Option Value
  base : Heap
  A : Around
  N : List Str
  s₀ : Shared
  H₀ : Hp
  env : Env
  outer : List Env
  stack : List Env
  ex : List Addr
  fn : Str → Bool
  calm : Bool
  pn : List (Addr × Obj)
  xe : Value → Shared → Prop
def frs (l : List Env) : List Addr := l.filterMap (·.frame)
abbrev Cx.fs (X : Cx) : List Addr := frs X.outer
def Vis (sc : Scope) (x : Str) : Prop := sc.names.lookup x = some .local ∨ sc.names.lookup x = some .cell ∨ sc.names.lookup x = some .free
def Loc (sc : Scope) (x : Str) : Prop := sc.names.lookup x = some .local ∨ sc.names.lookup x = some .cell
def Look (env : Env) (h : Heap) (m : Str → Option Value) (x : Str) (u : Value) : Prop :=
  (env.kindOf x = some .local ∧ m x = some u) ∨ ((env.kindOf x = some .cell ∨ env.kindOf x = some .free) ∧ ∃ c, env.cells.lookup x = some c ∧ h.IsCell c (some u))
structure Cx.Ok (X : Cx) : Prop where
  mod : Mod X.K X.mg X.base
  kind : X.env.scope.kind = .function
  glob : X.env.globals = mainGlobals
  blt : X.env.builtins = builtinsNs
  above : X.s₀.heap.objs.size ≤ X.env.locals
  inj : ∀ x y c, X.env.cells.lookup x = some c → X.env.cells.lookup y = some c → x = y
  has : ∀ x, (X.env.kindOf x = some .cell ∨ X.env.kindOf x = some .free) → ∃ c, X.env.cells.lookup x = some c
  cab : ∀ x c, X.fn x = true → X.env.cells.lookup x = some c → X.s₀.heap.objs.size ≤ c
  hd : X.calm = true → X.A.handled = none
  frames : X.A.frames = some X.stack
  stk : X.stack = X.outer ∨ (X.stack = X.env :: X.outer ∧ X.env.frame = some X.env.locals)
  exf : ∀ b ∈ X.ex, b ≠ X.env.locals ∧ ∀ x c, X.env.cells.lookup x = some c → c ≠ b
  bs : ∀ b o, X.base.get? b = some o → X.s₀.heap.get? b = some o ∧ X.H₀ b = none
  bsz : X.base.objs.size ≤ X.s₀.heap.objs.size
  noex : ∀ b o, X.base.get? b = some o → b ∉ X.ex
  exfs : ∀ b ∈ X.ex, b ∉ X.fs
  funs : X.s₀.heap.FunFrames X.base X.outer
  frf : ∀ b ∈ X.fs, X.H₀ b = none
structure Inv (X : Cx) (pins : List (Addr × Obj)) (σ : List (Option V)) (H : Hp) (s : Shared) : Prop where
  ok : X.Ok
  os : s.os = X.s₀.os
  bare : AllBare s.gens
  base : Un X.fs X.ex X.H₀ H X.s₀.heap s.heap
  loc : ∃ m, s.heap.Ns X.env.locals m ∧ ∀ (i : Nat) (x : Str) (v : V), X.N[i]? = some x → σ[i]? = some (some v) → Vis X.env.scope x → ∃ u, RelV v u ∧ Look X.env s.heap m x u
  cell : ∀ x c, X.env.cells.lookup x = some c → ∃ v, s.heap.IsCell c v
  free : H X.env.locals = none
  freeC : ∀ x c, X.env.cells.lookup x = some c → H c = none
  pin : ∀ p ∈ X.pn ++ pins, s.heap.get? p.1 = some p.2 ∧ H p.1 = none ∧ p.1 ≠ X.env.locals ∧ p.1 ∉ X.fs ∧ ∀ v, p.2.data ≠ .cell v
  hok : HOk X.prog X.w H s.heap
  len : σ.length = X.N.length
section
variable {X : Cx} {pins : List (Addr × Obj)} {σ : List (Option V)} {H H' : Hp} {s : Shared} {h' : Heap}
theorem Cx.Ok.nofr (ok : X.Ok) {b : Addr} {o : Obj} (e : X.base.get? b = some o) : b ∉ X.fs := fun hb => by
  have := (ok.funs.mem hb).1
  rw [e] at this; cases this
theorem Inv.bs (I : Inv X pins σ H s) : ∀ b o, X.base.get? b = some o → s.heap.get? b = some o ∧ H b = none := fun b o e =>
  ⟨I.base.keep b o (I.ok.bs b o e).1 (I.ok.bs b o e).2 (I.ok.nofr e) (I.ok.noex b o e), I.base.free b o (I.ok.bs b o e).1 (I.ok.bs b o e).2 (I.ok.noex b o e)⟩
theorem Inv.bk (I : Inv X pins σ H s) : ∀ b o, X.base.get? b = some o → s.heap.get? b = some o := fun b o e => (I.bs b o e).1
theorem Inv.mod (I : Inv X pins σ H s) : Mod X.K X.mg X.base := I.ok.mod
theorem Inv.kIn (I : Inv X pins σ H s) : X.K.In s.heap := I.ok.mod.kin.keeps I.bk
theorem Inv.lt (I : Inv X pins σ H s) : X.env.locals < s.heap.objs.size := let ⟨_, hn, _⟩ := I.loc; hn.lt
theorem Inv.sz (I : Inv X pins σ H s) : X.s₀.heap.objs.size ≤ s.heap.objs.size := Nat.le_trans I.ok.above (Nat.le_of_lt I.lt)
theorem Inv.nofs (I : Inv X pins σ H s) {a : Addr} (h : s.heap.objs.size ≤ a) : a ∉ X.fs := fun hb => by
  obtain ⟨_, o, ho, _⟩ := I.ok.funs.mem hb
  exact absurd (Nat.lt_of_lt_of_le (Heap.lt_size ho) (Nat.le_trans I.sz h)) (Nat.lt_irrefl _)
theorem Inv.cne (I : Inv X pins σ H s) : ∀ x c, X.env.cells.lookup x = some c → c ≠ X.env.locals := fun x c e z => by
  obtain ⟨v, o, ho, hd⟩ := I.cell x c e
  obtain ⟨m, ⟨o', es, ep, ho', hd', _⟩, _⟩ := I.loc
  rw [z, ho'] at ho; cases ho; rw [hd'] at hd; cases hd
theorem Inv.funs (I : Inv X pins σ H s) : s.heap.FunFrames X.base X.outer := by
  have all : ∀ (l : List Env), (∀ b ∈ frs l, b ∈ X.fs) → X.s₀.heap.FunFrames X.base l → s.heap.FunFrames X.base l := by
    intro l
    induction l with
    | nil => intro _ _; trivial
    | cons env r ih =>
      intro hs hl
      obtain ⟨hk, ⟨L, o, hf, hn, ho, hd⟩, hr⟩ := hl
      have hL : L ∈ X.fs := hs L (by unfold frs; rw [List.filterMap_cons, hf]; exact List.mem_cons_self)
      obtain ⟨sl, e⟩ := I.base.slot L o ho (I.ok.frf L hL) hL fun z => I.ok.exfs L z hL
      exact ⟨hk, ⟨L, _, hf, hn, e, hd⟩, ih (fun b hb => hs b (by unfold frs; rw [List.filterMap_cons, hf]; exact List.mem_cons_of_mem _ hb)) hr⟩
  exact all X.outer (fun _ hb => hb) I.ok.funs
theorem Inv.stack (I : Inv X pins σ H s) : s.heap.FunFrames X.base X.stack := by
  rcases I.ok.stk with e | ⟨e, hf⟩
  · rw [e]; exact I.funs
  · rw [e]
    obtain ⟨m, hn, _⟩ := I.loc
    refine .cons (by rw [I.ok.kind]; decide) hf hn ?_ I.funs
    exact Heap.get?_none_of_le (Nat.le_trans I.ok.bsz I.ok.above)
theorem Inv.stkSub (I : Inv X pins σ H s) : ∀ b ∈ frs X.stack, b ∈ X.env.locals :: X.fs := fun b hb => by
  rcases I.ok.stk with e | ⟨e, hf⟩
  · rw [e] at hb; exact List.mem_cons_of_mem _ hb
  · rw [e] at hb
    unfold frs at hb
    rw [List.filterMap_cons, hf] at hb
    exact hb
theorem Inv.stkFree (I : Inv X pins σ H s) : ∀ b ∈ frs X.stack, H b = none := fun b hb => by
  rcases List.mem_cons.mp (I.stkSub b hb) with e | hb
  · rw [e]; exact I.free
  · obtain ⟨_, o, ho, _⟩ := I.ok.funs.mem hb
    exact I.base.free b o ho (I.ok.frf b hb) fun z => I.ok.exfs b z hb
theorem Inv.step {g' : Array GenState} {t' : Nat} {d' : Drawn} {ch : List Addr} (I : Inv X pins σ H s)
    (hch : ∀ b ∈ ch, (b ∈ X.ex ∨ X.s₀.heap.objs.size ≤ b) ∧ b ≠ X.env.locals ∧ (∀ x c, X.env.cells.lookup x = some c → c ≠ b) ∧ ∀ p ∈ X.pn ++ pins, p.1 ≠ b)
    (keep : ∀ b o, b ≠ X.env.locals → b ∉ X.fs → b ∉ ch → s.heap.get? b = some o → H b = none → h'.get? b = some o)
    (slot : ∀ b o, b ≠ X.env.locals → b ∈ X.fs → b ∉ ch → s.heap.get? b = some o → H b = none → ∃ sl, h'.get? b = some { o with slots := sl }) (free : ∀ b o, b ∉ ch → s.heap.get? b = some o → H b = none → H' b = none)
    (there : ∀ b o, b ∉ ch → s.heap.get? b = some o → ∃ o', h'.get? b = some o')
    (tups : ∀ b xs, H b = some (.tup xs) → H' b = some (.tup xs)) (frzs : ∀ b o u, H b = some (.frz o u) → H' b = some (.frz o u)) (tbls : ∀ b ps, H b = some (.tbl ps) → ∃ more, H' b = some (.tbl (ps ++ more)))
    (ns : ∀ m, s.heap.Ns X.env.locals m → h'.Ns X.env.locals m) (hok : HOk X.prog X.w H' h') (hg : AllBare g') :
    Inv X pins σ H' { s with heap := h', gens := g', drawn := d', toks := t' } := by
  have neL : ∀ b o, X.s₀.heap.get? b = some o → b ≠ X.env.locals := fun b o e => Nat.ne_of_lt (Nat.lt_of_lt_of_le (Heap.lt_size e) I.ok.above)
  have neC : ∀ b o, X.s₀.heap.get? b = some o → b ∉ X.ex → b ∉ ch := fun b o e hx hb => by
    rcases (hch b hb).1 with z | z
    · exact hx z
    · exact absurd (Nat.lt_of_lt_of_le (Heap.lt_size e) z) (Nat.lt_irrefl _)
  have cellK : ∀ x c, X.env.cells.lookup x = some c → ∀ v, s.heap.IsCell c v → h'.IsCell c v := fun x c e v ⟨o, ho, hd⟩ => by
    have nch : c ∉ ch := fun z => (hch c z).2.2.1 x c e rfl
    by_cases hc : c ∈ X.fs
    · obtain ⟨sl, q⟩ := slot c o (I.cne x c e) hc nch ho (I.freeC x c e)
      exact ⟨_, q, hd⟩
    · exact ⟨o, keep c o (I.cne x c e) hc nch ho (I.freeC x c e), hd⟩
  refine ⟨I.ok, I.os, hg, ⟨fun b o e n hb hx => ?_, fun b o e n hb hx => ?_, fun b o e n hx => ?_, fun b o e hx => ?_, fun b xs e => tups b xs (I.base.tups b xs e), fun b o xs e => frzs b o xs (I.base.frzs b o xs e), fun b ps e => ?_⟩, ?_, fun x c e => ?_, ?_, fun x c e => ?_, fun p hp => ?_, hok, I.len⟩
  · exact keep b o (neL b o e) hb (neC b o e hx) (I.base.keep b o e n hb hx) (I.base.free b o e n hx)
  · obtain ⟨sl, e1⟩ := I.base.slot b o e n hb hx
    obtain ⟨sl', e2⟩ := slot b _ (neL b o e) hb (neC b o e hx) e1 (I.base.free b o e n hx)
    exact ⟨sl', e2⟩
  · obtain ⟨o', e1⟩ := I.base.there b o e hx
    exact free b o' (neC b o e hx) e1 (I.base.free b o e n hx)
  · obtain ⟨o', e1⟩ := I.base.there b o e hx
    exact there b o' (neC b o e hx) e1
  · obtain ⟨m1, e1⟩ := I.base.tbls b ps e
    obtain ⟨m2, e2⟩ := tbls b _ e1
    exact ⟨m1 ++ m2, by rw [e2, Array.append_assoc]⟩
  · obtain ⟨m, hn, hl⟩ := I.loc
    refine ⟨m, ns m hn, fun i x v e1 e2 e3 => ?_⟩
    obtain ⟨u, r, l⟩ := hl i x v e1 e2 e3
    refine ⟨u, r, ?_⟩
    rcases l with l | ⟨k, c, e, z⟩
    · exact .inl l
    · exact .inr ⟨k, c, e, cellK x c e _ z⟩
  · obtain ⟨v, z⟩ := I.cell x c e
    exact ⟨v, cellK x c e v z⟩
  · obtain ⟨m, ⟨o, _, _, ho, _⟩, _⟩ := I.loc
    exact free _ o (fun z => (hch _ z).2.1 rfl) ho I.free
  · obtain ⟨v, o, ho, hd⟩ := I.cell x c e
    exact free c o (fun z => (hch c z).2.2.1 x c e rfl) ho (I.freeC x c e)
  · obtain ⟨e, n, ne, nf, d⟩ := I.pin p hp
    have nch : p.1 ∉ ch := fun z => (hch p.1 z).2.2.2 p hp rfl
    exact ⟨keep p.1 p.2 ne nf nch e n, free p.1 p.2 nch e n, ne, nf, d⟩
theorem Inv.un {t' : Nat} (I : Inv X pins σ H s) (u : Un X.fs [] H H' s.heap h') (hok : HOk X.prog X.w H' h') : Inv X pins σ H' { s with heap := h', toks := t' } := by
  obtain ⟨m, ⟨o, es, ep, ho, r⟩, _⟩ := id I.loc
  obtain ⟨sl, hL⟩ := u.any ho I.free (by simp)
  exact I.step (g' := s.gens) (d' := s.drawn) (ch := []) (fun _ z => nomatch z) (fun b o _ hb _ e n => u.keep b o e n hb (by simp)) (fun b o _ hb _ e n => u.slot b o e n hb (by simp)) (fun b o _ e n => u.free b o e n (by simp)) (fun b o _ e => u.there b o e (by simp)) u.tups u.frzs u.tbls (fun m' hm => by
    obtain ⟨o', es', ep', ho', r'⟩ := hm
    rw [ho] at ho'; cases ho'
    exact ⟨_, es', ep', hL, r'⟩) hok I.bare
theorem Inv.call {g' : Array GenState} {t' : Nat} {d' : Drawn} {ch : List Addr} (I : Inv X pins σ H s) (u : Un (frs X.stack) ch H H' s.heap h') (hok : HOk X.prog X.w H' h') (hg : AllBare g')
    (hch : ∀ b ∈ ch, (b ∈ X.ex ∨ X.s₀.heap.objs.size ≤ b) ∧ b ≠ X.env.locals ∧ (∀ x c, X.env.cells.lookup x = some c → c ≠ b) ∧ ∀ p ∈ X.pn ++ pins, p.1 ≠ b) :
    Inv X pins σ H' { s with heap := h', gens := g', drawn := d', toks := t' } := by
  obtain ⟨m, ⟨o, es, ep, ho, r⟩, _⟩ := id I.loc
  obtain ⟨sl, hL⟩ := u.any ho I.free fun z => (hch _ z).2.1 rfl
  exact I.step (ch := ch) hch (fun b o hL hb hc e n => u.keep b o e n (fun z => (List.mem_cons.mp (I.stkSub b z)).elim hL hb) hc) (fun b o _ _ hc e n => u.any e n hc) (fun b o hc e n => u.free b o e n hc) (fun b o hc e => u.there b o e hc) u.tups u.frzs u.tbls (fun m' hm => by
    obtain ⟨o', es', ep', ho', r'⟩ := hm
    rw [ho] at ho'; cases ho'
    exact ⟨_, es', ep', hL, r'⟩) hok hg
theorem Inv.turned {t' : Nat} {it : Addr} (I : Inv X pins σ H s) (k : ∀ b o, b ≠ it → s.heap.get? b = some o → h'.get? b = some o) (hn : H it = none) (hL : it ≠ X.env.locals)
    (h1 : it ∈ X.ex ∨ X.s₀.heap.objs.size ≤ it) (h2 : ∀ x c, X.env.cells.lookup x = some c → c ≠ it) (h3 : ∀ p ∈ X.pn ++ pins, p.1 ≠ it) : Inv X pins σ H { s with heap := h', toks := t' } := by
  have nit : ∀ b u, H b = some u → b ≠ it := fun b u e z => by rw [z, hn] at e; cases e
  refine I.step (g' := s.gens) (d' := s.drawn) (ch := [it]) (fun b hb => ?_) (fun b o _ _ hc e _ => k b o (fun z => hc (by simp [z])) e) (fun b o _ _ hc e _ => ⟨o.slots, k b o (fun z => hc (by simp [z])) e⟩) (fun _ _ _ _ n => n)
    (fun b o hc e => ⟨o, k b o (fun z => hc (by simp [z])) e⟩) (fun _ _ e => e) (fun _ _ _ e => e) (fun b ps e => ⟨#[], by rw [e]; simp⟩) (fun m hm => ?_) (fun b u e => ?_) I.bare
  · have e : b = it := by simpa using hb
    subst e
    exact ⟨h1, hL, h2, h3⟩
  · obtain ⟨o, es, ep, ho, r⟩ := hm
    exact ⟨o, es, ep, k _ o (Ne.symm hL) ho, r⟩
  · refine (I.hok b u e).stay (fun c v hc q => k c v ?_ q) (fun _ q => q) fun _ _ q => q
    rcases hc with z | z
    · rw [z]; exact nit b u e
    · exact nit c _ z
theorem Inv.tok (I : Inv X pins σ H s) (t : Nat) : Inv X pins σ H { s with toks := t } := I.un (h' := s.heap) (t' := t) Un.refl I.hok
theorem Inv.kept {t' : Nat} (I : Inv X pins σ H s) (k : ∀ b u, s.heap.get? b = some u → h'.get? b = some u) : Inv X pins σ H { s with heap := h', toks := t' } := I.un (Un.kept k) (I.hok.kept k)
theorem Inv.laid {a : Addr} {o : HO} {t' : Nat} (I : Inv X pins σ H s) (k : ∀ b u, s.heap.get? b = some u → h'.get? b = some u) (hp : s.heap.objs.size ≤ a) (new : ObjOk X.prog X.w (upd H a o) h' a o) :
    Inv X pins σ (upd H a o) { s with heap := h', toks := t' } := I.un (Un.laid k hp (I.hok.fresh hp)) (I.hok.laid k hp new)
theorem Inv.write {x e : Addr} {o : HO} {t' : Nat} (I : Inv X pins σ H s) (mu : Mut (H x)) (he : e = x ∨ H e = some (.own x)) (k : ∀ b u, b ≠ e → s.heap.get? b = some u → h'.get? b = some u) (heo : ∃ u, h'.get? e = some u)
    (new : ObjOk X.prog X.w (upd H x o) h' x o) : Inv X pins σ (upd H x o) { s with heap := h', toks := t' } := I.un (Un.write mu he k heo) (I.hok.write mu he k heo new)
theorem Inv.pins_of {pins' : List (Addr × Obj)} (I : Inv X pins σ H s) (h : ∀ p ∈ pins', s.heap.get? p.1 = some p.2 ∧ H p.1 = none ∧ p.1 ≠ X.env.locals ∧ p.1 ∉ X.fs ∧ ∀ v, p.2.data ≠ .cell v) : Inv X pins' σ H s :=
  ⟨I.ok, I.os, I.bare, I.base, I.loc, I.cell, I.free, I.freeC, fun p hp => (List.mem_append.mp hp).elim (fun z => I.pin p (List.mem_append_left _ z)) (h p), I.hok, I.len⟩
theorem nodup_ix {N : List Str} (hN : N.Nodup) {i j : Nat} {x : Str} (a : N[i]? = some x) (b : N[j]? = some x) : i = j := by
  obtain ⟨h1, e1⟩ := List.getElem?_eq_some_iff.mp a
  obtain ⟨h2, e2⟩ := List.getElem?_eq_some_iff.mp b
  exact (List.getElem_inj hN).mp (e1.trans e2.symm)
theorem store_ok2 {M : Model} {A : Around} {E : Value → Shared → Prop} {i : Nat} {x : Str} {v : V} {u : Value} {Q : Unit → Shared → Prop} (I : Inv X pins σ H s) (hN : X.N.Nodup) (hi : X.N[i]? = some x) (hx : Loc X.env.scope x) (r : RelV v u)
    (h : ∀ s', Inv X pins (σ.set i (some v)) H s' → (∃ a, Heap.SameBut a s.heap s'.heap ∧ (a = X.env.locals ∨ X.env.cells.lookup x = some a)) → Q () s') (hf : X.fn x = true ∨ X.env.scope.names.lookup x = some .local := by first | exact .inl rfl | exact .inr rfl | assumption) : wpAny M A (storeName X.env x u) Q E s := by
  obtain ⟨m, hn, hl⟩ := id I.loc
  have hcls : (X.env.scope.kind == .class || (X.env.scope.kind == .module && X.env.locals != X.env.globals)) = false := by rw [I.ok.kind]; rfl
  have hiσ : i < σ.length := by rw [I.len]; exact (List.getElem?_eq_some_iff.mp hi).1
  have cne := I.cne
  have tracked : ∀ {a : Addr} {h' : Heap}, (∃ o, s.heap.get? a = some o ∧ H a = none) → Heap.SameBut a s.heap h' → HOk X.prog X.w H h' := fun {a h'} ha hs b ob e => by
    obtain ⟨_, _, hfree⟩ := ha
    refine (I.hok b ob e).stay (fun c w' hc q => (hs.2 c ?_).trans q) (fun _ q => q) fun _ _ q => q
    rintro rfl
    rcases hc with rfl | hc
    · rw [hfree] at e; cases e
    · rw [hfree] at hc; cases hc
  rcases hx with hk | hk
  · refine wpAny_storeName_local hk hn (fun h' hn' hs => ?_) hcls
    obtain ⟨oL, _, _, hoL, _⟩ := id hn
    refine h _ ⟨I.ok, I.os, I.bare, ⟨fun b o e n hb hx => ?_, fun b o e n hb hx => ?_, I.base.free, fun b o e hx => ?_, I.base.tups, I.base.frzs, I.base.tbls⟩, ⟨_, hn', fun j y v' e1 e2 e3 => ?_⟩, fun y c e => ?_, I.free, I.freeC, fun p hp => ?_, tracked ⟨oL, hoL, I.free⟩ hs, by simpa using I.len⟩ ⟨_, hs, .inl rfl⟩
    · exact (hs.2 b (Nat.ne_of_lt (Nat.lt_of_lt_of_le (Heap.lt_size e) I.ok.above))).trans (I.base.keep b o e n hb hx)
    · obtain ⟨sl, e1⟩ := I.base.slot b o e n hb hx
      exact ⟨sl, (hs.2 b (Nat.ne_of_lt (Nat.lt_of_lt_of_le (Heap.lt_size e) I.ok.above))).trans e1⟩
    · obtain ⟨o', e1⟩ := I.base.there b o e hx
      exact ⟨o', (hs.2 b (Nat.ne_of_lt (Nat.lt_of_lt_of_le (Heap.lt_size e) I.ok.above))).trans e1⟩
    · by_cases hj : j = i
      · subst hj
        rw [hi] at e1; cases e1
        rw [List.getElem?_set_self hiσ] at e2
        cases e2
        exact ⟨u, r, .inl ⟨hk, by simp⟩⟩
      · rw [List.getElem?_set_ne (Ne.symm hj)] at e2
        obtain ⟨u', r', q⟩ := hl j y v' e1 e2 e3
        refine ⟨u', r', ?_⟩
        rcases q with ⟨k, e⟩ | ⟨k, c, e, z⟩
        · refine .inl ⟨k, ?_⟩
          have : y ≠ x := fun e => hj (nodup_ix hN e1 (e ▸ hi))
          simp [this, e]
        · exact .inr ⟨k, c, e, z.sameBut hs (cne y c e)⟩
    · obtain ⟨w', z⟩ := I.cell y c e
      exact ⟨w', z.sameBut hs (cne y c e)⟩
    · obtain ⟨e, n, ne, nf, d⟩ := I.pin p hp
      exact ⟨(hs.2 p.1 ne).trans e, n, ne, nf, d⟩
  · have hfn : X.fn x = true := by
      rcases hf with z | z
      · exact z
      · rw [z] at hk; cases hk
    obtain ⟨c, hc⟩ := I.ok.has x (.inl hk)
    obtain ⟨w', z⟩ := I.cell x c hc
    refine wpAny_storeName_cell I.ok.kind hk hc z (fun h' hc' hs => ?_)
    obtain ⟨oc, hoc, hocd⟩ := id z
    refine h { s with heap := h' } ⟨I.ok, I.os, I.bare, ⟨fun b o e n hb hx => ?_, fun b o e n hb hx => ?_, I.base.free, fun b o e hx => ?_, I.base.tups, I.base.frzs, I.base.tbls⟩, ⟨m, hn.sameBut hs (Ne.symm (cne x c hc)), fun j y v' e1 e2 e3 => ?_⟩, fun y c' e => ?_, I.free, I.freeC, fun p hp => ?_, tracked ⟨oc, hoc, I.freeC x c hc⟩ hs, by simpa using I.len⟩ ⟨c, hs, .inr hc⟩
    · exact (hs.2 b (Nat.ne_of_lt (Nat.lt_of_lt_of_le (Heap.lt_size e) (I.ok.cab x c hfn hc)))).trans (I.base.keep b o e n hb hx)
    · obtain ⟨sl, e1⟩ := I.base.slot b o e n hb hx
      exact ⟨sl, (hs.2 b (Nat.ne_of_lt (Nat.lt_of_lt_of_le (Heap.lt_size e) (I.ok.cab x c hfn hc)))).trans e1⟩
    · obtain ⟨o', e1⟩ := I.base.there b o e hx
      exact ⟨o', (hs.2 b (Nat.ne_of_lt (Nat.lt_of_lt_of_le (Heap.lt_size e) (I.ok.cab x c hfn hc)))).trans e1⟩
    · by_cases hj : j = i
      · subst hj
        rw [hi] at e1; cases e1
        rw [List.getElem?_set_self hiσ] at e2
        cases e2
        exact ⟨u, r, .inr ⟨.inl hk, c, hc, hc'⟩⟩
      · rw [List.getElem?_set_ne (Ne.symm hj)] at e2
        obtain ⟨u', r', q⟩ := hl j y v' e1 e2 e3
        refine ⟨u', r', ?_⟩
        rcases q with q | ⟨k, c', e, z'⟩
        · exact .inl q
        · refine .inr ⟨k, c', e, z'.sameBut hs ?_⟩
          rintro rfl
          exact hj (nodup_ix hN e1 (I.ok.inj _ _ _ e hc ▸ hi))
    · by_cases hcc : c' = c
      · subst hcc; exact ⟨_, hc'⟩
      · obtain ⟨w2, z2⟩ := I.cell y c' e
        exact ⟨w2, z2.sameBut hs hcc⟩
    · obtain ⟨e, n, ne, nf, d⟩ := I.pin p hp
      refine ⟨(hs.2 p.1 ?_).trans e, n, ne, nf, d⟩
      intro q
      rw [q, hoc] at e
      have q' : oc = p.2 := Option.some.inj e
      exact d w' (by rw [← q']; exact hocd)
theorem store_ok {M : Model} {A : Around} {E : Value → Shared → Prop} {i : Nat} {x : Str} {v : V} {u : Value} {Q : Unit → Shared → Prop} (I : Inv X pins σ H s) (hN : X.N.Nodup) (hi : X.N[i]? = some x) (hx : Loc X.env.scope x) (r : RelV v u)
    (h : ∀ s', Inv X pins (σ.set i (some v)) H s' → Q () s') (hf : X.fn x = true ∨ X.env.scope.names.lookup x = some .local := by first | exact .inl rfl | exact .inr rfl | assumption) : wpAny M A (storeName X.env x u) Q E s :=
  store_ok2 I hN hi hx r (fun s' I' _ => h s' I') hf
theorem Inv.call' {s' : Shared} {ch : List Addr} (I : Inv X pins σ H s) (ho : s'.os = s.os) (u : Un (frs X.stack) ch H H' s.heap s'.heap) (hok : HOk X.prog X.w H' s'.heap) (hg : AllBare s'.gens)
    (hch : ∀ b ∈ ch, (b ∈ X.ex ∨ X.s₀.heap.objs.size ≤ b) ∧ b ≠ X.env.locals ∧ (∀ x c, X.env.cells.lookup x = some c → c ≠ b) ∧ ∀ p ∈ X.pn ++ pins, p.1 ≠ b) : Inv X pins σ H' s' := by
  obtain ⟨h', g', d', t', o'⟩ := s'
  have e : o' = s.os := ho
  subst e
  exact I.call (g' := g') (t' := t') (d' := d') u hok hg hch
end
abbrev XK := Value → Option Addr → Hp → Prop
abbrev St := List (Option V)
abbrev VK := V → Hp → Prop
abbrev TE := St → Hp → VK → Prop
abbrev TT := St → Hp → (Bool → Hp → Prop) → Prop
abbrev TA := St → Hp → (List V → Hp → Prop) → Prop
structure Ends where
  nx : St → Hp → Prop
  rt : VK
  bk : St → Hp → Prop := fun _ _ => False
  ct : St → Hp → Prop := fun _ _ => False
abbrev TS := Ends → St → Hp → Prop
def EP (X : Cx) (pins : List (Addr × Obj)) (σ : St) (Q : VK) (u : Value) (s' : Shared) : Prop := ∃ v H', Inv X pins σ H' s' ∧ RelV v u ∧ Q v H'
def TP (X : Cx) (pins : List (Addr × Obj)) (σ : St) (Q : Bool → Hp → Prop) (b : Bool) (s' : Shared) : Prop := ∃ H', Inv X pins σ H' s' ∧ Q b H'
def AP (X : Cx) (pins : List (Addr × Obj)) (σ : St) (Q : List V → Hp → Prop) (us : List Value) (s' : Shared) : Prop := ∃ vs H', Inv X pins σ H' s' ∧ Vals vs us ∧ Q vs H'
def SP (X : Cx) (pins : List (Addr × Obj)) (D : Ends) (f : Flow) (s' : Shared) : Prop :=
  match f with
  | .next => ∃ σ' H', Inv X pins σ' H' s' ∧ D.nx σ' H'
  | .brk => ∃ σ' H', Inv X pins σ' H' s' ∧ D.bk σ' H'
  | .cont => ∃ σ' H', Inv X pins σ' H' s' ∧ D.ct σ' H'
  | .ret u => ∃ v σ' H', Inv X pins σ' H' s' ∧ RelV v u ∧ D.rt v H'
def PE (X : Cx) (e : Expr) (t : TE) : Prop :=
  ∀ (pins : List (Addr × Obj)) (s : Shared) (σ : St) (H : Hp) (Q : VK), Inv X pins σ H s → t σ H Q → wpAny (model X.prog X.w) X.A (eval e X.env) (EP X pins σ Q) X.xe s
def PT (X : Cx) (e : Expr) (t : TT) : Prop :=
  ∀ (pins : List (Addr × Obj)) (s : Shared) (σ : St) (H : Hp) (Q : Bool → Hp → Prop), Inv X pins σ H s → t σ H Q → wpAny (model X.prog X.w) X.A (isTrue e X.env (eval e X.env)) (TP X pins σ Q) X.xe s
def PW (X : Cx) (e : Expr) (t : TT) : Prop :=
  ∀ (whole : Sem Value) (pins : List (Addr × Obj)) (s : Shared) (σ : St) (H : Hp) (Q : Bool → Hp → Prop), Inv X pins σ H s → t σ H Q → wpAny (model X.prog X.w) X.A (isTrue e X.env whole) (TP X pins σ Q) X.xe s
theorem PW.pt {X : Cx} {e : Expr} {t : TT} (h : PW X e t) : PT X e t := h _
def PA (X : Cx) (es : List Expr) (t : TA) : Prop :=
  ∀ (pos : Pos) (pins : List (Addr × Obj)) (s : Shared) (σ : St) (H : Hp) (Q : List V → Hp → Prop), Inv X pins σ H s → t σ H Q → wpAny (model X.prog X.w) X.A (spliced (backTo pos (starEach es X.env))) (AP X pins σ Q) X.xe s
def PS (X : Cx) (st : Stmt) (t : TS) : Prop :=
  ∀ (pins : List (Addr × Obj)) (s : Shared) (σ : St) (H : Hp) (D : Ends), Inv X pins σ H s → t D σ H → wpAny (model X.prog X.w) X.A (exec st X.env) (SP X pins D) X.xe s
def PSs (X : Cx) (st : List Stmt) (t : TS) : Prop :=
  ∀ (pins : List (Addr × Obj)) (s : Shared) (σ : St) (H : Hp) (D : Ends), Inv X pins σ H s → t D σ H → wpAny (model X.prog X.w) X.A (execs st X.env) (SP X pins D) X.xe s
theorem thn {α : Type} {t : Sem α} {Q Q' : α → Shared → Prop} {M : Model} {A : Around} {E : Value → Shared → Prop} {s : Shared} (h : wpAny M A t Q E s) (hQ : ∀ a s, Q a s → Q' a s) : wpAny M A t Q' E s := wpAny_mono h hQ fun _ _ x => x
end L2
namespace L2
open PySem PySem.Spec PyProof.Rows
section
variable {X : Cx}
theorem bin {a b : Expr} {ta tb : TE} (ha : PE X a ta) (hb : PE X b tb) {pins : List (Addr × Obj)} {s : Shared} {σ : St} {H : Hp} {R : V → V → Hp → Prop} (I : Inv X pins σ H s) (h : ta σ H fun x H1 => tb σ H1 fun y H2 => R x y H2)
    {α : Type} {Q : α → Shared → Prop} {f : Value → Value → Sem α}
    (hf : ∀ v u s2 x y H2, Inv X pins σ H2 s2 → RelV x v → RelV y u → R x y H2 → wpAny (model X.prog X.w) X.A (f v u) Q X.xe s2) :
    wpAny (model X.prog X.w) X.A (eval a X.env) (fun v s₁ => wpAny (model X.prog X.w) X.A (eval b X.env) (fun u s₂ => wpAny (model X.prog X.w) X.A (f v u) Q X.xe s₂) X.xe s₁) X.xe s := by
  refine thn (ha pins s σ H _ I h) fun v s1 ⟨x, H1, I1, r1, q1⟩ => ?_
  refine thn (hb pins s1 σ H1 _ I1 q1) fun u s2 ⟨y, H2, I2, r2, q2⟩ => ?_
  exact hf v u s2 x y H2 I2 r1 r2 q2
def tVar (i : Nat) : TE := fun σ H Q => ∃ v, σ[i]? = some (some v) ∧ Q v H
def tC (v : V) : TE := fun _ H Q => Q v H
theorem pe_var {i : Nat} {x : Str} {pos : Pos} (hN : X.N[i]? = some x) (hv : Vis X.env.scope x) (hd : (x == ("__debug__" : Str)) = false := by decide) (hcd : (x == ("__classdict__" : Str)) = false := by decide) : PE X (.Name x pos) (tVar i) := by
  intro pins s σ H Q I h
  obtain ⟨v, e, h⟩ := h
  obtain ⟨m, hn, hl⟩ := I.loc
  obtain ⟨u, r, l⟩ := hl i x v hN e hv
  have fin : EP X pins σ Q u s := ⟨v, H, I, r, h⟩
  rcases l with ⟨hk, hm⟩ | ⟨hk, c, hc, hcell⟩
  · exact wpAny_Name (wpAny_loadName_local I.ok.kind hk hn hm fin) hd
  · rcases hk with hk | hk
    · exact wpAny_Name (wpAny_loadName_cell I.ok.kind hk hc hcell fin) hd
    · exact wpAny_Name (wpAny_loadName_free I.ok.kind hk hc hcell fin hcd) hd
theorem pe_int {i j pos} : PE X (.Constant (.int i) j pos) (tC (.int i)) := fun _ _ _ H _ I h => wpAny_Constant_int ⟨.int i, H, I.tok _, ⟨_, rfl⟩, h⟩
theorem pe_bl {b j pos} : PE X (.Constant (.bool b) j pos) (tC (.bl b)) := fun _ _ _ H _ I h => Constant_bool ⟨.bl b, H, I, rfl, h⟩
theorem pe_non {j pos} : PE X (.Constant .none j pos) (tC .non) := fun _ _ _ H _ I h => Constant_none ⟨.non, H, I, rfl, h⟩
theorem pe_str {x j pos} : PE X (.Constant (.str x) j pos) (tC (.str x)) := fun _ _ _ H _ I h => Calls.Constant_str ⟨.str x, H, I.tok _, ⟨_, rfl⟩, h⟩
def Gl (X : Cx) (x : Str) : Prop := X.env.kindOf x = some .globalImplicit
theorem ld_glob {E : Value → Shared → Prop} {pins : List (Addr × Obj)} {s : Shared} {σ : St} {H : Hp} {x : Str} {u : Value} {pos : Pos} {Q : Value → Shared → Prop} (I : Inv X pins σ H s) (hg : Gl X x) (hm : X.mg x = some u) (h : Q u s)
    (hd : (x == ("__debug__" : Str)) = false := by decide) : wpAny (model X.prog X.w) X.A (eval (.Name x pos) X.env) Q E s :=
  Calls.Name_function_global I.ok.kind hg (Calls.loadGlobal_global (by rw [I.ok.glob]; exact I.mod.glob.keeps I.bk) hm h) hd
theorem ld_blt {E : Value → Shared → Prop} {pins : List (Addr × Obj)} {s : Shared} {σ : St} {H : Hp} {x : Str} {u : Value} {pos : Pos} {Q : Value → Shared → Prop} (I : Inv X pins σ H s) (hg : Gl X x) (hm : X.mg x = none) (hv : bootBuiltins x = some u) (h : Q u s)
    (hn : x ≠ "__name__" := by decide) (hd : (x == ("__debug__" : Str)) = false := by decide) : wpAny (model X.prog X.w) X.A (eval (.Name x pos) X.env) Q E s := by
  obtain ⟨mb, h1, h2⟩ := I.mod.blt
  exact Calls.Name_function_global I.ok.kind hg (Calls.loadGlobal_builtin (by rw [I.ok.glob]; exact I.mod.glob.keeps I.bk) hm (by rw [I.ok.blt]; exact h1.keeps I.bk) ((h2 x hn).trans hv) h) hd
theorem pe_glob {x : Str} {v : V} {u : Value} {pos : Pos} (hg : Gl X x) (hm : X.mg x = some u) (r : RelV v u) (hd : (x == ("__debug__" : Str)) = false := by decide) : PE X (.Name x pos) (tC v) :=
  fun _ _ _ H _ I h => ld_glob I hg hm ⟨v, H, I, r, h⟩ hd
theorem pe_bltn {x : Str} {v : V} {u : Value} {pos : Pos} (hg : Gl X x) (hm : X.mg x = none) (hv : bootBuiltins x = some u) (r : RelV v u) (hn : x ≠ "__name__" := by decide) (hd : (x == ("__debug__" : Str)) = false := by decide) : PE X (.Name x pos) (tC v) :=
  fun _ _ _ H _ I h => ld_blt I hg hm hv ⟨v, H, I, r, h⟩ hn hd
variable {a b : Expr} {ta tb : TE} {pos : Pos}
def PC (X : Cx) (op : CmpOp) (a b : Expr) (t : TE) : Prop :=
  ∀ (pins : List (Addr × Obj)) (s : Shared) (σ : St) (H : Hp) (Q : VK), Inv X pins σ H s → t σ H Q →
    wpAny (model X.prog X.w) X.A (eval a X.env) (fun v s₁ => wpAny (model X.prog X.w) X.A (eval b X.env) (fun u s₂ => wpAny (model X.prog X.w) X.A (compareOp op v u) (EP X pins σ Q) X.xe s₂) X.xe s₁) X.xe s
def tB (t : TE) : TT := fun σ H Q => t σ H fun x H1 => ∃ c, x = .bl c ∧ Q c H1
theorem pt_cmp {op : CmpOp} {t : TE} (h : PC X op a b t) (h1 : behindInMarks op b = false := by first | exact nobehind _ (by decide) (by decide) | rfl) : PT X (.Compare a [op] [b] pos) (tB t) := by
  intro pins s σ H Q I hw
  refine wpAny_isTrue_Compare1 (thn (h pins s σ H _ I hw) fun v s1 h1 => thn h1 fun u s2 h2 => thn h2 fun c s3 ⟨x, H1, I1, r1, q1⟩ => ?_) h1
  obtain ⟨d, rfl, q⟩ := q1
  cases r1
  exact wpAny_truthy_bool ⟨H1, I1, q⟩
theorem pt_val {e : Expr} {t : TE} (h : PE X e t) (he : ∀ whole, isTrue e X.env whole = (do let v ← whole; standAt e.pos; holding [v] (truthy v)) := by intro _; rfl) : PT X e (tB t) := by
  intro pins s σ H Q I hw
  refine isTrue_plain (thn (h pins s σ H _ I hw) fun v s1 ⟨x, H1, I1, r1, q1⟩ => ?_) (he _)
  obtain ⟨d, rfl, q⟩ := q1
  cases r1
  exact wpAny_truthy_bool ⟨H1, I1, q⟩
variable {tA tB' : TT} {rest : List Expr}
def tAnd (t u : TT) : TT := fun σ H Q => t σ H fun c H1 => if c = true then u σ H1 Q else Q false H1
def tOr (t u : TT) : TT := fun σ H Q => t σ H fun c H1 => if c = true then Q true H1 else u σ H1 Q
def tNot (t : TT) : TT := fun σ H Q => t σ H fun c H1 => Q (!c) H1
theorem pw_and1 (ha : PT X a tA) : PW X (.BoolOp .And [a] pos) tA := by
  intro wh pins s σ H Q I h
  refine isTrue_and (thn (ha pins s σ H Q I h) fun c s1 e => ?_)
  cases c with
  | true => exact isTrue_and_nil e
  | false => exact e
theorem pw_or1 (ha : PT X a tA) : PW X (.BoolOp .Or [a] pos) tA := by
  intro wh pins s σ H Q I h
  refine isTrue_or (thn (ha pins s σ H Q I h) fun c s1 e => ?_)
  cases c with
  | false => exact isTrue_or_nil e
  | true => exact e
theorem pw_and (ha : PT X a tA) (hb : PW X (.BoolOp .And (b :: rest) pos) tB') : PW X (.BoolOp .And (a :: b :: rest) pos) (tAnd tA tB') := by
  intro wh pins s σ H Q I h
  refine isTrue_and (thn (ha pins s σ H _ I h) fun c s1 ⟨H1, I1, q1⟩ => ?_)
  cases c with
  | true => exact hb wh pins s1 σ H1 Q I1 q1
  | false => exact ⟨H1, I1, q1⟩
theorem pw_or (ha : PT X a tA) (hb : PW X (.BoolOp .Or (b :: rest) pos) tB') : PW X (.BoolOp .Or (a :: b :: rest) pos) (tOr tA tB') := by
  intro wh pins s σ H Q I h
  refine isTrue_or (thn (ha pins s σ H _ I h) fun c s1 ⟨H1, I1, q1⟩ => ?_)
  cases c with
  | true => exact ⟨H1, I1, q1⟩
  | false => exact hb wh pins s1 σ H1 Q I1 q1
theorem pt_not (ha : PT X a tA) : PT X (.UnaryOp .Not a pos) (tNot tA) := by
  intro pins s σ H Q I h
  exact isTrue_not (ha pins s σ H (fun c H1 => Q (!c) H1) I h)
def tAndV (ta tb : TE) : TE := fun σ H Q => ta σ H fun x H1 => ∃ c, x = .bl c ∧ if c = true then tb σ H1 Q else Q (.bl false) H1
def tNotV (ta : TE) : TE := fun σ H Q => ta σ H fun x H1 => ∃ c, x = .bl c ∧ Q (.bl (!c)) H1
theorem pe_one {op} {t : TE} (h : PE X a t) : PE X (.BoolOp op [a] pos) t := fun pins s σ H Q I hw => BoolOp_one (h pins s σ H Q I hw)
theorem pe_and (ha : PE X a ta) (hb : PE X (.BoolOp .And (b :: rest) pos) tb) : PE X (.BoolOp .And (a :: b :: rest) pos) (tAndV ta tb) := by
  intro pins s σ H Q I h
  refine BoolOp_and (thn (ha pins s σ H _ I h) fun v s1 ⟨x, H1, I1, r1, q1⟩ => ?_)
  obtain ⟨c, rfl, q1⟩ := q1
  cases r1
  refine wpAny_truthy_bool ?_
  cases c with
  | true => exact hb pins s1 σ H1 Q I1 q1
  | false => exact ⟨.bl false, H1, I1, rfl, q1⟩
theorem pe_not (ha : PE X a ta) : PE X (.UnaryOp .Not a pos) (tNotV ta) := by
  intro pins s σ H Q I h
  refine UnaryOp_ (thn (ha pins s σ H _ I h) fun v s1 ⟨x, H1, I1, r1, q1⟩ => ?_)
  obtain ⟨c, rfl, q1⟩ := q1
  cases r1
  exact not_of (wpAny_truthy_bool ⟨.bl (!c), H1, I1, rfl, q1⟩)
def tIf (t : TT) (ta tb : TE) : TE := fun σ H Q => t σ H fun c H1 => if c = true then ta σ H1 Q else tb σ H1 Q
theorem pe_ifExp {c : Expr} (hc : PT X c tA) (ha : PE X a ta) (hb : PE X b tb) : PE X (.IfExp c a b pos) (tIf tA ta tb) := by
  intro pins s σ H Q I h
  refine wpAny_IfExp (thn (hc pins s σ H _ I h) fun d s1 ⟨H1, I1, q1⟩ => ?_)
  cases d with
  | true => exact ha pins s1 σ H1 Q I1 q1
  | false => exact hb pins s1 σ H1 Q I1 q1
end
end L2
namespace L2
open PySem PySem.Spec PyProof.Rows
def SqL (K : PySem.W.Frag) (H : Hp) (a : Addr) (xs : List V) : Prop :=
  Rd H a (.lst xs) ∨
    ∃ (o : Obj) (its : Array Value) (n : Nat), K.lookup a = some o ∧ o.cls = .type "list" ∧ o.dict = none ∧ o.data = .seq its n ∧ its.size ≤ sizeLine ∧ Vals xs its.toList
def SqT (K : PySem.W.Frag) (H : Hp) (a : Addr) (xs : List V) : Prop :=
  Rd H a (.tup xs) ∨
    ∃ (o : Obj) (its : Array Value) (n : Nat), K.lookup a = some o ∧ o.cls = .type "tuple" ∧ o.data = .seq its n ∧ its.size ≤ sizeLine ∧ Vals xs its.toList
def absV : Value → Option V
  | .none => some .non
  | .bool b => some (.bl b)
  | .int i _ => some (.int i)
  | .str x _ => some (.str x)
  | .bytes b _ => some (.byt b)
  | .float b _ => some (.flt b)
  | .ref a => some (.ref a)
  | .type n => some (.ty n)
  | _ => none
theorem RelV.abs {x : V} {u : Value} (r : RelV x u) : absV u = some x := by
  cases x with
  | non => cases r; rfl
  | bl _ => cases r; rfl
  | int _ => obtain ⟨t, rfl⟩ := r; rfl
  | str _ => obtain ⟨t, rfl⟩ := r; rfl
  | byt _ => obtain ⟨t, rfl⟩ := r; rfl
  | flt _ => obtain ⟨t, rfl⟩ := r; rfl
  | ref _ => cases r; rfl
  | ty _ => cases r; rfl
theorem RelV.inj {x y : V} {u : Value} (r : RelV x u) (q : RelV y u) : x = y := Option.some.inj (r.abs.symm.trans q.abs)
theorem Vals.inj : ∀ {xs ys : List V} {us : List Value}, Vals xs us → Vals ys us → xs = ys
  | _, _, _, .nil, .nil => rfl
  | _, _, _, .cons r t, .cons r' t' => by rw [r.inj r', Vals.inj t t']
section
variable {X : Cx} {pins : List (Addr × Obj)} {σ : St} {H : Hp} {s : Shared} {a : Addr} {xs ys : List V}
theorem SqL.of {K : PySem.W.Frag} (h : H a = some (.lst xs)) : SqL K H a xs := .inl (.inl h)
theorem SqT.of {K : PySem.W.Frag} (h : H a = some (.tup xs)) : SqT K H a xs := .inl (.inl h)
theorem Inv.list (I : Inv X pins σ H s) (h : SqL X.K H a xs) : ∃ its : List Value, Vals xs its ∧ PlainL s.heap a its.toArray ∧ xs.length ≤ sizeLine := by
  rcases h with h | ⟨o, its, n, hk, hc, hd, hs, hz, r⟩
  · obtain ⟨z, its, n, r, e⟩ := h.ok I.hok
    exact ⟨its, r, ⟨_, n, e, rfl, rfl, rfl⟩, z⟩
  · refine ⟨its.toList, r, ⟨o, n, I.kIn a o hk, hc, hd, by simpa using hs⟩, ?_⟩
    have e := r.length
    simp only [Array.length_toList] at e
    omega
theorem Inv.tuple (I : Inv X pins σ H s) (h : SqT X.K H a xs) : ∃ its : List Value, Vals xs its ∧ IsTup s.heap a its.toArray ∧ xs.length ≤ sizeLine := by
  rcases h with h | ⟨o, its, n, hk, hc, hs, hz, r⟩
  · obtain ⟨z, its, r, p⟩ := h.ok I.hok
    exact ⟨its, r, p, z⟩
  · refine ⟨its.toList, r, ⟨o, I.kIn a o hk, hc, n, by simpa using hs⟩, ?_⟩
    have e := r.length
    simp only [Array.length_toList] at e
    omega
theorem Inv.list_inj (I : Inv X pins σ H s) (h : SqL X.K H a xs) (h' : SqL X.K H a ys) : xs = ys := by
  obtain ⟨its, r, ⟨o, n, e, _, _, d⟩, _⟩ := I.list h
  obtain ⟨its', r', ⟨o', n', e', _, _, d'⟩, _⟩ := I.list h'
  rw [e] at e'; cases e'
  rw [d] at d'
  injection d' with d1 _
  have : its = its' := by simpa using congrArg Array.toList d1
  subst this
  exact r.inj r'
theorem Inv.tuple_inj (I : Inv X pins σ H s) (h : SqT X.K H a xs) (h' : SqT X.K H a ys) : xs = ys := by
  obtain ⟨its, r, ⟨o, e, _, n, d⟩, _⟩ := I.tuple h
  obtain ⟨its', r', ⟨o', e', _, n', d'⟩, _⟩ := I.tuple h'
  rw [e] at e'; cases e'
  rw [d] at d'
  injection d' with d1 _
  have : its = its' := by simpa using congrArg Array.toList d1
  subst this
  exact r.inj r'
end
abbrev Cx.wish (X : Cx) (E : Value → Shared → Prop) : Cx := { X with xe := E }
abbrev Cx.nox (X : Cx) : Cx := X.wish fun _ _ => False
theorem Cx.Ok.wish {X : Cx} (ok : X.Ok) (E : Value → Shared → Prop) : (X.wish E).Ok :=
  ⟨ok.mod, ok.kind, ok.glob, ok.blt, ok.above, ok.inj, ok.has, ok.cab, ok.hd, ok.frames, ok.stk, ok.exf, ok.bs, ok.bsz, ok.noex, ok.exfs, ok.funs, ok.frf⟩
theorem Cx.Ok.unwish {X : Cx} {E : Value → Shared → Prop} (ok : (X.wish E).Ok) : X.Ok :=
  ⟨ok.mod, ok.kind, ok.glob, ok.blt, ok.above, ok.inj, ok.has, ok.cab, ok.hd, ok.frames, ok.stk, ok.exf, ok.bs, ok.bsz, ok.noex, ok.exfs, ok.funs, ok.frf⟩
section
variable {X : Cx} {pins : List (Addr × Obj)} {σ : St} {H : Hp} {s : Shared} {E : Value → Shared → Prop}
theorem Inv.wish (I : Inv X pins σ H s) (E : Value → Shared → Prop) : Inv (X.wish E) pins σ H s := ⟨I.ok.wish E, I.os, I.bare, I.base, I.loc, I.cell, I.free, I.freeC, I.pin, I.hok, I.len⟩
theorem Inv.unwish (I : Inv (X.wish E) pins σ H s) : Inv X pins σ H s := ⟨I.ok.unwish, I.os, I.bare, I.base, I.loc, I.cell, I.free, I.freeC, I.pin, I.hok, I.len⟩
theorem SP.unwish {D : Ends} {f : Flow} {s' : Shared} (h : SP (X.wish E) pins D f s') : SP X pins D f s' := by
  cases f with
  | next => obtain ⟨σ', H', I, q⟩ := h; exact ⟨σ', H', I.unwish, q⟩
  | brk => obtain ⟨σ', H', I, q⟩ := h; exact ⟨σ', H', I.unwish, q⟩
  | cont => obtain ⟨σ', H', I, q⟩ := h; exact ⟨σ', H', I.unwish, q⟩
  | ret u => obtain ⟨v, σ', H', I, r, q⟩ := h; exact ⟨v, σ', H', I.unwish, r, q⟩
theorem PSs.nox {st : List Stmt} {t : TS} (h : PSs X.nox st t) : PSs X st t := fun pins s σ H D I hw =>
  wpAny_mono (h pins s σ H D (I.wish _) hw) (fun _ _ q => q.unwish) fun _ _ z => False.elim z
end
section
variable {X : Cx} {st : Stmt} {rest : List Stmt} {t u : TS} {e : Expr} {te : TE} {pos : Pos}
def tNext : TS := fun D σ H => D.nx σ H
def tSeq (t u : TS) : TS := fun D σ H => t { D with nx := u D } σ H
theorem pss_nil : PSs X [] tNext := fun _ _ σ H _ I h => wpAny_execs_nil ⟨σ, H, I, h⟩
theorem pss_cons (h1 : PS X st t) (h2 : PSs X rest u) : PSs X (st :: rest) (tSeq t u) := by
  intro pins s σ H D I h
  refine wpAny_execs_cons (thn (h1 pins s σ H { D with nx := u D } I h) fun f s1 q => ?_)
  cases f with
  | next =>
    obtain ⟨σ', H', I', q⟩ := q
    exact h2 pins s1 σ' H' D I' q
  | ret v => exact q
  | brk => exact q
  | cont => exact q
theorem pss_one (h1 : PS X st t) : PSs X [st] t := by
  intro pins s σ H D I h
  refine wpAny_execs_cons (thn (h1 pins s σ H D I h) fun f s1 q => ?_)
  cases f with
  | next => exact wpAny_execs_nil q
  | ret v => exact q
  | brk => exact q
  | cont => exact q
theorem Inv.quiet {pins : List (Addr × Obj)} {σ : St} {H : Hp} {s : Shared} (I : Inv X pins σ H s) : interactive X.env = false := by simp [interactive, I.ok.kind]
def tDrop (te : TE) : TS := fun D σ H => te σ H fun _ H1 => D.nx σ H1
theorem ps_expr (he : PE X e te) (hs : swapsWith e none pos.line X.env = pure false := by rfl) : PS X (.Expr e pos) (tDrop te) := by
  intro pins s σ H D I h
  exact wpAny_Expr_any (thn (he pins s σ H _ I h) fun v s1 ⟨x, H1, I1, r1, q1⟩ => ⟨σ, H1, I1, q1⟩) I.quiet hs
def tRet (te : TE) : TS := fun D σ H => te σ H D.rt
theorem ps_ret (he : PE X e te) : PS X (.Return (some e) pos) (tRet te) := by
  intro pins s σ H D I h
  exact wpAny_Return_some (thn (he pins s σ H _ I h) fun v s1 ⟨x, H1, I1, r1, q1⟩ => ⟨x, σ, H1, I1, r1, q1⟩)
def tIfS (c : TT) (t u : TS) : TS := fun D σ H => c σ H fun b H1 => if b = true then t D σ H1 else u D σ H1
theorem ps_if {c : Expr} {a b : List Stmt} {tc : TT} (hc : PT X c tc) (ha : PSs X a t) (hb : PSs X b u) : PS X (.If c a b pos) (tIfS tc t u) := by
  intro pins s σ H D I h
  refine wpAny_If (thn (hc pins s σ H _ I h) fun d s1 ⟨H1, I1, q1⟩ => ?_)
  cases d with
  | true => exact ha pins s1 σ H1 D I1 q1
  | false => exact hb pins s1 σ H1 D I1 q1
def tNever : TS := fun _ _ _ => False
theorem pss_never {sts : List Stmt} : PSs X sts tNever := fun _ _ _ _ _ _ h => h.elim
end
abbrev TG := V → St → Hp → (St → Hp → Prop) → Prop
abbrev TGs := List V → St → Hp → (St → Hp → Prop) → Prop
def PG (X : Cx) (target : Expr) (t : TG) : Prop :=
  ∀ (pins : List (Addr × Obj)) (s : Shared) (σ : St) (H : Hp) (v : V) (u : Value) (Q : St → Hp → Prop), Inv X pins σ H s → RelV v u → t v σ H Q →
    wpAny (model X.prog X.w) X.A (assign target X.env u) (fun _ s' => ∃ σ' H', Inv X pins σ' H' s' ∧ Q σ' H') X.xe s
def PGs (X : Cx) (ts : List Expr) (t : TGs) : Prop :=
  ∀ (pins : List (Addr × Obj)) (s : Shared) (σ : St) (H : Hp) (vs : List V) (us : List Value) (Q : St → Hp → Prop), Inv X pins σ H s → Vals vs us → t vs σ H Q →
    wpAny (model X.prog X.w) X.A (assignInOrder ((assignEach ts X.env).map (·.2)) us) (fun _ s' => ∃ σ' H', Inv X pins σ' H' s' ∧ Q σ' H') X.xe s
abbrev TSet := V → V → V → Hp → (Hp → Prop) → Prop
def PSet (X : Cx) (t : TSet) : Prop :=
  ∀ (pins : List (Addr × Obj)) (s : Shared) (σ : St) (H : Hp) (o i v : V) (ov iv u : Value) (Q : Hp → Prop), Inv X pins σ H s → RelV o ov → RelV i iv → RelV v u → t o i v H Q →
    wpAny (model X.prog X.w) X.A (setItem ov iv u) (fun _ s' => ∃ H', Inv X pins σ H' s' ∧ Q H') X.xe s
section
variable {X : Cx} {pos : Pos}
def gName (i : Nat) : TG := fun v σ H Q => Q (σ.set i (some v)) H
theorem pg_name {i : Nat} {x : Str} (hN : X.N.Nodup) (hi : X.N[i]? = some x) (hx : Loc X.env.scope x) (hf : X.fn x = true ∨ X.env.scope.names.lookup x = some .local := by first | exact .inl rfl | exact .inr rfl | assumption) : PG X (.Name x pos) (gName i) := by
  intro pins s σ H v u Q I r h
  exact wpAny_assign_Name (store_ok I hN hi hx r (fun s' I' => ⟨_, H, I', h⟩) hf)
def gNil : TGs := fun vs σ H Q => vs = [] ∧ Q σ H
def gCons (t : TG) (u : TGs) : TGs := fun vs σ H Q => ∃ v r, vs = v :: r ∧ t v σ H fun σ' H' => u r σ' H' Q
theorem pgs_nil : PGs X [] gNil := by
  intro pins s σ H vs us Q I r h
  obtain ⟨e, h⟩ := h
  subst e
  cases r
  exact assignInOrder_nil ⟨σ, H, I, h⟩
theorem pgs_cons {e : Expr} {es : List Expr} {t : TG} {u : TGs} (h1 : PG X e t) (h2 : PGs X es u)
    (hs : (assignEach (e :: es) X.env).map (·.2) = assign e X.env :: (assignEach es X.env).map (·.2) := by rfl) : PGs X (e :: es) (gCons t u) := by
  intro pins s σ H vs us Q I r h
  obtain ⟨v, vr, e1, h⟩ := h
  subst e1
  cases r with
  | cons r rr =>
    rw [hs]
    refine assignInOrder_cons (thn (h1 pins s σ H _ _ _ I r h) fun _ s1 ⟨σ1, H1, I1, q1⟩ => ?_)
    exact h2 pins s1 σ1 H1 _ _ Q I1 rr q1
def gTup (K : PySem.W.Frag) (n : Nat) (t : TGs) : TG := fun v σ H Q => ∃ a xs, v = .ref a ∧ SqT K H a xs ∧ xs.length = n ∧ t xs σ H Q
theorem pg_tup {es : List Expr} {k : Nat} {t : TGs} {n : Nat} (hc : X.calm = true) (h : PGs X es t)
    (hn : (assignEach es X.env).length = n := by rfl) (hst : (assignEach es X.env).findIdx? (·.1) = none := by rfl) : PG X (.Tuple es k pos) (gTup X.K n t) := by
  intro pins s σ H v u Q I r hw
  obtain ⟨a, xs, e1, hq, hl, hw⟩ := hw
  subst e1
  cases r
  obtain ⟨its, rv, ht, hz⟩ := I.tuple hq
  refine assign_Tuple_tuple (I.ok.hd hc) ht (by simp [hn, ← hl, rv.length]) hst fun h' hx => ?_
  have I1 : Inv X pins σ H { s with heap := h' } := I.kept (t' := s.toks) fun b o e => hx b o (Nat.ne_of_lt (Heap.lt_size e)) e
  exact h pins _ σ H xs _ Q I1 (by simpa using rv) hw
def gSub (to ti : TE) (t : TSet) : TG := fun v σ H Q => to σ H fun o H1 => ti σ H1 fun i H2 => t o i v H2 fun H3 => Q σ H3
theorem pg_sub {o i : Expr} {to ti : TE} {t : TSet} (ho : PE X o to) (hi : PE X i ti) (hs : PSet X t)
    (ha : ∀ v, assign (.Subscript o i pos) X.env v = (do
      let ov ← holding [v] (eval o X.env)
      let iv ← holding [v, ov] (eval i X.env)
      standAt pos
      holding [v, ov, iv] (setItem ov iv v)
      release [v, ov, iv] []) := by intro _; rfl) : PG X (.Subscript o i pos) (gSub to ti t) := by
  intro pins s σ H v u Q I r h
  rw [ha]
  refine wpAny_bind (wpAny_holding (thn (ho pins s σ H _ I h) fun ov s1 ⟨x, H1, I1, r1, q1⟩ => ?_))
  refine wpAny_bind (wpAny_holding (thn (hi pins s1 σ H1 _ I1 q1) fun iv s2 ⟨y, H2, I2, r2, q2⟩ => ?_))
  refine wpAny_bind (wpAny_standAt (wpAny_bind (wpAny_holding (thn (hs pins s2 σ H2 x y v ov iv u _ I2 r1 r2 r q2) fun _ s3 ⟨H3, I3, q3⟩ => ?_))))
  exact wpAny_release ⟨σ, H3, I3, q3⟩
def tAsg (te : TE) (g : TG) : TS := fun D σ H => te σ H fun x H1 => g x σ H1 D.nx
theorem ps_asg {tg e : Expr} {te : TE} {g : TG} (he : PE X e te) (hg : PG X tg g) (hs : swapsWithSole [tg] e pos.line X.env = pure false := by rfl) (hw : swappedStores [tg] e X.env = pure none := by rfl)
    (h1 : (assignEach [tg] X.env).map (·.2) = [assign tg X.env] := by rfl) : PS X (.Assign [tg] e pos) (tAsg te g) := by
  intro pins s σ H D I h
  refine wpAny_Assign_stores (thn (he pins s σ H _ I h) fun v s1 ⟨x, H1, I1, r1, q1⟩ => ?_) hs hw
  rw [h1]
  exact thn (hg pins s1 σ H1 x v _ I1 r1 q1) fun _ s2 q => q
theorem ps_set {i : Nat} {x : Str} {e : Expr} {te : TE} {pos' : Pos} (hN : X.N.Nodup) (hi : X.N[i]? = some x) (hx : Loc X.env.scope x) (he : PE X e te) (hs : swapsWith e (some (.Name x pos')) pos.line X.env = pure false := by rfl) (hf : X.fn x = true ∨ X.env.scope.names.lookup x = some .local := by first | exact .inl rfl | exact .inr rfl | assumption) :
    PS X (.Assign [.Name x pos'] e pos) (tAsg te (gName i)) := by
  intro pins s σ H D I h
  refine wpAny_Assign_Name (thn (he pins s σ H _ I h) fun v s1 ⟨y, H1, I1, r1, q1⟩ => ?_) hs
  exact store_ok I1 hN hi hx r1 (fun s2 I2 => ⟨_, H1, I2, q1⟩) hf
def tPar (i j : Nat) (ta : TA) : TS := fun D σ H => ta σ H fun vs H1 => ∃ v w, vs = [v, w] ∧ D.nx ((σ.set i (some v)).set j (some w)) H1
theorem ps_par {i j : Nat} {x y : Str} {a b : Expr} {ta : TA} {px py pt : Pos} {kt k2 pt2} (hc : X.calm = true) (hN : X.N.Nodup) (hi : X.N[i]? = some x) (hj : X.N[j]? = some y) (hij : i ≠ j)
    (hx : X.env.scope.names.lookup x = some .local) (hy : X.env.scope.names.lookup y = some .local) (ha : PA X [a, b] ta)
    (hw : swappedStores [.Tuple [.Name x px, .Name y py] kt pt] (.Tuple [a, b] k2 pt2) X.env = pure (some [x, y]))
    (hs : swapsWithSole [.Tuple [.Name x px, .Name y py] kt pt] (.Tuple [a, b] k2 pt2) pos.line X.env = pure false := by rfl) :
    PS X (.Assign [.Tuple [.Name x px, .Name y py] kt pt] (.Tuple [a, b] k2 pt2) pos) (tPar i j ta) := by
  intro pins s σ H D I h
  rw [exec_Assign_arm]
  refine wpAny_bind (wpAny_standAt ?_)
  rw [hs]
  refine wpAny_bind (wpAny_pure ?_)
  rw [if_neg (by decide)]
  refine wpAny_bind (Tuple_ (thn (ha _ pins s σ H _ I h) fun us s1 ⟨vs, H1, I1, r1, q1⟩ => ?_))
  obtain ⟨v, w, e1, q1⟩ := q1
  subst e1
  obtain ⟨u1, u2, rfl, rv, rw'⟩ : ∃ u1 u2, us = [u1, u2] ∧ RelV v u1 ∧ RelV w u2 := by
    cases r1 with
    | cons p q =>
      cases q with
      | cons p' q' =>
        cases q'
        exact ⟨_, _, rfl, p, p'⟩
  refine wpAny_newObj_type ?_ (by show 2 ≤ sizeLine; decide)
  have I2 : Inv X pins σ H1 { s1 with heap := s1.heap.push { cls := .type "tuple", data := .seq [u1, u2].toArray } } := I1.kept (t' := s1.toks) fun b o e => Heap.get?_push_of_some _ e
  rw [hw]
  refine wpAny_bind (wpAny_pure ?_)
  show wpAny (model X.prog X.w) X.A (do rule "assign.swapped-stores"; let items ← unpackItems (.ref s1.heap.objs.size) 2 none; assignInOrder [fun v => bindName X.env y v, fun v => bindName X.env x v] items.reverse; pure Flow.next) _ _ _
  refine wpAny_bind (wpAny_rule (wpAny_bind (unpackItems_tuple (items := #[u1, u2]) (I.ok.hd hc) (IsTup.new s1.heap _) fun h' hx' => ?_)))
  have I3 := I2.kept (h' := h') (t' := s1.toks) fun b o e => hx' b o (Nat.ne_of_lt (Heap.lt_size e)) e
  show wpAny _ _ (assignInOrder [fun v => bindName X.env y v, fun v => bindName X.env x v] [u2, u1] >>= fun _ => pure Flow.next) _ _ _
  refine wpAny_bind (assignInOrder_cons (wpAny_bindName (store_ok I3 hN hj (.inl hy) rw' (fun s2 I4 => ?_) (.inr hy))))
  refine assignInOrder_cons (wpAny_bindName (store_ok I4 hN hi (.inl hx) rv (fun s3 I5 => assignInOrder_nil (wpAny_pure ?_)) (.inr hx)))
  rw [List.set_comm _ _ (Ne.symm hij)] at I5
  exact ⟨_, H1, I5, q1⟩
end
section
variable {X : Cx} {pos : Pos}
def tWhile (c : TT) (tb : TS) : TS := fun D σ H => ∃ W : Nat → St → Hp → Prop, (∃ m, W m σ H) ∧ ∀ m σ H, W m σ H →
  c σ H fun b H1 => if b = true then ∃ N : St → Hp → Prop, (∀ σ' H', N σ' H' → ∃ m', m' < m ∧ W m' σ' H') ∧ tb { D with nx := N, ct := N, bk := D.nx } σ H1 else D.nx σ H1
theorem ps_while {c : Expr} {body : List Stmt} {tc : TT} {tb : TS} (hp : PassesOwn (model X.prog X.w) X.A X.env X.xe) (hc : PT X c tc) (hb : PSs X body tb) : PS X (.While c body [] pos) (tWhile tc tb) := by
  intro pins s σ H D I h
  obtain ⟨W, ⟨m0, w0⟩, turn⟩ := h
  refine wpAny_While (codeAny_whileLoop (fun n s' => ∃ σ' H', Inv X pins σ' H' s' ∧ W n σ' H') ?_ m0 ⟨σ, H, I, w0⟩)
  rintro n s1 ⟨σ1, H1, I1, w1⟩
  refine wpAny_passesOwn hp (thn (hc pins s1 σ1 H1 _ I1 (turn n σ1 H1 w1)) fun b s2 ⟨H2, I2, q2⟩ => ?_)
  cases b with
  | true =>
    obtain ⟨N, hN, q2⟩ := q2
    rw [if_pos rfl]
    refine wpAny_passesOwn hp (thn (hb pins s2 σ1 H2 _ I2 q2) fun f s3 q3 => ?_)
    cases f with
    | next =>
      obtain ⟨σ3, H3, I3, n3⟩ := q3
      obtain ⟨m', hm, w3⟩ := hN σ3 H3 n3
      exact ⟨m', hm, σ3, H3, I3, w3⟩
    | cont =>
      obtain ⟨σ3, H3, I3, n3⟩ := q3
      obtain ⟨m', hm, w3⟩ := hN σ3 H3 n3
      exact ⟨m', hm, σ3, H3, I3, w3⟩
    | brk => exact q3
    | ret v => exact q3
  | false =>
    rw [if_neg Bool.false_ne_true]
    exact wpAny_execs_nil ⟨σ1, H2, I2, q2⟩
end
structure It where
  go : Nat → Hp → Prop
  yld : Nat → Hp → V → Hp → Prop
  stop : Nat → Hp → Prop
def FpOk (X : Cx) (pins : List (Addr × Obj)) (H : Hp) (b : Addr) : Prop :=
  H b = none ∧ b ≠ X.env.locals ∧ b ∉ X.fs ∧ (b ∈ X.ex ∨ X.s₀.heap.objs.size ≤ b) ∧ (∀ x c, X.env.cells.lookup x = some c → c ≠ b) ∧ ∀ p ∈ X.pn ++ pins, p.1 ≠ b
theorem Inv.fpOk {X : Cx} {pins : List (Addr × Obj)} {σ : St} {H H' : Hp} {s : Shared} {b : Addr} (I : Inv X pins σ H s) (hb : s.heap.objs.size ≤ b) (hn : H' b = none) : FpOk X pins H' b := by
  refine ⟨hn, Nat.ne_of_gt (Nat.lt_of_lt_of_le I.lt hb), I.nofs hb, .inr (Nat.le_trans I.sz hb), fun x c e z => ?_, fun p hp z => ?_⟩
  · obtain ⟨v, q⟩ := I.cell x c e
    exact absurd (Nat.lt_of_lt_of_le q.lt (by rw [z]; exact hb)) (Nat.lt_irrefl _)
  · exact absurd (Nat.lt_of_lt_of_le (Heap.lt_size (I.pin p hp).1) (by rw [z]; exact hb)) (Nat.lt_irrefl _)
structure Turn (P : Program) (w : World) (K : PySem.W.Frag) (tg : Expr) (J : It) (fp : List Addr) (it : Addr) (tn : Nat → Heap → Prop) : Prop where
  mem : it ∈ fp
  obj : ∀ i h, tn i h → ∀ b ∈ fp, ∃ o, h.get? b = some o ∧ ∀ v, o.data ≠ .cell v
  keep : ∀ i h h', tn i h → (∀ b ∈ fp, ∀ o, h.get? b = some o → h'.get? b = some o) → tn i h'
  item : ∀ (X : Cx), X.prog = P → X.w = w → X.K = K → X.calm = true → ∀ (i : Nat) (pins : List (Addr × Obj)) (s : Shared) (σ : St) (H : Hp) (E : Value → Shared → Prop), Inv X pins σ H s → (∀ b ∈ fp, FpOk X pins H b) → tn i s.heap → J.go i H →
    wpAny (model P w) X.A (pyNext (.ref it)) (fun r s1 => ∃ u, r = some u ∧
      wpAny (model P w) X.A (letOwnedTupleGo tg (.ref it) u) (fun _ s2 => ∃ x H', Inv X pins σ H' s2 ∧ RelV x u ∧ J.yld i H x H' ∧ tn (i + 1) s2.heap ∧ ∀ b ∈ fp, H' b = none) E s1) E s
  done : ∀ (X : Cx), X.prog = P → X.w = w → X.K = K → X.calm = true → ∀ (i : Nat) (pins : List (Addr × Obj)) (s : Shared) (σ : St) (H : Hp) (E : Value → Shared → Prop), Inv X pins σ H s → (∀ b ∈ fp, FpOk X pins H b) → tn i s.heap → J.stop i H →
    wpAny (model P w) X.A (pyNext (.ref it)) (fun r s1 => r = none ∧ Inv X pins σ H s1) E s
  self : ∀ (A : Around) (i : Nat) (s : Shared) (Q : Value → Shared → Prop) (E : Value → Shared → Prop), tn i s.heap → Q (.ref it) s → wpAny (model P w) A (pyIter (.ref it)) Q E s
abbrev TI := St → Hp → (It → Hp → Prop) → Prop
def PIE (X : Cx) (pins : List (Addr × Obj)) (σ : St) (tg : Expr) (R : It → Hp → Prop) (itv : Value) (s2 : Shared) : Prop :=
  ∃ (it : Addr) (fp : List Addr) (tn : Nat → Heap → Prop) (J : It) (H' : Hp), itv = .ref it ∧ Inv X pins σ H' s2 ∧ Turn X.prog X.w X.K tg J fp it tn ∧ tn 0 s2.heap ∧ (∀ b ∈ fp, FpOk X pins H' b) ∧ R J H'
def PI (X : Cx) (tg iter : Expr) (wi : TI) : Prop :=
  ∀ (pins : List (Addr × Obj)) (s : Shared) (σ : St) (H : Hp) (R : It → Hp → Prop), Inv X pins σ H s → wi σ H R →
    wpAny (model X.prog X.w) X.A (eval iter X.env) (fun v s1 => wpAny (model X.prog X.w) X.A (pyIter v) (PIE X pins σ tg R) X.xe s1) X.xe s
theorem go_of {M : Model} {A : Around} {E : Value → Shared → Prop} {s : Shared} {tg : Expr} {it : Addr} {u : Value} {o : Obj} {n : String} {vs : Array Value} {Q : Unit → Shared → Prop} (ho : s.heap.get? it = some o) (hc : o.cls = .type n) (hd : o.data = .fields vs)
    (hn : ["enumerate", "zip", "dict_itemiterator", "dict_reverseitemiterator", "odict_iterator", "itertools.zip_longest", "itertools.pairwise"].contains n = false) (hQ : Q () s) : wpAny M A (letOwnedTupleGo tg (.ref it) u) Q E s := by
  unfold letOwnedTupleGo
  cases tg <;> first
    | exact wpAny_pure hQ
    | (cases u <;> first
        | exact wpAny_pure hQ
        | (refine wpAny_bind (wpAny_load ho ?_)
           rw [hc, hd]
           show wpAny M A (if (["enumerate", "zip", "dict_itemiterator", "dict_reverseitemiterator", "odict_iterator", "itertools.zip_longest", "itertools.pairwise"].contains n && vs[0]? == some (rawInt _)) = true then _ else _) Q E s
           rw [if_neg (by intro h; rw [hn, Bool.false_and] at h; cases h)]
           exact wpAny_pure hQ))
def Itl (K : PySem.W.Frag) (a : Addr) : It :=
  ⟨fun i H => ∃ xs x, SqL K H a xs ∧ xs[i]? = some x, fun i H x H' => H' = H ∧ ∀ xs, SqL K H a xs → xs[i]? = some x, fun i H => ∃ xs, SqL K H a xs ∧ xs.length ≤ i⟩
def Itt (K : PySem.W.Frag) (a : Addr) : It :=
  ⟨fun i H => ∃ xs x, SqT K H a xs ∧ xs[i]? = some x, fun i H x H' => H' = H ∧ ∀ xs, SqT K H a xs → xs[i]? = some x, fun i H => ∃ xs, SqT K H a xs ∧ xs.length ≤ i⟩
def Itr (lo : Int) (n : Nat) : It := ⟨fun i _ => i < n, fun i H x H' => H' = H ∧ x = .int (lo + i), fun i _ => n ≤ i⟩
theorem turn_list {P : Program} {w : World} {K : PySem.W.Frag} {tg : Expr} (a it : Addr) : Turn P w K tg (Itl K a) [it] it (fun i h => h.IsListIter it a i) where
  mem := by simp
  obj := fun i h st b hb => by
    have e : b = it := by simpa using hb
    subst e
    obtain ⟨o, e, c, d⟩ := st
    exact ⟨o, e, fun v z => by rw [d] at z; cases z⟩
  keep := fun i h h' st k => st.at fun o e => k it (by simp) o e
  item := by
    intro X hP hw hK hc i pins s σ H E I hf st hg
    subst hP hw hK
    obtain ⟨xs, x, hq, hx⟩ := hg
    obtain ⟨its, rv, p, hz⟩ := I.list hq
    obtain ⟨u, hu, ru⟩ := rv.get hx
    obtain ⟨f0, f1, f2, f3, f4, f5⟩ := hf it (by simp)
    refine wpAny_pyNext_list_item st p.isList (x := u) (by simpa using hu) fun h' st' sb => ?_
    have I1 : Inv X pins σ H { s with heap := h' } := I.turned (t' := s.toks) (fun b o hb e => (sb.2 b hb).trans e) f0 f1 f3 f4 f5
    obtain ⟨o, e, c, d⟩ := id st'
    exact ⟨u, rfl, go_of (s := { s with heap := h' }) e c d (by decide) ⟨x, H, I1, ru, ⟨rfl, fun ys hy => by rw [I.list_inj hy hq]; exact hx⟩, st', fun b hb => (hf b hb).1⟩⟩
  done := by
    intro X hP hw hK hc i pins s σ H E I hf st hg
    subst hP hw hK
    obtain ⟨xs, hq, hx⟩ := hg
    obtain ⟨its, rv, p, hz⟩ := I.list hq
    obtain ⟨f0, f1, f2, f3, f4, f5⟩ := hf it (by simp)
    have hl := rv.length
    exact wpAny_pyNext_list_end (I.ok.hd hc) st p.isList (by simp; omega) fun h' eb => ⟨rfl, I.turned (t' := s.toks) (fun b o hb e => eb b o hb e) f0 f1 f3 f4 f5⟩
  self := fun _ _ _ _ _ st h => wpAny_pyIter_listiter st h
theorem turn_tuple {P : Program} {w : World} {K : PySem.W.Frag} {tg : Expr} (a it : Addr) : Turn P w K tg (Itt K a) [it] it (fun i h => h.IsTupleIter it a i) where
  mem := by simp
  obj := fun i h st b hb => by
    have e : b = it := by simpa using hb
    subst e
    obtain ⟨o, e, c, d⟩ := st
    exact ⟨o, e, fun v z => by rw [d] at z; cases z⟩
  keep := fun i h h' st k => st.at fun o e => k it (by simp) o e
  item := by
    intro X hP hw hK hc i pins s σ H E I hf st hg
    subst hP hw hK
    obtain ⟨xs, x, hq, hx⟩ := hg
    obtain ⟨its, rv, p, hz⟩ := I.tuple hq
    obtain ⟨u, hu, ru⟩ := rv.get hx
    obtain ⟨f0, f1, f2, f3, f4, f5⟩ := hf it (by simp)
    refine wpAny_pyNext_tuple_item st (show s.heap.IsTuple a its.toArray from p) (x := u) (by simpa using hu) fun h' st' sb => ?_
    have I1 : Inv X pins σ H { s with heap := h' } := I.turned (t' := s.toks) (fun b o hb e => (sb.2 b hb).trans e) f0 f1 f3 f4 f5
    obtain ⟨o, e, c, d⟩ := id st'
    exact ⟨u, rfl, go_of (s := { s with heap := h' }) e c d (by decide) ⟨x, H, I1, ru, ⟨rfl, fun ys hy => by rw [I.tuple_inj hy hq]; exact hx⟩, st', fun b hb => (hf b hb).1⟩⟩
  done := by
    intro X hP hw hK hc i pins s σ H E I hf st hg
    subst hP hw hK
    obtain ⟨xs, hq, hx⟩ := hg
    obtain ⟨its, rv, p, hz⟩ := I.tuple hq
    obtain ⟨f0, f1, f2, f3, f4, f5⟩ := hf it (by simp)
    have hl := rv.length
    exact wpAny_pyNext_tuple_end (I.ok.hd hc) st (show s.heap.IsTuple a its.toArray from p) (by simp; omega) fun h' eb => ⟨rfl, I.turned (t' := s.toks) (fun b o hb e => eb b o hb e) f0 f1 f3 f4 f5⟩
  self := fun _ _ _ _ _ st h => wpAny_pyIter_tupleiter st h
theorem turn_range {P : Program} {w : World} {K : PySem.W.Frag} {tg : Expr} (it : Addr) (lo : Int) (n : Nat) : Turn P w K tg (Itr lo n) [it] it (fun i h => IsRangeIter h it (lo + (i : Nat) * 1) ((n : Int) - (i : Nat)) 1) where
  mem := by simp
  obj := fun i h st b hb => by
    have e : b = it := by simpa using hb
    subst e
    exact ⟨_, st, fun v z => by
      have z' : Data.fields _ = Data.cell v := z
      cases z'⟩
  keep := fun i h h' st k => k it (by simp) _ st
  item := by
    intro X hP hw hK hc i pins s σ H E I hf st hg
    subst hP hw hK
    obtain ⟨f0, f1, f2, f3, f4, f5⟩ := hf it (by simp)
    have W := Walks.range (prog := X.prog) (w := X.w) (I.ok.hd hc) it lo 1 n
    refine W.item i s _ _ hg st fun v h' tk hv st' kk => ?_
    obtain ⟨t, rfl⟩ := hv
    have I1 : Inv X pins σ H { s with heap := h', toks := tk } := I.turned (fun b o hb e => kk b o (by simpa using hb) e) f0 f1 f3 f4 f5
    refine ⟨_, rfl, go_of (s := { s with heap := h', toks := tk }) (n := "range_iterator") st' rfl rfl (by decide) ⟨.int (lo + i), H, I1, ⟨t, ?_⟩, ⟨rfl, rfl⟩, st', fun b hb => (hf b hb).1⟩⟩
    rw [Int.mul_one]
  done := by
    intro X hP hw hK hc i pins s σ H E I hf st hg
    subst hP hw hK
    obtain ⟨f0, f1, f2, f3, f4, f5⟩ := hf it (by simp)
    exact wpAny_pyNext_range_end (I.ok.hd hc) st (by have : n ≤ i := hg; omega) fun h' eb => ⟨rfl, I.turned (t' := s.toks) (fun b o hb e => eb b o hb e) f0 f1 f3 f4 f5⟩
  self := fun _ _ _ _ _ st h => wpAny_pyIter_rangeiter st h
end L2
namespace L2
open PySem PySem.Spec PyProof.Rows
section
variable {X : Cx} {tg : Expr}
def iList (K : PySem.W.Frag) (tl : TE) : TI := fun σ H R => tl σ H fun x H1 => ∃ a, x = .ref a ∧ (∃ xs, SqL K H1 a xs) ∧ R (Itl K a) H1
def iTup (K : PySem.W.Frag) (tl : TE) : TI := fun σ H R => tl σ H fun x H1 => ∃ a, x = .ref a ∧ (∃ xs, SqT K H1 a xs) ∧ R (Itt K a) H1
theorem pi_list {l : Expr} {tl : TE} (hl : PE X l tl) : PI X tg l (iList X.K tl) := by
  intro pins s σ H R I h
  refine thn (hl pins s σ H _ I h) fun v s1 ⟨x, H1, I1, r1, q1⟩ => ?_
  obtain ⟨a, e, ⟨xs, hq⟩, q⟩ := q1
  subst e
  cases r1
  obtain ⟨its, rv, p, hz⟩ := I1.list hq
  refine wpAny_pyIter_list p.isList ?_
  refine ⟨s1.heap.objs.size, [s1.heap.objs.size], _, _, H1, rfl, I1.kept (t' := s1.toks) fun b o e => Heap.get?_push_of_some _ e, turn_list a _, ⟨_, Heap.get?_push_size _ rfl, rfl, rfl⟩, fun b hb => ?_, q⟩
  have e : b = s1.heap.objs.size := by simpa using hb
  subst e
  exact I1.fpOk (Nat.le_refl _) (I1.hok.fresh (Nat.le_refl _))
theorem pi_tup {l : Expr} {tl : TE} (hl : PE X l tl) : PI X tg l (iTup X.K tl) := by
  intro pins s σ H R I h
  refine thn (hl pins s σ H _ I h) fun v s1 ⟨x, H1, I1, r1, q1⟩ => ?_
  obtain ⟨a, e, ⟨xs, hq⟩, q⟩ := q1
  subst e
  cases r1
  obtain ⟨its, rv, p, hz⟩ := I1.tuple hq
  refine wpAny_pyIter_tuple (show s1.heap.IsTuple a its.toArray from p) ?_
  refine ⟨s1.heap.objs.size, [s1.heap.objs.size], _, _, H1, rfl, I1.kept (t' := s1.toks) fun b o e => Heap.get?_push_of_some _ e, turn_tuple a _, ⟨_, Heap.get?_push_size _ rfl, rfl, rfl⟩, fun b hb => ?_, q⟩
  have e : b = s1.heap.objs.size := by simpa using hb
  subst e
  exact I1.fpOk (Nat.le_refl _) (I1.hok.fresh (Nat.le_refl _))
theorem range_it {pins : List (Addr × Obj)} {σ : St} {H : Hp} {s : Shared} {R : It → Hp → Prop} {E : Value → Shared → Prop} {lo hi : Int} {t u v : Tok} {tk : Nat} (I : Inv X pins σ H s) (h1 : -(2 ^ 62) ≤ lo) (h2 : lo < 2 ^ 62) (h3 : -(2 ^ 62) ≤ hi) (h4 : hi < 2 ^ 62)
    (q : R (Itr lo (hi - lo).toNat) H) : wpAny (model X.prog X.w) X.A (pyIter (.ref s.heap.objs.size)) (PIE X pins σ tg R) E { s with heap := s.heap.push { cls := .type "range", data := .fields #[.int lo t, .int hi u, .int 1 v] }, toks := tk } := by
  refine wpAny_pyIter_range (IsRange.new ..) (small_one h1 h2 h3 h4) ?_
  have I1 : Inv X pins σ H { s with heap := s.heap.push { cls := .type "range", data := .fields #[.int lo t, .int hi u, .int 1 v] }, toks := tk } := I.kept fun b o e => Heap.get?_push_of_some _ e
  refine ⟨(s.heap.push { cls := .type "range", data := .fields #[.int lo t, .int hi u, .int 1 v] }).objs.size, [(s.heap.push { cls := .type "range", data := .fields #[.int lo t, .int hi u, .int 1 v] }).objs.size], _, _, H, rfl,
    I1.kept (t' := tk) fun b o e => Heap.get?_push_of_some _ e, turn_range _ lo (hi - lo).toNat, ?_, fun b hb => ?_, q⟩
  · have e1 : lo + ((0 : Nat) : Int) * 1 = lo := by simp
    have e2 : (((hi - lo).toNat : Nat) : Int) - ((0 : Nat) : Int) = Builtin.Range.rangeSize lo hi 1 := by rw [rangeSize_one]; split <;> omega
    show IsRangeIter _ _ (lo + ((0 : Nat) : Int) * 1) ((((hi - lo).toNat : Nat) : Int) - ((0 : Nat) : Int)) 1
    rw [e1, e2]
    exact Heap.get?_push_size _ rfl
  · have e : b = (s.heap.push { cls := .type "range", data := .fields #[.int lo t, .int hi u, .int 1 v] }).objs.size := by simpa using hb
    subst e
    exact I1.fpOk (Nat.le_refl _) (I1.hok.fresh (Nat.le_refl _))
def iRng1 (ta : TA) : TI := fun σ H R => ta σ H fun vs H1 => ∃ j : Int, vs = [.int j] ∧ -(2 ^ 62) ≤ j ∧ j < 2 ^ 62 ∧ R (Itr 0 j.toNat) H1
theorem pi_range1 {a : Expr} {ta : TA} {p pos : Pos} (hg : Gl X "range") (hm : X.mg "range" = none) (ha : PA X [a] ta) (hs : starEach [a] X.env = [(false, eval a X.env)] := by rfl) : PI X tg (.Call (.Name "range" p) [a] [] pos) (iRng1 ta) := by
  intro pins s σ H R I h
  refine Call_ (ld_blt I hg hm boot_range (PyProof.Rows.callWith_type1 (thn (ha pos pins s σ H _ I h) fun us s1 ⟨vs, H1, I1, r1, q1⟩ => ?_) hs rfl))
  obtain ⟨j, e, q1, q2, q⟩ := q1
  subst e
  cases r1 with
  | cons r rr =>
    cases rr
    obtain ⟨t, rfl⟩ := r
    exact call_range_1 (range_it I1 (by omega) (by omega) q1 q2 (by simpa using q))
def tFor (wi : TI) (g : TG) (tb : TS) : TS := fun D σ H => wi σ H fun J H1 => ∃ W : Nat → Nat → St → Hp → Prop, (∃ m, W 0 m σ H1) ∧ ∀ i m σ H, W i m σ H →
  (J.stop i H ∧ D.nx σ H) ∨ (J.go i H ∧ ∃ N : St → Hp → Prop, (∀ σ' H', N σ' H' → ∃ m', m' < m ∧ W (i + 1) m' σ' H') ∧ ∀ x H', J.yld i H x H' → g x σ H' fun σ2 H2 => tb { D with nx := N, ct := N, bk := D.nx } σ2 H2)
def pinsAt (fp : List Addr) (h : Heap) : List (Addr × Obj) := fp.filterMap fun b => (h.get? b).map fun o => (b, o)
theorem mem_pinsAt {fp : List Addr} {h : Heap} {b : Addr} {o : Obj} (hb : b ∈ fp) (e : h.get? b = some o) : (b, o) ∈ pinsAt fp h := List.mem_filterMap.mpr ⟨b, hb, by rw [e]; rfl⟩
theorem of_pinsAt {fp : List Addr} {h : Heap} {p : Addr × Obj} (hp : p ∈ pinsAt fp h) : p.1 ∈ fp ∧ h.get? p.1 = some p.2 := by
  obtain ⟨b, hb, e⟩ := List.mem_filterMap.mp hp
  cases q : h.get? b with
  | none => rw [q] at e; cases e
  | some o =>
    rw [q] at e
    have e' : (b, o) = p := Option.some.inj e
    subst e'
    exact ⟨hb, q⟩
theorem Inv.pinned {pins : List (Addr × Obj)} {σ : St} {H : Hp} {s : Shared} {fp : List Addr} (I : Inv X pins σ H s) (hf : ∀ b ∈ fp, FpOk X pins H b) (ho : ∀ b ∈ fp, ∃ o, s.heap.get? b = some o ∧ ∀ v, o.data ≠ .cell v) : Inv X (pins ++ pinsAt fp s.heap) σ H s :=
  I.pins_of fun p hp => (List.mem_append.mp hp).elim (fun z => I.pin p (List.mem_append_right _ z)) fun z => by
    obtain ⟨hb, e⟩ := of_pinsAt z
    obtain ⟨f0, f1, f2, _⟩ := hf p.1 hb
    obtain ⟨o, e', d⟩ := ho p.1 hb
    rw [e] at e'; cases e'
    exact ⟨e, f0, f1, f2, d⟩
theorem Inv.unpinned {pins pl : List (Addr × Obj)} {σ : St} {H : Hp} {s : Shared} (I : Inv X (pins ++ pl) σ H s) : Inv X pins σ H s := I.pins_of fun p hp => I.pin p (List.mem_append_right _ (List.mem_append_left _ hp))
theorem ps_for {iter : Expr} {body : List Stmt} {wi : TI} {g : TG} {tb : TS} {pos : Pos} (hp : PassesOwn (model X.prog X.w) X.A X.env X.xe) (hc : X.calm = true) (hi : PI X tg iter wi) (hg : PG X tg g) (hb : PSs X body tb)
    (hs : ∀ x, foldedSetIterable iter X.env x = pure x := by intro _; rfl) : PS X (.For tg iter body [] pos) (tFor wi g tb) := by
  intro pins s σ H D I h
  refine wpAny_For (thn (hi pins s σ H _ I h) fun v s1 h1 => thn h1 fun itv s2 h2 => ?_) hs
  obtain ⟨it, fp, tn, J, H2, e, I2, T, st2, f2, W, ⟨m0, w0⟩, turn⟩ := h2
  subst e
  have stat : ∀ {H' : Hp}, (∀ b ∈ fp, H' b = none) → ∀ b ∈ fp, FpOk X pins H' b := fun hn b hb => ⟨hn b hb, (f2 b hb).2⟩
  refine codeAny_forLoop_any (fun n s' => ∃ i σ' H', Inv X pins σ' H' s' ∧ tn i s'.heap ∧ (∀ b ∈ fp, H' b = none) ∧ W i n σ' H') ?_ m0 ⟨0, σ, H2, I2, st2, fun b hb => (f2 b hb).1, w0⟩
  rintro n s3 ⟨i, σ3, H3, I3, st3, fr3, w3⟩
  rcases turn i n σ3 H3 w3 with ⟨stop, qn⟩ | ⟨go, N, hN, step⟩
  · refine wpAny_passesOwn hp (thn (T.done X rfl rfl rfl hc i pins s3 σ3 H3 X.xe I3 (stat fr3) st3 stop) fun r s4 ⟨hr, I4⟩ => ?_)
    subst hr
    exact wpAny_execs_nil ⟨σ3, H3, I4, qn⟩
  · refine wpAny_passesOwn hp (thn (T.item X rfl rfl rfl hc i pins s3 σ3 H3 X.xe I3 (stat fr3) st3 go) fun r s4 ⟨u, hr, h4⟩ => ?_)
    subst hr
    refine wpAny_passesOwn hp (thn h4 fun _ s5 ⟨x, H5, I5, r5, y5, st5, fr5⟩ => ?_)
    have I5' := I5.pinned (stat fr5) (T.obj _ _ st5)
    refine wpAny_passesOwn hp (thn (hg _ s5 σ3 H5 x u _ I5' r5 (step x H5 y5)) fun _ s6 ⟨σ6, H6, I6, q6⟩ => ?_)
    refine wpAny_passesOwn hp (thn (hb _ s6 σ6 H6 _ I6 q6) fun f s7 q7 => ?_)
    have again : ∀ {σ7 : St} {H7 : Hp}, Inv X (pins ++ pinsAt fp s5.heap) σ7 H7 s7 → N σ7 H7 → ∃ m, m < n ∧ ∃ i σ' H', Inv X pins σ' H' s7 ∧ tn i s7.heap ∧ (∀ b ∈ fp, H' b = none) ∧ W i m σ' H' := fun {σ7 H7} I7 n7 => by
      obtain ⟨m', hm, w7⟩ := hN σ7 H7 n7
      refine ⟨m', hm, i + 1, σ7, H7, I7.unpinned, T.keep _ _ _ st5 fun b hb o e => (I7.pin (b, o) (List.mem_append_right _ (List.mem_append_right _ (mem_pinsAt hb e)))).1, fun b hb => ?_, w7⟩
      obtain ⟨o, e, d⟩ := T.obj _ _ st5 b hb
      exact (I7.pin (b, o) (List.mem_append_right _ (List.mem_append_right _ (mem_pinsAt hb e)))).2.1
    cases f with
    | next => obtain ⟨σ7, H7, I7, n7⟩ := q7; exact again I7 n7
    | cont => obtain ⟨σ7, H7, I7, n7⟩ := q7; exact again I7 n7
    | brk => obtain ⟨σ7, H7, I7, q7⟩ := q7; exact ⟨σ7, H7, I7.unpinned, q7⟩
    | ret v => obtain ⟨x7, σ7, H7, I7, r7, q7⟩ := q7; exact ⟨x7, σ7, H7, I7.unpinned, r7, q7⟩
end
theorem for_list {K : PySem.W.Frag} {a : Addr} {xs : List V} {g : TG} {tb : TS} {D : Ends} {σ : St} {H : Hp} (Pv : Nat → St → Hp → Prop) (h0 : Pv 0 σ H) (hl : ∀ i σ H, i ≤ xs.length → Pv i σ H → SqL K H a xs)
    (hs : ∀ i x σ H, xs[i]? = some x → Pv i σ H → g x σ H fun σ2 H2 => tb { D with nx := Pv (i + 1), ct := Pv (i + 1), bk := D.nx } σ2 H2) (hd : ∀ σ H, Pv xs.length σ H → D.nx σ H) :
    ∃ W : Nat → Nat → St → Hp → Prop, (∃ m, W 0 m σ H) ∧ ∀ i m σ H, W i m σ H →
      ((Itl K a).stop i H ∧ D.nx σ H) ∨ ((Itl K a).go i H ∧ ∃ N : St → Hp → Prop, (∀ σ' H', N σ' H' → ∃ m', m' < m ∧ W (i + 1) m' σ' H') ∧ ∀ x H', (Itl K a).yld i H x H' → g x σ H' fun σ2 H2 => tb { D with nx := N, ct := N, bk := D.nx } σ2 H2) := by
  refine ⟨fun i m σ H => m = xs.length - i ∧ i ≤ xs.length ∧ Pv i σ H, ⟨xs.length, by simp, Nat.zero_le _, h0⟩, ?_⟩
  rintro i m σ H ⟨rfl, hi, p⟩
  have q := hl i σ H hi p
  by_cases hlt : i < xs.length
  · refine .inr ⟨⟨xs, xs[i], q, by simp [hlt]⟩, Pv (i + 1), fun σ' H' p' => ⟨xs.length - (i + 1), by omega, rfl, hlt, p'⟩, fun x H' y => ?_⟩
    obtain ⟨e, y⟩ := y
    subst e
    exact hs i x σ _ (y xs q) p
  · have e : i = xs.length := by omega
    subst e
    exact .inl ⟨⟨xs, q, Nat.le_refl _⟩, hd σ H p⟩
theorem for_tup {K : PySem.W.Frag} {a : Addr} {xs : List V} {g : TG} {tb : TS} {D : Ends} {σ : St} {H : Hp} (Pv : Nat → St → Hp → Prop) (h0 : Pv 0 σ H) (hl : ∀ i σ H, i ≤ xs.length → Pv i σ H → SqT K H a xs)
    (hs : ∀ i x σ H, xs[i]? = some x → Pv i σ H → g x σ H fun σ2 H2 => tb { D with nx := Pv (i + 1), ct := Pv (i + 1), bk := D.nx } σ2 H2) (hd : ∀ σ H, Pv xs.length σ H → D.nx σ H) :
    ∃ W : Nat → Nat → St → Hp → Prop, (∃ m, W 0 m σ H) ∧ ∀ i m σ H, W i m σ H →
      ((Itt K a).stop i H ∧ D.nx σ H) ∨ ((Itt K a).go i H ∧ ∃ N : St → Hp → Prop, (∀ σ' H', N σ' H' → ∃ m', m' < m ∧ W (i + 1) m' σ' H') ∧ ∀ x H', (Itt K a).yld i H x H' → g x σ H' fun σ2 H2 => tb { D with nx := N, ct := N, bk := D.nx } σ2 H2) := by
  refine ⟨fun i m σ H => m = xs.length - i ∧ i ≤ xs.length ∧ Pv i σ H, ⟨xs.length, by simp, Nat.zero_le _, h0⟩, ?_⟩
  rintro i m σ H ⟨rfl, hi, p⟩
  have q := hl i σ H hi p
  by_cases hlt : i < xs.length
  · refine .inr ⟨⟨xs, xs[i], q, by simp [hlt]⟩, Pv (i + 1), fun σ' H' p' => ⟨xs.length - (i + 1), by omega, rfl, hlt, p'⟩, fun x H' y => ?_⟩
    obtain ⟨e, y⟩ := y
    subst e
    exact hs i x σ _ (y xs q) p
  · have e : i = xs.length := by omega
    subst e
    exact .inl ⟨⟨xs, q, Nat.le_refl _⟩, hd σ H p⟩
theorem for_range {lo : Int} {n : Nat} {g : TG} {tb : TS} {D : Ends} {σ : St} {H : Hp} (Pv : Nat → St → Hp → Prop) (h0 : Pv 0 σ H)
    (hs : ∀ i σ H, i < n → Pv i σ H → g (.int (lo + i)) σ H fun σ2 H2 => tb { D with nx := Pv (i + 1), ct := Pv (i + 1), bk := D.nx } σ2 H2) (hd : ∀ σ H, Pv n σ H → D.nx σ H) :
    ∃ W : Nat → Nat → St → Hp → Prop, (∃ m, W 0 m σ H) ∧ ∀ i m σ H, W i m σ H →
      ((Itr lo n).stop i H ∧ D.nx σ H) ∨ ((Itr lo n).go i H ∧ ∃ N : St → Hp → Prop, (∀ σ' H', N σ' H' → ∃ m', m' < m ∧ W (i + 1) m' σ' H') ∧ ∀ x H', (Itr lo n).yld i H x H' → g x σ H' fun σ2 H2 => tb { D with nx := N, ct := N, bk := D.nx } σ2 H2) := by
  refine ⟨fun i m σ H => m = n - i ∧ i ≤ n ∧ Pv i σ H, ⟨n, by simp, Nat.zero_le _, h0⟩, ?_⟩
  rintro i m σ H ⟨rfl, hi, p⟩
  by_cases hlt : i < n
  · refine .inr ⟨hlt, Pv (i + 1), fun σ' H' p' => ⟨n - (i + 1), by omega, rfl, hlt, p'⟩, fun x H' y => ?_⟩
    obtain ⟨e, y⟩ := y
    subst e y
    exact hs i σ _ hlt p
  · have e : i = n := by omega
    subst e
    exact .inl ⟨Nat.le_refl _, hd σ H p⟩
theorem while_by {c : TT} {tb : TS} {D : Ends} {σ : St} {H : Hp} (Pv : St → Hp → Prop) (μ : St → Hp → Nat) (h0 : Pv σ H)
    (hs : ∀ σ H, Pv σ H → c σ H fun b H1 => if b = true then tb { D with nx := fun σ' H' => Pv σ' H' ∧ μ σ' H' < μ σ H, ct := fun σ' H' => Pv σ' H' ∧ μ σ' H' < μ σ H, bk := D.nx } σ H1 else D.nx σ H1)
    (mono : ∀ σ H Q Q', (∀ b H1, Q b H1 → Q' b H1) → c σ H Q → c σ H Q') : tWhile c tb D σ H := by
  refine ⟨fun m σ H => m = μ σ H ∧ Pv σ H, ⟨_, rfl, h0⟩, ?_⟩
  rintro m σ H ⟨rfl, p⟩
  refine mono σ H _ _ (fun b H1 q => ?_) (hs σ H p)
  cases b with
  | true => exact ⟨_, fun σ' H' ⟨p', l⟩ => ⟨_, l, rfl, p'⟩, q⟩
  | false => exact q
end L2
namespace L2
open PySem PySem.Spec PyProof.Rows
abbrev R2 := V → V → Hp → VK → Prop
def OpR (X : Cx) (f : Value → Value → Sem Value) (r : R2) : Prop :=
  ∀ (pins : List (Addr × Obj)) (s : Shared) (σ : St) (H : Hp) (x y : V) (v u : Value) (Q : VK), Inv X pins σ H s → RelV x v → RelV y u → r x y H Q →
    wpAny (model X.prog X.w) X.A (f v u) (EP X pins σ Q) X.xe s
def UnR (X : Cx) (f : Value → Sem Value) (r : V → Hp → VK → Prop) : Prop :=
  ∀ (pins : List (Addr × Obj)) (s : Shared) (σ : St) (H : Hp) (x : V) (v : Value) (Q : VK), Inv X pins σ H s → RelV x v → r x H Q →
    wpAny (model X.prog X.w) X.A (f v) (EP X pins σ Q) X.xe s
def CallR (X : Cx) (f : Value) (r : List V → Hp → VK → Prop) : Prop :=
  ∀ (pins : List (Addr × Obj)) (s : Shared) (σ : St) (H : Hp) (xs : List V) (us : List Value) (Q : VK), Inv X pins σ H s → Vals xs us → r xs H Q →
    wpAny (model X.prog X.w) X.A (call f us) (EP X pins σ Q) X.xe s
def TruR (X : Cx) (r : V → Hp → (Bool → Hp → Prop) → Prop) : Prop :=
  ∀ (pins : List (Addr × Obj)) (s : Shared) (σ : St) (H : Hp) (x : V) (v : Value) (Q : Bool → Hp → Prop), Inv X pins σ H s → RelV x v → r x H Q →
    wpAny (model X.prog X.w) X.A (truthy v) (TP X pins σ Q) X.xe s
def tOp (r : R2) (ta tb : TE) : TE := fun σ H Q => ta σ H fun x H1 => tb σ H1 fun y H2 => r x y H2 Q
def tUn (r : V → Hp → VK → Prop) (ta : TE) : TE := fun σ H Q => ta σ H fun x H1 => r x H1 Q
def rI (C : Int → Int → Prop) (g : Int → Int → V) : R2 := fun x y H Q => ∃ i j, x = .int i ∧ y = .int j ∧ C i j ∧ Q (g i j) H
def rI0 (g : Int → Int → V) : R2 := fun x y H Q => ∃ i j, x = .int i ∧ y = .int j ∧ Q (g i j) H
def rU (g : Int → V) : V → Hp → VK → Prop := fun x H Q => ∃ i, x = .int i ∧ Q (g i) H
section
variable {X : Cx} {a b c : Expr} {ta tb tc : TE} {pos : Pos}
theorem binT (ha : PE X a ta) (hb : PE X b tb) {pins : List (Addr × Obj)} {s : Shared} {σ : St} {H : Hp} {R : V → V → Hp → Prop} (I : Inv X pins σ H s)
    (h : ta σ H fun x H1 => tb σ H1 fun y H2 => R x y H2) {Q : Value → Shared → Prop} {f : Value → Value → Sem Value}
    (hf : ∀ v u s2 x y H2, Inv X pins σ H2 s2 → RelV x v → RelV y u → R x y H2 → wpAny (model X.prog X.w) X.A (f v u) Q X.xe s2) :
    wpAny (model X.prog X.w) X.A (eval a X.env) (fun v s₁ => wpAny (model X.prog X.w) X.A (eval b X.env) (fun u s₂ => wpAny (model X.prog X.w) X.A (f v u) Q X.xe s₂) X.xe s₁) X.xe s := by
  refine thn (ha pins s σ H _ I h) fun v s1 ⟨x, H1, I1, r1, q1⟩ => ?_
  refine thn (hb pins s1 σ H1 _ I1 q1) fun u s2 ⟨y, H2, I2, r2, q2⟩ => ?_
  exact hf v u s2 x y H2 I2 r1 r2 q2
theorem pe_op {op : Operator} {r : R2} (ho : OpR X (binaryOp op) r) (ha : PE X a ta) (hb : PE X b tb) : PE X (.BinOp a op b pos) (tOp r ta tb) := by
  intro pins s σ H Q I h
  exact wpAny_BinOp (binT ha hb I h fun v u s2 x y H2 I2 rx ry q => ho pins s2 σ H2 x y v u Q I2 rx ry q)
theorem pe_un {op : UnaryOp} {r : V → Hp → VK → Prop} (ho : UnR X (unaryOp op) r) (ha : PE X a ta) : PE X (.UnaryOp op a pos) (tUn r ta) := by
  intro pins s σ H Q I h
  exact UnaryOp_ (thn (ha pins s σ H _ I h) fun v s1 ⟨x, H1, I1, r1, q1⟩ => ho pins s1 σ H1 x v Q I1 r1 q1)
theorem opI {f : Value → Value → Sem Value} {C : Int → Int → Prop} {g : Int → Int → Int}
    (rule : ∀ (i j : Int) (t u : Tok) (s : Shared) (Q : Value → Shared → Prop) (E : Value → Shared → Prop), C i j → Q (.int (g i j) s.toks) { s with toks := s.toks + 1 } → wpAny (model X.prog X.w) X.A (f (.int i t) (.int j u)) Q E s) :
    OpR X f (rI C fun i j => .int (g i j)) := by
  intro pins s σ H x y v u Q I rx ry h
  obtain ⟨i, j, rfl, rfl, hc, q⟩ := h
  obtain ⟨t, rfl⟩ := rx
  obtain ⟨t', rfl⟩ := ry
  exact rule i j t t' s _ _ hc ⟨.int (g i j), H, I.tok _, ⟨_, rfl⟩, q⟩
theorem opI0 {f : Value → Value → Sem Value} {g : Int → Int → Int}
    (rule : ∀ (i j : Int) (t u : Tok) (s : Shared) (Q : Value → Shared → Prop) (E : Value → Shared → Prop), Q (.int (g i j) s.toks) { s with toks := s.toks + 1 } → wpAny (model X.prog X.w) X.A (f (.int i t) (.int j u)) Q E s) :
    OpR X f (rI0 fun i j => .int (g i j)) := by
  intro pins s σ H x y v u Q I rx ry h
  obtain ⟨i, j, rfl, rfl, q⟩ := h
  obtain ⟨t, rfl⟩ := rx
  obtain ⟨t', rfl⟩ := ry
  exact rule i j t t' s _ _ ⟨.int (g i j), H, I.tok _, ⟨_, rfl⟩, q⟩
theorem opB0 {f : Value → Value → Sem Value} {g : Int → Int → Bool}
    (rule : ∀ (i j : Int) (t u : Tok) (s : Shared) (Q : Value → Shared → Prop) (E : Value → Shared → Prop), Q (.bool (g i j)) s → wpAny (model X.prog X.w) X.A (f (.int i t) (.int j u)) Q E s) :
    OpR X f (rI0 fun i j => .bl (g i j)) := by
  intro pins s σ H x y v u Q I rx ry h
  obtain ⟨i, j, rfl, rfl, q⟩ := h
  obtain ⟨t, rfl⟩ := rx
  obtain ⟨t', rfl⟩ := ry
  exact rule i j t t' s _ _ ⟨.bl (g i j), H, I, rfl, q⟩
def CDiv (i j : Int) : Prop := 0 < j ∧ j < 1073741824
def CPow (i j : Int) : Prop := 0 ≤ j ∧ j ≤ 1000000 ∧ i.natAbs < 2 ^ 64
def CMul (i j : Int) : Prop := (-(2 ^ 64) < i ∧ i < 2 ^ 64) ∨ (-(2 ^ 64) < j ∧ j < 2 ^ 64)
theorem CMul.ok {i j : Int} (h : CMul i j) : IntMulOk i j := by
  rcases h with ⟨h1, h2⟩ | ⟨h1, h2⟩
  · exact .of_left (intBits_le_64 h1 h2)
  · exact .of_right (intBits_le_64 h1 h2)
theorem op_add : OpR X (binaryOp .Add) (rI0 fun i j => .int (i + j)) := opI0 fun _ _ _ _ _ _ _ q => add_int q
theorem op_sub : OpR X (binaryOp .Sub) (rI0 fun i j => .int (i - j)) := opI0 fun _ _ _ _ _ _ _ q => sub_int q
theorem op_mul : OpR X (binaryOp .Mult) (rI CMul fun i j => .int (i * j)) := opI fun _ _ _ _ _ _ _ hc q => mul_int q hc.ok
theorem op_fdiv : OpR X (binaryOp .FloorDiv) (rI CDiv fun i j => .int (i / j)) := opI fun i j _ _ _ _ _ hc q => by
  have h1 : (0 : Int) < j := hc.1
  have h2 : j < 1073741824 := hc.2
  exact floordiv_int (by omega) (by rw [Int.fdiv_eq_ediv_of_nonneg i (by omega)]; exact q) (.inl (PyProof.noPylong_small (by omega)))
theorem op_mod : OpR X (binaryOp .Mod) (rI (fun _ j => 0 < j) fun i j => .int (i % j)) := opI fun i j _ _ _ _ _ hc q => by
  have h1 : (0 : Int) < j := hc
  exact mod_int' (by omega) (by rw [Int.fmod_eq_emod_of_nonneg i (by omega)]; exact q)
theorem op_modN : OpR X (binaryOp .Mod) (rI (fun _ j => j ≠ 0) fun i j => .int (i.fmod j)) := opI fun _ _ _ _ _ _ _ hc q => mod_int' hc q
theorem op_pow : OpR X (binaryOp .Pow) (rI CPow fun i j => .int (i ^ j.toNat)) := opI fun _ _ _ _ _ _ _ hc q => pow_int_small hc.1 hc.2.1 hc.2.2 q
theorem unI {f : Value → Sem Value} {g : Int → Int}
    (rule : ∀ (i : Int) (t : Tok) (s : Shared) (Q : Value → Shared → Prop) (E : Value → Shared → Prop), Q (.int (g i) s.toks) { s with toks := s.toks + 1 } → wpAny (model X.prog X.w) X.A (f (.int i t)) Q E s) :
    UnR X f (rU fun i => .int (g i)) := by
  intro pins s σ H x v Q I rx h
  obtain ⟨i, rfl, q⟩ := h
  obtain ⟨t, rfl⟩ := rx
  exact rule i t s _ _ ⟨.int (g i), H, I.tok _, ⟨_, rfl⟩, q⟩
theorem un_neg : UnR X (unaryOp .USub) (rU fun i => .int (-i)) := unI fun _ _ _ _ _ q => neg_int q
end
def scal : V → V → Bool
  | .non, .non => true | .non, .int _ => true | .int _, .non => true | .non, .bl _ => true | .bl _, .non => true | .non, .str _ => true | .str _, .non => true
  | .int _, .int _ => true | .bl _, .bl _ => true | .str _, .str _ => true | .byt _, .byt _ => true
  | .int _, .str _ => true | .str _, .int _ => true | .bl _, .str _ => true | .str _, .bl _ => true
  | _, _ => false
def rEq : R2 := fun x y H Q => scal x y = true ∧ Q (.bl (decide (x = y))) H
def rNe : R2 := fun x y H Q => scal x y = true ∧ Q (.bl (!decide (x = y))) H
theorem dec_int {i j : Int} : decide (V.int i = V.int j) = (i == j) := by
  rw [Bool.eq_iff_iff]
  simp
theorem dec_bl {i j : Bool} : decide (V.bl i = V.bl j) = (i == j) := by
  rw [Bool.eq_iff_iff]
  simp
theorem dec_str {i j : Str} : decide (V.str i = V.str j) = (i == j) := by
  rw [Bool.eq_iff_iff]
  simp
theorem dec_byt {i j : Array UInt8} : decide (V.byt i = V.byt j) = (i.toList == j.toList) := by
  rw [Bool.eq_iff_iff]
  cases i
  cases j
  simp
section
variable {X : Cx} {a b c : Expr} {ta tb tc : TE} {pos : Pos}
theorem fin_bl {pins : List (Addr × Obj)} {σ : St} {H : Hp} {s : Shared} {Q : VK} {k k' : Bool} (I : Inv X pins σ H s) (q : Q (.bl k) H) (e : k = k') : EP X pins σ Q (.bool k') s := by
  subst e
  exact ⟨.bl k, H, I, rfl, q⟩
theorem op_eq : OpR X (compareOp .Eq) rEq := by
  intro pins s σ H x y v u Q I rx ry h
  obtain ⟨hs, q⟩ := h
  cases x with
  | non =>
    cases rx
    cases y with
    | non => cases ry; exact PySem.EqNone.eq_none_none (fin_bl I q (by simp))
    | bl j => cases ry; exact PySem.EqNone.eq_none_bool (fin_bl I q (by simp))
    | int j => obtain ⟨t', rfl⟩ := ry; exact PySem.EqNone.eq_none_int (fin_bl I q (by simp))
    | str j => obtain ⟨t', rfl⟩ := ry; exact PySem.EqNone.eq_none_str (fin_bl I q (by simp))
    | _ => exact absurd (show false = true from hs) Bool.false_ne_true
  | bl i =>
    cases rx
    cases y with
    | non => cases ry; exact PySem.EqNone.eq_bool_none (fin_bl I q (by simp))
    | bl j => cases ry; exact eq_bool (fin_bl I q dec_bl)
    | str j => obtain ⟨t', rfl⟩ := ry; exact PySem.EqMixed.eq_bool_str (fin_bl I q (by simp))
    | _ => exact absurd (show false = true from hs) Bool.false_ne_true
  | int i =>
    obtain ⟨t, rfl⟩ := rx
    cases y with
    | non => cases ry; exact PySem.EqNone.eq_int_none (fin_bl I q (by simp))
    | int j => obtain ⟨t', rfl⟩ := ry; exact eq_int (fin_bl I q dec_int)
    | str j => obtain ⟨t', rfl⟩ := ry; exact PySem.EqMixed.eq_int_str (fin_bl I q (by simp))
    | _ => exact absurd (show false = true from hs) Bool.false_ne_true
  | str i =>
    obtain ⟨t, rfl⟩ := rx
    cases y with
    | non => cases ry; exact PySem.EqNone.eq_str_none (fin_bl I q (by simp))
    | bl j => cases ry; exact PySem.EqMixed.eq_str_bool (fin_bl I q (by simp))
    | int j => obtain ⟨t', rfl⟩ := ry; exact PySem.EqMixed.eq_str_int (fin_bl I q (by simp))
    | str j => obtain ⟨t', rfl⟩ := ry; exact eq_str (fin_bl I q dec_str)
    | _ => exact absurd (show false = true from hs) Bool.false_ne_true
  | byt i =>
    obtain ⟨t, rfl⟩ := rx
    cases y with
    | byt j => obtain ⟨t', rfl⟩ := ry; exact PySem.W.eq_bytes (fin_bl I q dec_byt)
    | _ => exact absurd (show false = true from hs) Bool.false_ne_true
  | _ => cases y <;> exact absurd (show false = true from hs) Bool.false_ne_true
theorem op_ne : OpR X (compareOp .NotEq) rNe := by
  intro pins s σ H x y v u Q I rx ry h
  obtain ⟨hs, q⟩ := h
  cases x with
  | non =>
    cases rx
    cases y with
    | non => cases ry; exact PySem.EqNone.ne_none_none (fin_bl I q (by simp))
    | bl j => cases ry; exact PySem.EqNone.ne_none_bool (fin_bl I q (by simp))
    | int j => obtain ⟨t', rfl⟩ := ry; exact PySem.EqNone.ne_none_int (fin_bl I q (by simp))
    | str j => obtain ⟨t', rfl⟩ := ry; exact PySem.EqNone.ne_none_str (fin_bl I q (by simp))
    | _ => exact absurd (show false = true from hs) Bool.false_ne_true
  | bl i =>
    cases rx
    cases y with
    | non => cases ry; exact PySem.EqNone.ne_bool_none (fin_bl I q (by simp))
    | bl j => cases ry; exact ne_bool (fin_bl I q (congrArg not dec_bl))
    | str j => obtain ⟨t', rfl⟩ := ry; exact PySem.EqMixed.ne_bool_str (fin_bl I q (by simp))
    | _ => exact absurd (show false = true from hs) Bool.false_ne_true
  | int i =>
    obtain ⟨t, rfl⟩ := rx
    cases y with
    | non => cases ry; exact PySem.EqNone.ne_int_none (fin_bl I q (by simp))
    | int j => obtain ⟨t', rfl⟩ := ry; exact ne_int (fin_bl I q (congrArg not dec_int))
    | str j => obtain ⟨t', rfl⟩ := ry; exact PySem.EqMixed.ne_int_str (fin_bl I q (by simp))
    | _ => exact absurd (show false = true from hs) Bool.false_ne_true
  | str i =>
    obtain ⟨t, rfl⟩ := rx
    cases y with
    | non => cases ry; exact PySem.EqNone.ne_str_none (fin_bl I q (by simp))
    | bl j => cases ry; exact PySem.EqMixed.ne_str_bool (fin_bl I q (by simp))
    | int j => obtain ⟨t', rfl⟩ := ry; exact PySem.EqMixed.ne_str_int (fin_bl I q (by simp))
    | str j => obtain ⟨t', rfl⟩ := ry; exact ne_str (fin_bl I q (congrArg not dec_str))
    | _ => exact absurd (show false = true from hs) Bool.false_ne_true
  | byt i =>
    obtain ⟨t, rfl⟩ := rx
    cases y with
    | byt j => obtain ⟨t', rfl⟩ := ry; exact PySem.W.ne_bytes (fin_bl I q (congrArg not dec_byt))
    | _ => exact absurd (show false = true from hs) Bool.false_ne_true
  | _ => cases y <;> exact absurd (show false = true from hs) Bool.false_ne_true
theorem op_lt : OpR X (compareOp .Lt) (rI0 fun i j => .bl (decide (i < j))) := opB0 fun _ _ _ _ _ _ _ q => lt_int q
theorem op_gt : OpR X (compareOp .Gt) (rI0 fun i j => .bl (decide (j < i))) := opB0 fun _ _ _ _ _ _ _ q => gt_int q
theorem op_ge : OpR X (compareOp .GtE) (rI0 fun i j => .bl (decide (j ≤ i))) := opB0 fun _ _ _ _ _ _ _ q => ge_int q
theorem op_notN : OpR X (compareOp .IsNot) (fun x y H Q => y = .non ∧ Q (.bl (!decide (x = .non))) H) := by
  intro pins s σ H x y v u Q I rx ry h
  obtain ⟨rfl, q⟩ := h
  cases ry
  refine isnot_none_gen (fin_bl I q ?_)
  cases x <;> first
    | (cases rx; rfl)
    | (obtain ⟨t, rfl⟩ := rx; rfl)
theorem nomark (b : Expr) {op : CmpOp} (h : op ≠ .In := by decide) (h2 : op ≠ .NotIn := by decide) : behindInMarks op b = false := by
  have e1 : (op == CmpOp.In) = false := by cases op <;> first | rfl | exact absurd rfl h
  have e2 : (op == CmpOp.NotIn) = false := by cases op <;> first | rfl | exact absurd rfl h2
  cases b <;> simp [behindInMarks, e1, e2]
theorem pe_cmpR {op : CmpOp} {r : R2} (ho : OpR X (compareOp op) r) (ha : PE X a ta) (hb : PE X b tb) (hm : behindInMarks op b = false) : PE X (.Compare a [op] [b] pos) (tOp r ta tb) := by
  intro pins s σ H Q I h
  exact wpAny_Compare1 (binT ha hb I h fun v u s2 x y H2 I2 rx ry q => ho pins s2 σ H2 x y v u Q I2 rx ry q) hm
def tTest (t : TE) : TT := fun σ H Q => t σ H fun x H' => ∃ k, x = .bl k ∧ Q k H'
theorem pt_cmpR {op : CmpOp} {r : R2} (ho : OpR X (compareOp op) r) (ha : PE X a ta) (hb : PE X b tb) (hm : behindInMarks op b = false) : PT X (.Compare a [op] [b] pos) (tTest (tOp r ta tb)) := by
  intro pins s σ H Q I h
  refine wpAny_isTrue_Compare1 (thn (ha pins s σ H _ I h) fun v s1 ⟨x, H1, I1, r1, q1⟩ => thn (hb pins s1 σ H1 _ I1 q1) fun u s2 ⟨y, H2, I2, r2, q2⟩ =>
    thn (ho pins s2 σ H2 x y v u _ I2 r1 r2 q2) fun c s3 ⟨z, H3, I3, r3, k, e, q3⟩ => ?_) hm
  subst e
  cases r3
  exact wpAny_truthy_bool ⟨H3, I3, q3⟩
def TruV (K : PySem.W.Frag) (x : V) (H : Hp) (k : Bool) : Prop :=
  match x with
  | .non => k = false
  | .bl b => k = b
  | .int i => k = (i != 0)
  | .str y => y.length ≤ sizeLine ∧ k = ((y.length : Int) != 0)
  | .byt y => y.size ≤ sizeLine ∧ k = ((y.size : Int) != 0)
  | .ref p => (∃ xs, SqL K H p xs ∧ k = !xs.isEmpty) ∨ (∃ xs, SqT K H p xs ∧ k = !xs.isEmpty) ∨ ∃ kvs, H p = some (.dK kvs) ∧ k = !kvs.isEmpty
  | _ => False
theorem isEmpty_kv {κ : Type} {kvs : List (κ × V)} {vs : List (κ × Value)} (r : KV kvs vs) : (!vs.isEmpty) = !kvs.isEmpty := by
  cases r <;> rfl
theorem isEmpty_of {xs : List V} {its : List Value} (r : Vals xs its) : (!its.toArray.isEmpty) = !xs.isEmpty := by
  cases r <;> simp
theorem line63 : (sizeLine : Nat) < 2 ^ 63 := by rw [sizeLine_eq]; decide
theorem tru_ok : TruR X (fun x H Q => ∃ k, TruV X.K x H k ∧ Q k H) := by
  intro pins s σ H x v Q I rx h
  obtain ⟨k, e, q⟩ := h
  have hl := line63
  have hs : sizeLine = 16777216 := sizeLine_eq
  cases x with
  | non =>
    cases rx
    have e' : k = false := e
    subst e'
    exact truthy_none ⟨H, I, q⟩
  | bl b =>
    cases rx
    have e' : k = b := e
    subst e'
    exact wpAny_truthy_bool ⟨H, I, q⟩
  | int i =>
    obtain ⟨t, rfl⟩ := rx
    have e' : k = (i != 0) := e
    subst e'
    exact PySem.P.truthy_int ⟨H, I, q⟩
  | str y =>
    obtain ⟨t, rfl⟩ := rx
    obtain ⟨hy, e'⟩ : y.length ≤ sizeLine ∧ k = ((y.length : Int) != 0) := e
    subst e'
    exact PySem.P.truthy_str (by omega) ⟨H, I.tok _, q⟩
  | byt y =>
    obtain ⟨t, rfl⟩ := rx
    obtain ⟨hy, e'⟩ : y.size ≤ sizeLine ∧ k = ((y.size : Int) != 0) := e
    subst e'
    exact PySem.W.truthy_bytes (by omega) ⟨H, I.tok _, q⟩
  | ref p =>
    cases rx
    have e' : (∃ xs, SqL X.K H p xs ∧ k = !xs.isEmpty) ∨ (∃ xs, SqT X.K H p xs ∧ k = !xs.isEmpty) ∨ ∃ kvs, H p = some (.dK kvs) ∧ k = !kvs.isEmpty := e
    rcases e' with ⟨xs, hx, e'⟩ | ⟨xs, hx, e'⟩ | ⟨kvs, hx, e'⟩
    · subst e'
      obtain ⟨its, r, pl, hz⟩ := I.list hx
      have hlen := r.length
      exact wpAny_truthy_list pl.isList (by simp only [List.size_toArray]; omega) ⟨H, I.tok _, by rw [isEmpty_of r]; exact q⟩
    · subst e'
      obtain ⟨its, r, pl, hz⟩ := I.tuple hx
      have hlen := r.length
      exact truthy_tuple pl (by simp only [List.size_toArray]; omega) ⟨H, I.tok _, by rw [isEmpty_of r]; exact q⟩
    · subst e'
      obtain ⟨hz, hS, vs, r, m⟩ : kvs.length ≤ sizeLine ∧ (p == sysModules) = false ∧ ∃ vs, KV kvs vs ∧ s.heap.DictOf (mixKind X.prog X.w) p vs := I.hok p _ hx
      have hlen : kvs.length = vs.length := Paired.length r
      exact wpAny_truthy_dict hS m (by omega) ⟨H, I.tok _, by rw [isEmpty_kv r]; exact q⟩
  | _ => exact (show False from e).elim
theorem pt_truth (ha : PE X a ta) (he : ∀ whole, isTrue a X.env whole = (do let v ← whole; standAt a.pos; holding [v] (truthy v))) :
    PT X a (fun σ H Q => ta σ H fun x H' => ∃ k, TruV X.K x H' k ∧ Q k H') := by
  intro pins s σ H Q I h
  exact isTrue_plain (thn (ha pins s σ H _ I h) fun v s1 ⟨x, H1, I1, r1, q1⟩ => tru_ok pins s1 σ H1 x v Q I1 r1 q1) (he _)
theorem vals1 {x : V} {us : List Value} (r : Vals [x] us) : ∃ u, us = [u] ∧ RelV x u := by
  cases r with
  | cons r1 r2 => cases r2; exact ⟨_, rfl, r1⟩
theorem vals2 {x y : V} {us : List Value} (r : Vals [x, y] us) : ∃ u w', us = [u, w'] ∧ RelV x u ∧ RelV y w' := by
  cases r with
  | cons r1 r2 =>
    cases r2 with
    | cons r3 r4 => cases r4; exact ⟨_, _, rfl, r1, r3⟩
theorem call_abs : CallR X (.builtin "abs") (fun xs H Q => ∃ i, xs = [.int i] ∧ Q (.int (if i < 0 then -i else i)) H) := by
  intro pins s σ H xs us Q I r h
  obtain ⟨i, rfl, q⟩ := h
  obtain ⟨u, rfl, t, rfl⟩ := vals1 r
  exact call_abs_int fun u tk => ⟨.int (if i < 0 then -i else i), H, I.tok _, ⟨_, rfl⟩, q⟩
theorem call_int1 : CallR X (.type "int") (fun xs H Q => (∃ i, xs = [.int i] ∧ Q (.int i) H) ∨ ∃ k, xs = [.bl k] ∧ Q (.int (if k then 1 else 0)) H) := by
  intro pins s σ H xs us Q I r h
  rcases h with ⟨i, rfl, q⟩ | ⟨k, rfl, q⟩
  · obtain ⟨u, rfl, t, rfl⟩ := vals1 r
    exact call_int_int ⟨.int i, H, I, ⟨_, rfl⟩, q⟩
  · obtain ⟨u, rfl, r1⟩ := vals1 r
    cases r1
    exact call_int_bool ⟨.int (if k then 1 else 0), H, I.tok _, ⟨_, rfl⟩, q⟩
end
end L2
namespace L2
open PySem PySem.Spec PyProof.Rows
structure ObjM (h : Heap) (x dx C : Addr) (mA : Str → Option Value) : Prop where
  obj : h.get? x = some (PySem.W.instObj C dx)
  ns : h.Ns1 dx mA
  ne : dx ≠ x
theorem lookIn_ns {h : Heap} {dx : Addr} {mA : Str → Option Value} (n : h.Ns1 dx mA) : ∃ od, h.get? dx = some od ∧ ∀ name, PySem.W.lookIn name od = some (mA name) := by
  obtain ⟨o, es, ep, ho, hd, hk, _, hm⟩ := n
  refine ⟨o, ho, fun name => ?_⟩
  have e := hm name
  unfold nsFind findBy at e
  rw [← Array.find?_toList] at e
  unfold PySem.W.lookIn
  rw [hd]
  dsimp only
  split
  · rename_i y q
    rw [q] at e
    exact congrArg some e
  · rename_i q
    rw [q] at e
    have a : es.toList.any (·.refKey) = false := by
      rw [List.any_eq_false]
      intro y hy
      obtain ⟨z, t, hkey⟩ := hk y (Array.mem_toList_iff.mp hy)
      simp [DictEntry.refKey, hkey]
    have a' : ¬ es.toList.any (·.refKey) = true := by rw [a]; exact Bool.false_ne_true
    rw [if_neg a']
    exact congrArg some e
theorem ObjM.look {h : Heap} {x dx C : Addr} {mA : Str → Option Value} (I : ObjM h x dx C mA) : ∃ od, PySem.W.InstAt h x (PySem.W.instObj C dx) C (some od) ∧ ∀ name, PySem.W.lookIn name od = some (mA name) :=
  let ⟨od, ho, hl⟩ := lookIn_ns I.ns
  ⟨od, ⟨I.obj, rfl, rfl, ho⟩, hl⟩
section
variable {prog : Program} {w : World} {A : Around} {E : Value → Shared → Prop} {s : Shared} {K : PySem.W.Frag} {x dx C f : Addr} {mA : Str → Option Value} {name : Str} {v : Value}
end
section
variable {P : Program} {w : World} {H H' : Hp} {h h' : Heap} {a C dx : Addr} {fs fs' : List (Str × V)}
theorem ins_get (hok : HOk P w H h) (e : H a = some (.ins C dx fs)) : ∃ mA, ObjM h a dx C mA ∧ (∀ f, RelO (fs.lookup f) (mA f)) ∧ PySem.Within mA (fs.map (·.1)) ∧ fs.length ≤ 1000 ∧ H dx = some (.own a) := by
  obtain ⟨d, z, ne, ob, mA, n, r, q⟩ := (show ObjOk P w H h a (.ins C dx fs) from hok a _ e)
  exact ⟨mA, ⟨ob, n, ne⟩, r, q, z, d⟩
end
structure Cls (K : PySem.W.Frag) (C : Addr) : Prop where
  pg : PySem.W.plainGet K C Str.empty = true
  hd : PySem.W.hasDictIn K C = true
  po : PySem.W.plainOver K C = true
  sa : PySem.W.findIn K (.ref C) "__setattr__" = some (some (.builtin "object.__setattr__"))
theorem Cls.get {K : PySem.W.Frag} {C : Addr} (c : Cls K C) (f : Str) : PySem.W.plainGet K C f = true := c.pg
section
variable {X : Cx} {pins : List (Addr × Obj)} {σ : St} {H : Hp} {s : Shared} {a C dx : Addr} {fs : List (Str × V)} {f : Str} {v : V} {A : Around} {E : Value → Shared → Prop}
end
section
variable {X : Cx} {o e value : Expr} {f : Str} {pos pos' tpos : Pos} {ta tv : TE}
end
section
variable {X : Cx} {pins : List (Addr × Obj)} {σ : St} {H : Hp} {s : Shared} {A : Around} {E : Value → Shared → Prop} {Q : Value → Shared → Prop} {c : Value} {b : Bool}
inductive TyOf (K : PySem.W.Frag) (H : Hp) : V → Value → Prop where
  | non : TyOf K H .non (.type "NoneType")
  | bl (x : Bool) : TyOf K H (.bl x) (.type "bool")
  | int (i : Int) : TyOf K H (.int i) (.type "int")
  | str (x : Str) : TyOf K H (.str x) (.type "str")
  | flt (x : UInt64) : TyOf K H (.flt x) (.type "float")
  | lst {a : Addr} {xs : List V} (e : H a = some (.lst xs)) : TyOf K H (.ref a) (.type "list")
  | frz {a : Addr} {o : Obj} {xs : List V} (e : H a = some (.frz o (.lst xs))) : TyOf K H (.ref a) (.type "list")
  | tup {a : Addr} {xs : List V} (e : H a = some (.tup xs)) : TyOf K H (.ref a) (.type "tuple")
  | dK {a : Addr} {kvs : List (Key × V)} (e : H a = some (.dK kvs)) : TyOf K H (.ref a) (.type "dict")
  | dT {a : Addr} {kvs : List (List Key × V)} (e : H a = some (.dT kvs)) : TyOf K H (.ref a) (.type "dict")
  | ins {a C dx : Addr} {fs : List (Str × V)} (e : H a = some (.ins C dx fs)) (cl : Cls K C) (ha : PySem.W.findIn K (.ref C) "__class__" = some (some (.builtin "object.__class__")))
      (hn : PySem.W.specialIn K (.builtin "object.__class__") "__get__" = some (some (.builtin "getset_descriptor.__get__"))) (htk : PySem.W.takesIn K (.builtin "object.__class__") = some true)
      (hm : PySem.W.mroIn K C (.type "object") = some true) : TyOf K H (.ref a) (.ref C)
theorem isinst_ok {x : V} {u t : Value} (I : Inv X pins σ H s) (rx : RelV x u) (ty : TyOf X.K H x t) (e : PySem.W.kitOne X.K t c = some b) (h : ∀ tk, Q (.bool b) { s with toks := tk }) :
    wpAny (model X.prog X.w) A (call (.builtin "isinstance") [u, c]) Q E s := by
  cases ty with
  | non => cases (show u = Value.none from rx); exact PySem.W.kia_one PySem.W.kitx_none I.kIn True.intro e (fun z => nomatch z) h
  | bl y => cases (show u = Value.bool y from rx); exact PySem.W.kia_one PySem.W.kitx_bool I.kIn True.intro e (fun z => nomatch z) h
  | int i => obtain ⟨t, q⟩ := (show ∃ t, u = Value.int i t from rx); cases q; exact PySem.W.kia_one PySem.W.kitx_int I.kIn True.intro e (fun z => nomatch z) h
  | str y => obtain ⟨t, q⟩ := (show ∃ t, u = Value.str y t from rx); cases q; exact PySem.W.kia_one PySem.W.kitx_str I.kIn True.intro e (fun z => nomatch z) h
  | flt y => obtain ⟨t, q⟩ := (show ∃ t, u = Value.float y t from rx); cases q; exact PySem.W.kia_one PySem.W.kitx_float I.kIn True.intro e (fun z => nomatch z) h
  | @lst a xs ea =>
    cases (show u = Value.ref a from rx)
    obtain ⟨_, _, n, _, h1⟩ := (show ObjOk X.prog X.w H s.heap a (.lst xs) from I.hok a _ ea)
    exact PySem.W.kia_one PySem.W.kitx_list I.kIn ⟨_, h1, rfl⟩ e (fun z => nomatch z) h
  | @frz a ob xs ea =>
    cases (show u = Value.ref a from rx)
    obtain ⟨_, _, _, n, _, h1⟩ := (show ObjOk X.prog X.w H s.heap a (.frz ob (.lst xs)) from I.hok a _ ea)
    exact PySem.W.kia_one PySem.W.kitx_list I.kIn ⟨_, h1, rfl⟩ e (fun z => nomatch z) h
  | @tup a xs ea =>
    cases (show u = Value.ref a from rx)
    obtain ⟨_, _, _, p⟩ := (show ObjOk X.prog X.w H s.heap a (.tup xs) from I.hok a _ ea)
    obtain ⟨o, h1, h2, _⟩ := p
    exact PySem.W.kia_one PySem.W.kitx_tuple I.kIn ⟨o, h1, h2⟩ e (fun z => nomatch z) h
  | @dK a kvs ea =>
    cases (show u = Value.ref a from rx)
    obtain ⟨_, _, vs, _, p⟩ := (show ObjOk X.prog X.w H s.heap a (.dK kvs) from I.hok a _ ea)
    obtain ⟨o, es, ep, h1, h2, _⟩ := p
    exact PySem.W.kia_one PySem.W.kitx_dict I.kIn ⟨o, h1, h2.1⟩ e (fun z => nomatch z) h
  | @dT a kvs ea =>
    cases (show u = Value.ref a from rx)
    obtain ⟨_, _, xs, _, o, es, ep, h1, h2, _⟩ := (show ObjOk X.prog X.w H s.heap a (.dT kvs) from I.hok a _ ea)
    exact PySem.W.kia_one PySem.W.kitx_dict I.kIn ⟨o, h1, h2.1⟩ e (fun z => nomatch z) h
  | @ins a C dx fs ea cl ha hn htk hm =>
    cases (show u = Value.ref a from rx)
    obtain ⟨mA, O, _⟩ := ins_get I.hok ea
    obtain ⟨od, J, _⟩ := O.look
    exact PySem.W.kia_one (PySem.W.kitx_own (cl.get _) cl.hd ha hn htk hm) I.kIn J e (fun z => nomatch z) h
end
end L2
namespace L2
open PySem PySem.Spec PyProof.Rows
structure Room (k : Nat) (A : Around) : Prop where
  hd : A.handled = none
  dp : A.depth + 3 * k + 5 < recursionLimit
  un : A.units + 16 * k + 200 < cLine
theorem Room.mono {j k : Nat} {A : Around} (r : Room k A) (h : j ≤ k) : Room j A := ⟨r.hd, by have := r.dp; omega, by have := r.un; omega⟩
theorem Room.deeper {k : Nat} {A : Around} (r : Room (k + 1) A) (env : Env) : Room k (A.deeper env) :=
  ⟨r.hd, by have := r.dp; show A.depth + 1 + 3 * k + 5 < _; omega, by have := r.un; show A.units + 3 + 16 * k + 200 < _; omega⟩
theorem Room.depth {k : Nat} {A : Around} (r : Room k A) : A.depth < recursionLimit := by have := r.dp; omega
theorem Room.units {k : Nat} {A : Around} (r : Room k A) : A.units + 64 < cLine := by have := r.un; omega
def tNil : TA := fun _ H Q => Q [] H
def tCons (ta : TE) (tr : TA) : TA := fun σ H Q => ta σ H fun x H1 => tr σ H1 fun xs H2 => Q (x :: xs) H2
section
variable {X : Cx} {e : Expr} {es : List Expr} {te : TE} {t : TA} {pos : Pos}
theorem pa_nil : PA X [] tNil := fun _ _ _ _ H Q I h => Calls.spliced_nil ⟨[], H, I, .nil, h⟩
theorem pa_cons (ha : PE X e te) (hr : PA X es t) (hs : starEach (e :: es) X.env = (false, eval e X.env) :: starEach es X.env := by rfl) : PA X (e :: es) (tCons te t) := by
  intro pos pins s σ H Q I h
  rw [hs]
  show wpAny _ _ (spliced ((false, eval e X.env) :: backTo pos (starEach es X.env))) _ _ s
  refine Calls.spliced_cons (thn (ha pins s σ H _ I h) fun u s1 ⟨x, H1, I1, r1, q1⟩ => ?_)
  exact thn (hr pos pins s1 σ H1 _ I1 q1) fun us s2 ⟨xs, H2, I2, r2, q2⟩ => ⟨x :: xs, H2, I2, .cons r1 r2, q2⟩
def tTup (t : TA) : TE := fun σ H Q => t σ H fun xs H1 => xs.length ≤ sizeLine ∧ ∀ p, H1 p = none → Q (.ref p) (upd H1 p (.tup xs))
def tLst (t : TA) : TE := fun σ H Q => t σ H fun xs H1 => xs.length ≤ sizeLine ∧ ∀ p, H1 p = none → Q (.ref p) (upd H1 p (.lst xs))
theorem pe_tup {x1} (h : PA X es t) : PE X (.Tuple es x1 pos) (tTup t) := by
  intro pins s σ H Q I hq
  refine wpAny_Tuple_spliced (thn (h pos pins s σ H _ I hq) fun us s1 ⟨xs, H1, I1, r, z, q⟩ => ⟨by rw [← r.length]; exact z, ?_⟩)
  have hf : H1 s1.heap.objs.size = none := I1.hok.fresh (Nat.le_refl _)
  refine ⟨.ref s1.heap.objs.size, upd H1 s1.heap.objs.size (.tup xs), I1.laid (t' := s1.toks) (fun b u e => Heap.get?_push_of_some _ e) (Nat.le_refl _) ?_, rfl, q _ hf⟩
  exact ⟨z, us, r, ⟨_, Heap.get?_push_size _ rfl, rfl, _, rfl⟩⟩
theorem pe_lst (h : PA X es t) : PE X (.List es pos) (tLst t) := by
  intro pins s σ H Q I hq
  refine wpAny_List_spliced (thn (h pos pins s σ H _ I hq) fun us s1 ⟨xs, H1, I1, r, z, q⟩ => ⟨by rw [← r.length]; exact z, ?_⟩)
  have hf : H1 s1.heap.objs.size = none := I1.hok.fresh (Nat.le_refl _)
  refine ⟨.ref s1.heap.objs.size, upd H1 s1.heap.objs.size (.lst xs), I1.laid (t' := s1.toks) (fun b u e => Heap.get?_push_of_some _ e) (Nat.le_refl _) ?_, rfl, q _ hf⟩
  exact ⟨z, us, 0, r, Heap.get?_push_size _ rfl⟩
end
abbrev Sp := List V → Hp → VK → XK → Prop
abbrev CXT := List Env → Hp → Shared → XK → Value → Shared → Prop
structure Env0 (P : Program) (w : World) (K : PySem.W.Frag) (mg : Str → Option Value) (base : Heap) (A : Around) (outer : List Env) (s : Shared) (H : Hp) : Prop where
  frames : A.frames = some outer
  mod : Mod K mg base
  bs : ∀ b o, base.get? b = some o → s.heap.get? b = some o ∧ H b = none
  bsz : base.objs.size ≤ s.heap.objs.size
  funs : s.heap.FunFrames base outer
  frf : ∀ b ∈ frs outer, H b = none
  hok : HOk P w H s.heap
  bare : AllBare s.gens
def CE (outer : List Env) (P : Program) (w : World) (H : Hp) (s : Shared) (Q : VK) (u : Value) (s' : Shared) : Prop :=
  ∃ v H', s'.os = s.os ∧ AllBare s'.gens ∧ Un (frs outer) [] H H' s.heap s'.heap ∧ HOk P w H' s'.heap ∧ RelV v u ∧ Q v H'
def CR (CX : CXT) (outer : List Env) (P : Program) (w : World) (H : Hp) (s : Shared) (Q : VK) (E : XK) (r : Result) (s' : Shared) : Prop :=
  match r with
  | .ok (.ret u) => CE outer P w H s Q u s'
  | .ok _ => False
  | .error e => CX outer H s E e s'
structure FnOk (P : Program) (w : World) (K : PySem.W.Frag) (mg : Str → Option Value) (base : Heap) (CX : CXT) (k : Nat) (f : Addr) (fd : FuncData) (ps : List Str) (sp : Sp) : Prop where
  len : ∀ vs H Q E, sp vs H Q E → vs.length = ps.length
  run : ∀ (A : Around) (outer : List Env) (s : Shared) (H : Hp) (args : Args) (us : List Value) (vs : List V) (Q : VK) (E : XK), Room k A → Env0 P w K mg base A outer s H → BindsTo s fd args (ps.zip us) → Vals vs us → sp vs H Q E →
    codeAny (model P w) A (.call (.ref f) args) (CR CX outer P w H s Q E) s
section
variable {X : Cx} {pins : List (Addr × Obj)} {σ : St} {H : Hp} {s s' : Shared}
theorem Inv.env0 (I : Inv X pins σ H s) : Env0 X.prog X.w X.K X.mg X.base X.A X.stack s H :=
  ⟨I.ok.frames, I.ok.mod, I.bs, Nat.le_trans I.ok.bsz I.sz, I.stack, I.stkFree, I.hok, I.bare⟩
theorem Inv.after {Q : VK} {u : Value} (I : Inv X pins σ H s) (h : CE X.stack X.prog X.w H s Q u s') : EP X pins σ Q u s' := by
  obtain ⟨v, H', os, bare, un, hok, r, q⟩ := h
  obtain ⟨hh, g, d, t, os'⟩ := s'
  obtain rfl : os' = s.os := os
  exact ⟨v, H', I.call (h' := hh) (g' := g) (d' := d) (t' := t) (ch := []) un hok bare (fun b z => absurd z (by simp)), r, q⟩
end
def tCall (sp : Sp) (dvs : List V) (E : XK) (t : TA) : TE := fun σ H Q => t σ H fun vs H1 => sp (vs ++ dvs) H1 Q E
def Binds (K : PySem.W.Frag) (fd : FuncData) (ps : List Str) (ds : List Value) : Prop :=
  ∀ (s : Shared) (us : List Value), K.In s.heap → (us ++ ds).length = ps.length → BindsTo s fd ⟨us, []⟩ (ps.zip (us ++ ds))
theorem Binds.all {K : PySem.W.Frag} {fd : FuncData} {ps : List Str} (h : ∀ us : List Value, us.length = ps.length → bindArgs fd ⟨us, []⟩ = pure (ps.zip us)) : Binds K fd ps [] := fun s us _ hl => by
  rw [List.append_nil] at hl ⊢
  exact .of_eq (h us hl)
def Passes (CX : CXT) (X : Cx) (E : XK) : Prop := ∀ (pins : List (Addr × Obj)) (σ : St) (H : Hp) (s : Shared) (e : Value) (s' : Shared), Inv X pins σ H s → CX X.stack H s E e s' → X.xe e s'
section
variable {X : Cx} {CX : CXT} {k : Nat} {f C : Addr} {fd : FuncData} {ps : List Str} {sp : Sp} {dvs : List V} {ds : List Value} {E : XK} {x m : Str} {p pos apos : Pos} {e o : Expr} {es : List Expr} {ta : TE} {t : TA}
theorem run_fn {pins : List (Addr × Obj)} {σ : St} {H : Hp} {s : Shared} {Q : VK} {us : List Value} {vs : List V} (F : FnOk X.prog X.w X.K X.mg X.base CX k f fd ps sp) (hr : Room k X.A) (hb : Binds X.K fd ps ds) (hd : Vals dvs ds) (hx : Passes CX X E)
    (I : Inv X pins σ H s) (r : Vals vs us) (h : sp (vs ++ dvs) H Q E) : wpAny (model X.prog X.w) X.A (call (.ref f) us) (EP X pins σ Q) X.xe s := by
  have r2 : Vals (vs ++ dvs) (us ++ ds) := r.append hd
  have hl : (us ++ ds).length = ps.length := by rw [← r2.length]; exact F.len _ _ _ _ h
  refine wpAny_call (codeAny_mono (F.run X.A X.stack s H ⟨us, []⟩ (us ++ ds) (vs ++ dvs) Q E hr I.env0 (hb s us I.kIn hl) r2 h) fun r s' hq => ?_)
  cases r with
  | error e => exact hx pins σ H s e s' I hq
  | ok fl =>
    cases fl with
    | ret u => exact I.after hq
    | next => exact False.elim hq
    | brk => exact False.elim hq
    | cont => exact False.elim hq
theorem pe_call (F : FnOk X.prog X.w X.K X.mg X.base CX k f fd ps sp) (hr : Room k X.A) (hg : Gl X x) (hm : X.mg x = some (.ref f)) (hk : PySem.W.keepIn X.K (.ref f) = true) (hb : Binds X.K fd ps ds) (hd : Vals dvs ds) (hx : Passes CX X E)
    (ha : PA X (e :: es) t) (hdb : (x == ("__debug__" : Str)) = false := by decide) (he : starEach (e :: es) X.env = (false, eval e X.env) :: starEach es X.env := by rfl) (hpl : (backTo pos (starEach es X.env)).any (·.1) = false := by rfl) :
    PE X (.Call (.Name x p) (e :: es) [] pos) (tCall sp dvs E t) := by
  intro pins s σ H Q I h
  refine wpAny_Call_Name_kw (ld_glob I hg hm ?_ hdb)
  refine PySem.W.callWith_K (h₀ := X.base) I.ok.mod.kin hk (thn (ha pos pins s σ H _ I h) fun us s1 ⟨vs, H1, I1, r, q⟩ => ⟨I1.kIn, ?_⟩) he hpl
  exact run_fn F hr hb hd hx I1 r q
end
section
variable {X : Cx} {CX : CXT} {k : Nat} {f C : Addr} {fd : FuncData} {ps ks : List Str} {sp : Sp} {E : XK} {x m : Str} {p pos apos kpos : Pos} {e o : Expr} {es : List Expr} {kws : List Keyword} {te ta : TE} {t tk : TA} {nm : Option Str}
variable {g : List Value → List Value → List Value} {gV : List V → List V → List V}
end
structure FnScope (N P : List Str) (sc : Scope) : Prop where
  kind : sc.kind = .function
  co : sc.isCoroutine = false
  gen : sc.isGenerator = false
  nd : N.Nodup
  pre : N.take P.length = P
  par : ∀ x ∈ P, sc.names.lookup x = some .local ∨ sc.names.lookup x = some .cell
  nofree : ∀ y ∈ sc.names, y.2 ≠ .free
theorem bindL_out {kindOf : Str → Option NameKind} {x : Str} : ∀ {binds : List (Str × Value)} {m : Str → Option Value}, (∀ v, (x, v) ∉ binds) → bindL kindOf binds m x = m x
  | [], _, _ => rfl
  | (n, v) :: r, m, h => by
    unfold bindL
    rw [bindL_out fun w hw => h w (List.mem_cons_of_mem _ hw)]
    split
    · have : x ≠ n := by rintro rfl; exact h v List.mem_cons_self
      simp [this]
    · rfl
theorem bindC_out {kindOf : Str → Option NameKind} {x : Str} : ∀ {binds : List (Str × Value)} {m : Str → Option Value}, (∀ v, (x, v) ∉ binds) → bindC kindOf binds m x = m x
  | [], _, _ => rfl
  | (n, v) :: r, m, h => by
    unfold bindC
    rw [bindC_out fun w hw => h w (List.mem_cons_of_mem _ hw)]
    split
    · rfl
    · have : x ≠ n := by rintro rfl; exact h v List.mem_cons_self
      simp [this]
theorem bindL_get {kindOf : Str → Option NameKind} {x : Str} {v : Value} : ∀ {P : List Str} {vs : List Value} {i : Nat} {m : Str → Option Value}, P.Nodup → P[i]? = some x → vs[i]? = some v → kindOf x = some .local →
    bindL kindOf (P.zip vs) m x = some v
  | [], _, _, _, _, h, _, _ => by simp at h
  | _ :: _, [], _, _, _, _, h, _ => by simp at h
  | p :: P, w :: vs, 0, m, nd, h1, h2, hk => by
    simp at h1 h2; subst h1; subst h2
    show bindL kindOf ((p, w) :: P.zip vs) m p = _
    unfold bindL
    rw [bindL_out fun v hv => (List.nodup_cons.mp nd).1 (List.of_mem_zip hv).1, if_pos hk]
    simp
  | p :: P, w :: vs, i + 1, m, nd, h1, h2, hk => by
    show bindL kindOf ((p, w) :: P.zip vs) m x = _
    unfold bindL
    exact bindL_get (i := i) (List.nodup_cons.mp nd).2 (by simpa using h1) (by simpa using h2) hk
theorem bindC_get {kindOf : Str → Option NameKind} {x : Str} {v : Value} : ∀ {P : List Str} {vs : List Value} {i : Nat} {m : Str → Option Value}, P.Nodup → P[i]? = some x → vs[i]? = some v → kindOf x ≠ some .local →
    bindC kindOf (P.zip vs) m x = some v
  | [], _, _, _, _, h, _, _ => by simp at h
  | _ :: _, [], _, _, _, _, h, _ => by simp at h
  | p :: P, w :: vs, 0, m, nd, h1, h2, hk => by
    simp at h1 h2; subst h1; subst h2
    show bindC kindOf ((p, w) :: P.zip vs) m p = _
    unfold bindC
    rw [bindC_out fun v hv => (List.nodup_cons.mp nd).1 (List.of_mem_zip hv).1, if_neg hk]
    simp
  | p :: P, w :: vs, i + 1, m, nd, h1, h2, hk => by
    show bindC kindOf ((p, w) :: P.zip vs) m x = _
    unfold bindC
    exact bindC_get (i := i) (List.nodup_cons.mp nd).2 (by simpa using h1) (by simpa using h2) hk
def start (N : List Str) (vs : List V) : St := vs.map some ++ List.replicate (N.length - vs.length) none
def cxOf (CX : CXT) (P : Program) (w : World) (K : PySem.W.Frag) (mg : Str → Option Value) (base : Heap) (N : List Str) (qual : Str) (scope : Scope) (f : Addr) (cd : Value) (A : Around) (outer : List Env) (s : Shared) (H : Hp) (E : XK) : Cx where
  prog := P
  w := w
  K := K
  mg := mg
  base := base
  A := A.deeper (envOfC qual scope s.heap.objs.size f cd)
  N := N
  s₀ := s
  H₀ := H
  env := envOfC qual scope s.heap.objs.size f cd
  outer := outer
  stack := envOfC qual scope s.heap.objs.size f cd :: outer
  ex := []
  calm := true
  fn := fun _ => true
  pn := []
  xe := fun e s' => wpAny (model P w) (A.deeper (envOfC qual scope s.heap.objs.size f cd)) (leaving (envOfC qual scope s.heap.objs.size f cd) e) (fun _ s'' => CX outer H s E e s'') (fun e' s'' => CX outer H s E e' s'') s'
theorem cell_has {sc : Scope} {n : Nat} {x : Str} (h : sc.names.lookup x = some .cell) : ∃ c, (cellsFrom n sc.names []).lookup x = some c := by
  have q := PySem.W.cellsFrom_some sc.names n [] (.inl h)
  exact Option.isSome_iff_exists.mp q
theorem inv_start {CX : CXT} {P : Program} {w : World} {K : PySem.W.Frag} {mg : Str → Option Value} {base : Heap} {N ps : List Str} {qual : Str} {scope : Scope} {f : Addr} {cd : Value} {A : Around} {outer : List Env} {s s1 : Shared} {H : Hp} {E : XK} {us : List Value} {vs : List V}
    (S : FnScope N ps scope) (hd : A.handled = none) (e0 : Env0 P w K mg base A outer s H) (hl : vs.length = ps.length) (r : Vals vs us)
    (x : InCallC s s.heap.objs.size (bindL (envOfC qual scope s.heap.objs.size f cd).kindOf (ps.zip us) fun _ => none) (cellsFrom (s.heap.objs.size + 1) scope.names []) (bindC (envOfC qual scope s.heap.objs.size f cd).kindOf (ps.zip us) fun _ => none) s1) :
    Inv (cxOf CX P w K mg base N qual scope f cd A outer s H E) [] (start N vs) H s1 := by
  have hpl : ps.length ≤ N.length := by have := congrArg List.length S.pre; rw [List.length_take] at this; omega
  obtain ⟨h1, tk, rfl, hk⟩ := x.done
  have noA : ∀ b : Addr, b ∉ (cxOf CX P w K mg base N qual scope f cd A outer s H E).ex := fun b z => absurd (show b ∈ ([] : List Addr) from z) (by simp)
  refine ⟨⟨e0.mod, S.kind, rfl, rfl, Nat.le_refl _, fun y z c h1 h2 => ?_, fun y hy => ?_, fun y c _ h => ?_, fun _ => hd, Around.frames_deeper e0.frames, .inr ⟨rfl, rfl⟩, fun b z => absurd z (noA b), e0.bs, e0.bsz, fun b _ _ => noA b, fun b z => absurd z (noA b), e0.funs, e0.frf⟩,
    rfl, e0.bare, Un.kept hk, ⟨_, x.toInCall.ns, fun i y v h1 h2 h3 => ?_⟩, fun y c h => ⟨_, x.cell y c h⟩, e0.hok.fresh (Nat.le_refl _), fun y c h => ?_, fun p hp => absurd (show p ∈ ([] : List (Addr × Obj)) from hp) (by simp), e0.hok.kept hk, ?_⟩
  · exact name_of_addr x.apart (PySem.mem_of_lookup h1) (PySem.mem_of_lookup h2)
  · have hy : scope.names.lookup y = some .cell ∨ scope.names.lookup y = some .free := hy
    rcases hy with hy | hy
    · exact cell_has hy
    · exact absurd rfl (S.nofree _ (PySem.mem_of_lookup hy))
  · exact Nat.le_of_lt (x.above y c (PySem.mem_of_lookup h))
  · have hi : i < vs.length := by
      unfold start at h2
      by_cases hi : i < vs.length
      · exact hi
      · rw [List.getElem?_append_right (by simpa using hi)] at h2
        rw [List.getElem?_replicate] at h2
        split at h2 <;> cases h2
    have ha : vs[i]? = some v := by
      unfold start at h2
      rw [List.getElem?_append_left (by simpa using hi), List.getElem?_map] at h2
      cases e : vs[i]? with
      | none => rw [e] at h2; cases h2
      | some a => rw [e] at h2; cases h2; rfl
    obtain ⟨u, hu, rv⟩ := r.get ha
    have hp : ps[i]? = some y := by
      rw [← S.pre, List.getElem?_take_of_lt (by omega)]; exact h1
    have ndP : ps.Nodup := by rw [← S.pre]; exact S.nd.sublist (List.take_sublist _ _)
    refine ⟨u, rv, ?_⟩
    rcases S.par y (List.mem_of_getElem? hp) with k | k
    · exact .inl ⟨k, bindL_get ndP hp hu k⟩
    · obtain ⟨c, e⟩ := cell_has (n := s.heap.objs.size + 1) k
      refine .inr ⟨.inl k, c, e, ?_⟩
      have q := x.cell y c e
      rw [bindC_get ndP hp hu (by show scope.names.lookup y ≠ _; rw [k]; decide)] at q
      exact q
  · exact e0.hok.fresh (Nat.le_of_lt (x.above y c (PySem.mem_of_lookup h)))
  · unfold start
    show _ = N.length
    rw [List.length_append, List.length_map, List.length_replicate]
    omega
theorem fn_of {CX : CXT} {P : Program} {w : World} {K : PySem.W.Frag} {mg : Str → Option Value} {base : Heap} {k : Nat} {f : Addr} {name qual : Str} {params : Arguments} {body : List Stmt} {scope : Scope} {dV kV doc pm cdv ct oc : Value} {an od : Option Addr}
    {osl : Array (Option Value)} {N ps : List Str} {sp : Sp} (lk : K.lookup f = some ⟨oc, od, .func (PySem.W.fnOf name qual params body scope dV kV doc pm an cdv ct), osl⟩) (hcd : PySem.W.codeIn K cdv qual = true) (S : FnScope N ps scope)
    (len : ∀ vs H Q E, sp vs H Q E → vs.length = ps.length)
    (hbody : ∀ (A : Around) (outer : List Env) (s : Shared) (H : Hp) (vs : List V) (Q : VK) (E : XK), Room k (A.deeper (envOfC qual scope s.heap.objs.size f cdv)) → sp vs H Q E →
      ∃ t, PSs (cxOf CX P w K mg base N qual scope f cdv A outer s H E) body t ∧ t { nx := fun _ H' => Q .non H', rt := Q } (start N vs) H) :
    FnOk P w K mg base CX (k + 1) f (PySem.W.fnOf name qual params body scope dV kV doc pm an cdv ct) ps sp := by
  refine ⟨len, fun A outer s H args us vs Q E hr e0 hb r hsp => ?_⟩
  have hl := len _ _ _ _ hsp
  have KX : K.In s.heap := e0.mod.kin.keeps fun b o e => (e0.bs b o e).1
  have lim : s.heap.NoLimit := e0.mod.nolimit.keeps fun b o e => (e0.bs b o e).1
  have hkind : ∀ y ∈ ps.zip us, scope.names.lookup y.1 = some .local ∨ (scope.names.lookup y.1 = some .cell ∧ ((cellsFrom (s.heap.objs.size + 1) scope.names []).lookup y.1).isSome = true) := fun ⟨n, v⟩ hy => by
    rcases S.par n (List.of_mem_zip hy).1 with q | q
    · exact .inl q
    · exact .inr ⟨q, PySem.W.cellsFrom_some _ _ _ (.inl q)⟩
  refine codeAny_call_function hr.depth (KX _ _ lk) rfl S.co S.gen rfl (PySem.W.codeRec_of KX hcd) (hb _ _ _ _ ?_)
  refine wpAny_newFunctionEnv_cells S.kind hkind fun env he s1 x => ?_
  subst he
  refine ⟨lim.keeps x.toInCall.keep, codeAny_func ?_⟩
  obtain ⟨t, ht, hq⟩ := hbody A outer s H vs Q E (hr.deeper _) hsp
  have I : Inv (cxOf CX P w K mg base N qual scope f cdv A outer s H E) [] (start N vs) H s1 := inv_start S hr.hd e0 hl r x
  refine wpAny_mono (ht [] s1 (start N vs) H _ I hq) (fun fl s' hs => ?_) fun e s' hs => hs
  have fin : ∀ {σ' : St} {H' : Hp} {v : V} {u : Value}, Inv (cxOf CX P w K mg base N qual scope f cdv A outer s H E) [] σ' H' s' → RelV v u → Q v H' → CE outer P w H s Q u s' :=
    fun {σ' H' v u} J rv q => ⟨v, H', J.os, J.bare, J.base, J.hok, rv, q⟩
  cases fl with
  | ret u =>
    obtain ⟨v, σ', H', J, rv, q⟩ := hs
    exact fin J rv q
  | next =>
    obtain ⟨σ', H', J, q⟩ := hs
    exact fin (v := V.non) (u := Value.none) J rfl q
  | brk =>
    obtain ⟨_, _, _, q⟩ := hs
    exact False.elim q
  | cont =>
    obtain ⟨_, _, _, q⟩ := hs
    exact False.elim q
end L2
namespace L2
open PySem PySem.Spec PyProof.Rows
section
variable {X : Cx} {x : Str} {p pos : Pos} {e : Expr} {es : List Expr} {t : TA} {id T : String} {r : List V → Hp → VK → Prop}
def tCB (r : List V → Hp → VK → Prop) (t : TA) : TE := fun σ H Q => t σ H fun vs H1 => r vs H1 Q
theorem pe_callB (hc : CallR X (.builtin id) r) (hg : Gl X x) (hm : X.mg x = none) (hv : bootBuiltins x = some (.builtin id)) (ha : PA X (e :: es) t) (hn : x ≠ "__name__" := by decide) (hdb : (x == ("__debug__" : Str)) = false := by decide)
    (he : starEach (e :: es) X.env = (false, eval e X.env) :: starEach es X.env := by rfl) (hpl : (backTo pos (starEach es X.env)).any (·.1) = false := by rfl) : PE X (.Call (.Name x p) (e :: es) [] pos) (tCB r t) := by
  intro pins s σ H Q I h
  refine wpAny_Call_Name_kw (ld_blt I hg hm hv ?_ hn hdb)
  exact PyProof.Rows.callWith_builtin1 (thn (ha pos pins s σ H _ I h) fun us s1 ⟨vs, H1, I1, r1, q1⟩ => hc pins s1 σ H1 vs us Q I1 r1 q1) he hpl
theorem pe_callTy (hc : CallR X (.type T) r) (hg : Gl X x) (hm : X.mg x = none) (hv : bootBuiltins x = some (.type T)) (ha : PA X (e :: es) t) (hn : x ≠ "__name__" := by decide) (hdb : (x == ("__debug__" : Str)) = false := by decide)
    (he : starEach (e :: es) X.env = (false, eval e X.env) :: starEach es X.env := by rfl) (hpl : (backTo pos (starEach es X.env)).any (·.1) = false := by rfl) : PE X (.Call (.Name x p) (e :: es) [] pos) (tCB r t) := by
  intro pins s σ H Q I h
  refine wpAny_Call_Name_kw (ld_blt I hg hm hv ?_ hn hdb)
  exact PyProof.Rows.callWith_type1 (thn (ha pos pins s σ H _ I h) fun us s1 ⟨vs, H1, I1, r1, q1⟩ => hc pins s1 σ H1 vs us Q I1 r1 q1) he hpl
end
end L2
namespace HT
open PySem PyProof.Rows
section
open PySem.SeqAt
open PySem.AutoSeq1 (wpAny_loadPart')
open PySem.MeetsSeq PySem.MeetsSeq2 PySem.MeetsSeq3
end
section
variable {prog : Program} {w : World} {A : Around} {E : Value → Shared → Prop} {s : Shared}
def sIx (n d : Nat) : Option Int → Nat
  | none => d
  | some v => if v < 0 then (v + (n : Int)).toNat else min v.toNat n
theorem sIx_none (n d : Nat) : sIx n d none = d := rfl
theorem sIx_nat (n d k : Nat) : sIx n d (some (k : Int)) = min k n := by
  show (if (k : Int) < 0 then ((k : Int) + (n : Int)).toNat else min (k : Int).toNat n) = min k n
  rw [if_neg (by omega), Int.toNat_natCast]
theorem sIx_le (n d : Nat) (hd : d ≤ n) (o : Option Int) : sIx n d o ≤ n := by
  cases o with
  | none => exact hd
  | some v =>
    show (if v < 0 then (v + (n : Int)).toNat else min v.toNat n) ≤ n
    by_cases hv : v < 0
    · rw [if_pos hv]; omega
    · rw [if_neg hv]; exact Nat.min_le_right _ _
theorem clip_eq (v : Int) (n d : Nat) : (if v < 0 then max (v + (n : Int)) 0 else min v (n : Int)) = ((sIx n d (some v) : Nat) : Int) := by
  show (if v < 0 then max (v + (n : Int)) 0 else min v (n : Int)) = (((if v < 0 then (v + (n : Int)).toNat else min v.toNat n) : Nat) : Int)
  by_cases hv : v < 0
  · simp only [if_pos hv]; omega
  · simp only [if_neg hv]; omega
theorem adjust_gen (lo hi : Option Int) (n : Nat) : Builtin.Slice.sliceAdjust lo hi 1 (n : Int) = (((sIx n 0 lo : Nat) : Int), ((sIx n n hi : Nat) : Int)) := by
  have h1 : ¬ ((1 : Int) < 0) := by omega
  unfold Builtin.Slice.sliceAdjust
  simp only [h1, if_false]
  refine Prod.ext ?_ ?_
  · cases lo with
    | none => rfl
    | some v => exact clip_eq v n 0
  · cases hi with
    | none => rfl
    | some v => exact clip_eq v n n
theorem places_gen (i j : Nat) : Builtin.Slice.slicePlaces (i : Int) (j : Int) 1 = j - i := by
  unfold Builtin.Slice.slicePlaces
  have h1 : (1 : Int) > 0 := by omega
  simp only [h1, if_true, Int.ediv_one]
  split <;> omega
theorem slicePart_ {v : Value} {o : Option Int} {Q : Option Int → Shared → Prop} (p : IsPart v o) (h : Q o s) : wpAny (model prog w) A (Builtin.Slice.slicePartIndex v) Q E s := by
  cases p with
  | none => exact slicePart_none h
  | int i t => exact slicePart_int h
theorem sliceApplied_gen {sl : Addr} {vl vu : Value} {lo hi : Option Int} {n : Nat} {Q : Int × Int × Nat → Shared → Prop} (hs : s.heap.IsSliceOf sl vl vu .none) (pl : IsPart vl lo) (pu : IsPart vu hi)
    (h : Q (((sIx n 0 lo : Nat) : Int), 1, sIx n n hi - sIx n 0 lo) s) : wpAny (model prog w) A (Builtin.Slice.sliceApplied (.ref sl) (pure (n : Int))) Q E s := by
  obtain ⟨os, hos, hcs, hds⟩ := id hs
  unfold Builtin.Slice.sliceApplied Builtin.Slice.sliceFields
  refine wpAny_bind (wpAny_bind (wpAny_field hos hds (x := vl) rfl (wpAny_bind (wpAny_field hos hds (x := vu) rfl (wpAny_bind (wpAny_field hos hds (x := .none) rfl (wpAny_pure ?_)))))))
  refine wpAny_bind (slicePart_none ?_)
  show wpAny _ _ (if ((1 : Int) == 0) = true then _ else _) _ _ s
  rw [if_neg (by decide)]
  refine wpAny_bind (slicePart_ pl (wpAny_bind (slicePart_ pu (wpAny_bind (wpAny_pure ?_)))))
  show wpAny _ _ (match Builtin.Slice.sliceAdjust lo hi 1 (n : Int) with | (lo, hi) => pure (lo, (1 : Int), Builtin.Slice.slicePlaces lo hi 1)) _ _ s
  rw [adjust_gen lo hi n]
  show wpAny _ _ (pure (((sIx n 0 lo : Nat) : Int), (1 : Int), Builtin.Slice.slicePlaces ((sIx n 0 lo : Nat) : Int) ((sIx n n hi : Nat) : Int) 1)) _ _ s
  rw [places_gen]
  exact wpAny_pure h
theorem pick_gen (xs : Array Value) (i k : Nat) : ((List.range k).filterMap fun (m : Nat) => xs[((i : Int) + (m : Int) * 1).toNat]?).toArray = ((xs.toList.drop i).take k).toArray := by
  have e : (fun (m : Nat) => xs[((i : Int) + (m : Int) * 1).toNat]?) = fun m => xs[i + m]? := by
    funext m
    have : ((i : Int) + (m : Int) * 1).toNat = i + m := by omega
    rw [this]
  rw [e]
  have := pick_run xs i k
  rw [List.filterMap_map] at this
  have e2 : ((fun x => xs[x]?) ∘ fun x => i + x) = fun m => xs[i + m]? := rfl
  rw [e2] at this
  rw [this]
theorem getItem_tuple_cut {t sl : Addr} {items : Array Value} {vl vu : Value} {lo hi : Option Int} {Q : Value → Shared → Prop} (ht : IsTup s.heap t items) (hs : s.heap.IsSliceOf sl vl vu .none) (pl : IsPart vl lo) (pu : IsPart vu hi)
    (hw : ¬ (sIx items.size 0 lo = 0 ∧ sIx items.size items.size hi = items.size))
    (h : Q (.ref s.heap.objs.size) { s with heap := s.heap.push { cls := .type "tuple", data := .seq ((items.toList.drop (sIx items.size 0 lo)).take (sIx items.size items.size hi - sIx items.size 0 lo)).toArray } })
    (hsz : items.size ≤ sizeLine) : wpAny (model prog w) A (getItem (.ref t) (.ref sl)) Q E s := by
  have htake : sizeOk (.seq ((items.toList.drop (sIx items.size 0 lo)).take (sIx items.size items.size hi - sIx items.size 0 lo)).toArray) := by
    show ((items.toList.drop (sIx items.size 0 lo)).take (sIx items.size items.size hi - sIx items.size 0 lo)).toArray.size ≤ sizeLine
    rw [List.size_toArray, List.length_take, List.length_drop, Array.length_toList]
    omega
  have hj : sIx items.size items.size hi ≤ items.size := sIx_le _ _ (Nat.le_refl _) hi
  obtain ⟨os, hos, hcs, hds⟩ := id hs
  have hTs : s.TypeIs (.ref sl) "slice" := ⟨os, hos, hcs⟩
  unfold getItem
  try with_reducible refine wpAny_holding ?_
  first | refine wpAny_bind (wpAny_pure ?_) | skip
  refine wpAny_bind (wpAny_sequenceKey ht.typeIs (by decide) ?_)
  refine wpAny_bind (wpAny_callSpecial?_slot (name := Str.ofString "__getitem__") ht.typeIs PyProof.Rows.slot_tuple_getitem
    (wpAny_call_entry PyProof.Rows.slot_tuple_getitem ht.typeIs entry_tuple_getitem ?_ (args_tuple_getitem _ _)))
  show wpAny _ _ (Builtin.Tuple.tupleItemsOf (.ref t) >>= _) _ _ s
  refine wpAny_bind (tupleItemsOf_ ht ?_)
  refine wpAny_bind (wpAny_typeOf hTs ?_)
  rw [if_pos (by decide)]
  refine wpAny_bind (sliceApplied_gen hs pl pu ?_)
  have hno : ¬ ((((sIx items.size 0 lo : Nat) : Int) == 0 && (1 : Int) == 1 && (sIx items.size items.size hi - sIx items.size 0 lo) == items.size) = true) := by
    intro q
    rw [Bool.and_eq_true, Bool.and_eq_true] at q
    have q1 : ((sIx items.size 0 lo : Nat) : Int) = 0 := eq_of_beq q.1.1
    have q2 : sIx items.size items.size hi - sIx items.size 0 lo = items.size := eq_of_beq q.2
    exact hw ⟨by omega, by omega⟩
  show wpAny _ _ (if (((sIx items.size 0 lo : Nat) : Int) == 0 && (1 : Int) == 1 && (sIx items.size items.size hi - sIx items.size 0 lo) == items.size) = true then _ else _) _ _ s
  rw [if_neg hno, pick_gen]
  first
    | exact wpAny_bind (m := Builtin.Tuple.tupleExact _) (wpAny_newObj_type (wpAny_pure ⟨_, rfl, wpAny_pure h⟩) htake)
    | exact wpAny_bind (m := Builtin.Tuple.tupleExact _) (wpAny_newObj_type (wpAny_bind (wpAny_pure (wpAny_pure ⟨_, rfl, wpAny_pure h⟩))) htake)
    | exact wpAny_bind (wpAny_bind (m := Builtin.Tuple.tupleExact _) (wpAny_newObj_type (wpAny_pure (wpAny_pure ⟨_, rfl, wpAny_pure h⟩)) htake))
    | exact wpAny_bind (wpAny_bind (m := Builtin.Tuple.tupleExact _) (wpAny_newObj_type (wpAny_pure ⟨_, rfl, wpAny_pure h⟩) htake))
end
end HT
namespace L2
open PySem PySem.Spec PyProof.Rows
abbrev TO := St → Hp → (Option Int → Hp → Prop) → Prop
def PO (X : Cx) (e : Option Expr) (t : TO) : Prop :=
  ∀ (pins : List (Addr × Obj)) (s : Shared) (σ : St) (H : Hp) (Q : Option Int → Hp → Prop), Inv X pins σ H s → t σ H Q →
    wpAny (model X.prog X.w) X.A (evalPart e X.env) (fun u s' => ∃ o H', Inv X pins σ H' s' ∧ IsPart u o ∧ Q o H') X.xe s
def tNoPart : TO := fun _ H Q => Q none H
def tPart (t : TE) : TO := fun σ H Q => t σ H fun x H1 => ∃ i, x = .int i ∧ Q (some i) H1
theorem intsAre_of {ns : List Int} : ∀ {us : List Value}, Vals (ns.map V.int) us → IntsAre us ns := by
  induction ns with
  | nil => intro us r; rw [List.map_nil] at r; cases r; exact .nil
  | cons n ns ih =>
    intro us r
    rw [List.map_cons] at r
    cases r with
    | cons r1 r2 =>
      obtain ⟨t, e⟩ := r1
      subst e
      exact .cons n t (ih r2)
section
variable {X : Cx} {e : Expr} {te : TE} {lo hi : Option Expr} {tl th : TO} {pos p2 : Pos}
theorem po_none : PO X none tNoPart := by
  intro pins s σ H Q I h
  rw [evalPart_none]
  exact wpAny_pure ⟨none, H, I, .none, h⟩
theorem po_some (h : PE X e te) : PO X (some e) (tPart te) := by
  intro pins s σ H Q I hw
  rw [evalPart_some]
  refine thn (h pins s σ H _ I hw) fun u s1 ⟨x, H1, I1, r1, q1⟩ => ?_
  obtain ⟨i, rfl, q⟩ := q1
  obtain ⟨t, rfl⟩ := r1
  exact ⟨some i, H1, I1, .int i t, q⟩
def SlR (X : Cx) (r : V → Option Int → Option Int → Hp → VK → Prop) : Prop :=
  ∀ (pins : List (Addr × Obj)) (s : Shared) (σ : St) (H : Hp) (x : V) (v vl vu : Value) (lo hi : Option Int) (sl : Addr) (Q : VK), Inv X pins σ H s → RelV x v → s.heap.IsSliceOf sl vl vu .none → IsPart vl lo → IsPart vu hi → r x lo hi H Q →
    ∃ T id, typeLookup (.type T) "__getitem__" = pure (some (.builtin id)) ∧ s.TypeIs v T ∧ wpAny (model X.prog X.w) X.A (getItem v (.ref sl)) (EP X pins σ Q) X.xe s
def tSl (r : V → Option Int → Option Int → Hp → VK → Prop) (te : TE) (tl th : TO) : TE := fun σ H Q => te σ H fun x H1 => tl σ H1 fun l H2 => th σ H2 fun u H3 => r x l u H3 Q
theorem pe_slice {r : V → Option Int → Option Int → Hp → VK → Prop} (hr : SlR X r) (he : PE X e te) (hl : PO X lo tl) (hu : PO X hi th) : PE X (.Subscript e (.Slice lo hi none p2) pos) (tSl r te tl th) := by
  intro pins s σ H Q I h
  refine Subscript_ (thn (he pins s σ H _ I h) fun v s1 ⟨x, H1, I1, r1, q1⟩ => ?_)
  refine wpAny_Slice (thn (hl pins s1 σ H1 _ I1 q1) fun vl s2 ⟨l, H2, I2, pl, q2⟩ => thn (hu pins s2 σ H2 _ I2 q2) fun vu s3 ⟨u, H3, I3, pu, q3⟩ => ?_)
  rw [evalPart_none]
  refine wpAny_pure ?_
  have I4 : Inv X pins σ H3 { s3 with heap := s3.heap.push { cls := .type "slice", data := .fields #[vl, vu, .none] } } := I3.kept (t' := s3.toks) fun b ob q => Heap.get?_push_of_some _ q
  obtain ⟨T, id, hT, ht, hg⟩ := hr pins { s3 with heap := s3.heap.push { cls := .type "slice", data := .fields #[vl, vu, .none] } } σ H3 x v vl vu l u s3.heap.objs.size Q I4 r1 (Heap.IsSliceOf.new ..) pl pu q3
  show wpAny (model X.prog X.w) X.A (subscriptTail e (.Slice lo hi none p2) v (.ref s3.heap.objs.size)) (EP X pins σ Q) X.xe { s3 with heap := s3.heap.push { cls := .type "slice", data := .fields #[vl, vu, .none] } }
  exact tail_any (ops := [.ref s3.heap.objs.size, v]) ht hT hg (by with_unfolding_all rfl)
def cutV (xs : List V) (lo hi : Option Int) : List V := (xs.drop (HT.sIx xs.length 0 lo)).take (HT.sIx xs.length xs.length hi - HT.sIx xs.length 0 lo)
theorem cutV_length (xs : List V) (lo hi : Option Int) : (cutV xs lo hi).length ≤ xs.length := by
  unfold cutV
  rw [List.length_take, List.length_drop]
  omega
def rSlT (K : PySem.W.Frag) : V → Option Int → Option Int → Hp → VK → Prop := fun x lo hi H Q => ∃ a xs, x = .ref a ∧ SqT K H a xs ∧
  ¬ (HT.sIx xs.length 0 lo = 0 ∧ HT.sIx xs.length xs.length hi = xs.length) ∧ ∀ p, H p = none → Q (.ref p) (upd H p (.tup (cutV xs lo hi)))
theorem sl_tup : SlR X (rSlT X.K) := by
  intro pins s σ H x v vl vu lo hi sl Q I rx hs pl pu h
  obtain ⟨a, xs, rfl, hx, hw, q⟩ := h
  cases rx
  obtain ⟨its, r, ht, hz⟩ := I.tuple hx
  have hlen : its.toArray.size = xs.length := by rw [List.size_toArray]; exact r.length.symm
  refine ⟨"tuple", _, PyProof.Rows.slot_tuple_getitem.lookup, ht.typeIs, ?_⟩
  refine HT.getItem_tuple_cut ht hs pl pu (by rw [hlen]; exact hw) ?_ (by rw [hlen]; exact hz)
  rw [hlen]
  refine ⟨.ref s.heap.objs.size, _, I.laid (t' := s.toks) (o := .tup (cutV xs lo hi)) (fun b ob q => Heap.get?_push_of_some _ q) (Nat.le_refl _) ?_, rfl, q _ (I.hok.fresh (Nat.le_refl _))⟩
  exact ⟨Nat.le_trans (cutV_length xs lo hi) hz, _, (r.drop (HT.sIx xs.length 0 lo)).take (HT.sIx xs.length xs.length hi - HT.sIx xs.length 0 lo), IsTup.new _ _⟩
end
end L2
namespace L2
open PySem PySem.Spec PyProof.Rows
def ixN (n : Nat) (i : Int) : Option Nat := if 0 ≤ i then (if i < n then some i.toNat else none) else if -(n : Int) ≤ i then some (i + n).toNat else none
def atI {α : Type} (xs : List α) (i : Int) : Option α := (ixN xs.length i).bind fun j => xs[j]?
theorem ixN_seq {n : Nat} {i : Int} {j : Nat} (h : ixN n i = some j) : seqIndex? i n = some j ∧ j < n ∧ -(n : Int) ≤ i ∧ i < n := by
  unfold ixN at h
  by_cases h0 : 0 ≤ i
  · rw [if_pos h0] at h
    by_cases h1 : i < n
    · rw [if_pos h1] at h
      have e : i.toNat = j := Option.some.inj h
      exact ⟨by rw [seqIndex_of h0 h1, e], by omega, by omega, h1⟩
    · rw [if_neg h1] at h; cases h
  · rw [if_neg h0] at h
    by_cases h1 : -(n : Int) ≤ i
    · rw [if_pos h1] at h
      have e : (i + n).toNat = j := Option.some.inj h
      exact ⟨by rw [seqIndex_neg (by omega) h1, e], by omega, h1, by omega⟩
    · rw [if_neg h1] at h; cases h
theorem atI_get {α : Type} {xs : List α} {i : Int} {v : α} (h : atI xs i = some v) : ∃ j, seqIndex? i xs.length = some j ∧ xs[j]? = some v ∧ j < xs.length ∧ -(xs.length : Int) ≤ i ∧ i < xs.length := by
  unfold atI at h
  cases e : ixN xs.length i with
  | none => rw [e] at h; cases h
  | some j =>
    rw [e] at h
    obtain ⟨h1, h2, h3, h4⟩ := ixN_seq e
    exact ⟨j, h1, h, h2, h3, h4⟩
theorem atI_nat {α : Type} {xs : List α} {j : Nat} {v : α} (h : xs[j]? = some v) : atI xs (j : Int) = some v := by
  have hj : j < xs.length := (List.getElem?_eq_some_iff.mp h).1
  have e : ixN xs.length (j : Int) = some j := by
    unfold ixN
    rw [if_pos (by omega), if_pos (by omega)]; simp
  unfold atI; rw [e]; exact h
def PlainIx (b : Expr) : Prop := ∀ o i, subscripted b false o i = operate [o, i] (getItem o i)
def IxR (X : Cx) (r : R2) : Prop :=
  ∀ (value slice : Expr) (pins : List (Addr × Obj)) (s : Shared) (σ : St) (H : Hp) (x y : V) (v u : Value) (Q : VK), Inv X pins σ H s → RelV x v → RelV y u → r x y H Q →
    subscripted slice false v u = operate [v, u] (getItem v u) → wpAny (model X.prog X.w) X.A (subscriptTail value slice v u) (EP X pins σ Q) X.xe s
def MtR (X : Cx) (id : String) (r : V → List V → Hp → VK → Prop) : Prop :=
  ∀ (pins : List (Addr × Obj)) (s : Shared) (σ : St) (H : Hp) (x : V) (xs : List V) (v : Value) (us : List Value) (Q : VK), Inv X pins σ H s → RelV x v → Vals xs us → r x xs H Q →
    wpAny (model X.prog X.w) X.A (call (.builtin id) (v :: us)) (EP X pins σ Q) X.xe s
section
variable {X : Cx} {a b : Expr} {ta tb : TE} {pos : Pos}
theorem pe_ix {r : R2} (hr : IxR X r) (ha : PE X a ta) (hb : PE X b tb) (hs : PlainIx b) : PE X (.Subscript a b pos) (tOp r ta tb) := by
  intro pins s σ H Q I h
  exact Subscript_ (binT ha hb I h fun v u s2 x y H2 I2 rx ry q => hr a b pins s2 σ H2 x y v u Q I2 rx ry q (hs _ _))
def rIxL (K : PySem.W.Frag) : R2 := fun x y H Q => ∃ p xs i v, x = .ref p ∧ y = .int i ∧ SqL K H p xs ∧ atI xs i = some v ∧ Q v H
def rIxT (K : PySem.W.Frag) : R2 := fun x y H Q => ∃ p xs i v, x = .ref p ∧ y = .int i ∧ SqT K H p xs ∧ atI xs i = some v ∧ Q v H
theorem ix_list : IxR X (rIxL X.K) := by
  intro value slice pins s σ H x y v u Q I rx ry h hs
  obtain ⟨p, xs, i, z, rfl, rfl, hq, he, q⟩ := h
  cases rx
  obtain ⟨t, rfl⟩ := ry
  obtain ⟨its, r, pl, hz⟩ := I.list hq
  obtain ⟨j, h1, h2, h3, h4, h5⟩ := atI_get he
  obtain ⟨w, ew, rw'⟩ := r.get h2
  have hl := r.length
  have hn := line63
  have fin : EP X pins σ Q w s := ⟨z, H, I, rw', q⟩
  by_cases h0 : 0 ≤ i
  · have hj : i.toNat = j := by
      rw [seqIndex_of h0 h5] at h1
      exact Option.some.inj h1
    exact item_listR pl.isList h0 (by omega) (by rw [hj]; simpa using ew) fin hs
  · have hj : (i + (its.toArray.size : Int)).toNat = j := by
      rw [seqIndex_neg (by omega) h4] at h1
      rw [List.size_toArray, ← hl]
      exact Option.some.inj h1
    exact subscriptTail_builtinR (x := w) pl.isList.typeIs slot_list_getitem.lookup
      (wpAny_getItem_list_neg (Q := fun r s' => r = w ∧ EP X pins σ Q r s') pl.isList (by omega) (by rw [List.size_toArray] <;> omega) (by omega) (by rw [hj]; simpa using ew) ⟨rfl, fin⟩) hs
theorem ix_tup : IxR X (rIxT X.K) := by
  intro value slice pins s σ H x y v u Q I rx ry h hs
  obtain ⟨p, xs, i, z, rfl, rfl, hq, he, q⟩ := h
  cases rx
  obtain ⟨t, rfl⟩ := ry
  obtain ⟨its, r, pl, hz⟩ := I.tuple hq
  obtain ⟨j, h1, h2, h3, h4, h5⟩ := atI_get he
  obtain ⟨w, ew, rw'⟩ := r.get h2
  have hl := r.length
  have hn := line63
  have fin : EP X pins σ Q w s := ⟨z, H, I, rw', q⟩
  exact subscriptTail_builtinR (x := w) pl.typeIs slot_tuple_getitem.lookup
    (getItem_tuple (j := j) (Q := fun r s' => r = w ∧ EP X pins σ Q r s') pl (by omega) (by omega) (by rw [List.size_toArray, ← hl]; exact h1) (by simpa using ew) ⟨rfl, fin⟩) hs
theorem mapSeq_set (its : List Value) (n j : Nat) (u : Value) : Obj.mapSeq (·.setIfInBounds j u) { cls := .type "list", data := .seq its.toArray n } = { cls := .type "list", data := .seq (its.set j u).toArray n } := by
  simp [Obj.mapSeq]
theorem Inv.lst {pins : List (Addr × Obj)} {σ : St} {H : Hp} {s : Shared} {p : Addr} {xs : List V} (I : Inv X pins σ H s) (h : H p = some (.lst xs)) :
    ∃ (its : List Value) (n : Nat), Vals xs its ∧ s.heap.get? p = some { cls := .type "list", data := .seq its.toArray n } ∧ xs.length ≤ sizeLine := by
  obtain ⟨z, its, n, r, e⟩ := I.hok p _ h
  exact ⟨its, n, r, e, z⟩
theorem Inv.lstUpd {pins : List (Addr × Obj)} {σ : St} {H : Hp} {s : Shared} {p : Addr} {xs ys : List V} {its its' : List Value} {n n' : Nat} {f : Obj → Obj} (I : Inv X pins σ H s) (h : H p = some (.lst xs))
    (ho : s.heap.get? p = some { cls := .type "list", data := .seq its.toArray n }) (hf : f { cls := .type "list", data := .seq its.toArray n } = { cls := .type "list", data := .seq its'.toArray n' }) (r : Vals ys its') (hz : ys.length ≤ sizeLine) (t : Nat) :
    Inv X pins σ (upd H p (.lst ys)) { s with heap := s.heap.update p f, toks := t } := by
  have e : (s.heap.update p f).get? p = some { cls := .type "list", data := .seq its'.toArray n' } := by
    rw [Heap.get?_update_self f ho (by rw [hf] <;> rfl), hf]
  refine I.write (x := p) (e := p) (by rw [h]; trivial) (.inl rfl) (fun b u hb q => (Heap.get?_update_other _ _ (Ne.symm hb)).trans q) ⟨_, e⟩ ?_
  exact ⟨hz, its', n', r, e⟩
def rSetL : V → V → V → Hp → (Hp → Prop) → Prop := fun o i v H Q => ∃ p xs k j, o = .ref p ∧ i = .int k ∧ H p = some (.lst xs) ∧ ixN xs.length k = some j ∧ Q (upd H p (.lst (xs.set j v)))
theorem set_list : PSet X rSetL := by
  intro pins s σ H o i v ov iv u Q I ro ri rv h
  obtain ⟨p, xs, k, j, rfl, rfl, hp, hj, q⟩ := h
  cases ro
  obtain ⟨t, rfl⟩ := ri
  obtain ⟨its, n, r, ho, hz⟩ := I.lst hp
  obtain ⟨h1, h2, h3, h4⟩ := ixN_seq hj
  have hl := r.length
  have hn := line63
  have I' : Inv X pins σ (upd H p (.lst (xs.set j v))) { s with heap := s.heap.update p (Obj.mapSeq (·.setIfInBounds j u)) } :=
    I.lstUpd hp ho (mapSeq_set its n j u) (r.set rv j) (by rw [List.length_set]; exact hz) s.toks
  by_cases h0 : 0 ≤ k
  · have hk : k.toNat = j := by
      rw [seqIndex_of h0 h4] at h1
      exact Option.some.inj h1
    exact PySem.W.ki_setAt ho h0 (by omega) (by rw [List.size_toArray, ← hl]; exact h4) (by rw [hk]; exact ⟨_, I', q⟩)
  · have hk : (k + (its.toArray.size : Int)).toNat = j := by
      rw [seqIndex_neg (by omega) h3] at h1
      rw [List.size_toArray, ← hl]
      exact Option.some.inj h1
    exact PySem.W.ki_setBack ho (by omega) (by rw [List.size_toArray, ← hl]; exact h3) (by omega) (by rw [hk]; exact ⟨_, I', q⟩)
theorem slice_bounds (lo hi : Option Int) (n : Nat) : (sliceBounds lo hi none n).1 = ((HT.sIx n 0 lo : Nat) : Int) ∧ (sliceBounds lo hi none n).2.1 = ((HT.sIx n n hi : Nat) : Int) ∧ (sliceBounds lo hi none n).2.2 = 1 := by
  refine ⟨?_, ?_, rfl⟩
  · cases lo with
    | none => simp [sliceBounds, HT.sIx]
    | some i =>
      simp only [sliceBounds, HT.sIx, Option.getD_none, show (1 : Int) > 0 by decide, if_true]
      by_cases h : i < 0
      · simp only [h, if_true] <;> omega
      · simp only [h, if_false] <;> omega
  · cases hi with
    | none => simp [sliceBounds, HT.sIx]
    | some i =>
      simp only [sliceBounds, HT.sIx, Option.getD_none, show (1 : Int) > 0 by decide, if_true]
      by_cases h : i < 0
      · simp only [h, if_true] <;> omega
      · simp only [h, if_false] <;> omega
theorem slicePick_cut (its : List Value) (lo hi : Option Int) : slicePick its.toArray lo hi none = ((its.drop (HT.sIx its.length 0 lo)).take (HT.sIx its.length its.length hi - HT.sIx its.length 0 lo)).toArray := by
  obtain ⟨h1, h2, h3⟩ := slice_bounds lo hi its.toArray.size
  unfold slicePick
  rw [h1, h2, h3]
  simp only [sliceRange_one, pick_run, List.size_toArray] <;> rfl
def rSlL (K : PySem.W.Frag) : V → Option Int → Option Int → Hp → VK → Prop := fun x lo hi H Q => ∃ a xs, x = .ref a ∧ SqL K H a xs ∧ ∀ p, H p = none → Q (.ref p) (upd H p (.lst (cutV xs lo hi)))
theorem sl_list : SlR X (rSlL X.K) := by
  intro pins s σ H x v vl vu lo hi sl Q I rx hs pl pu h
  obtain ⟨a, xs, rfl, hx, q⟩ := h
  cases rx
  obtain ⟨its, r, ht, hz⟩ := I.list hx
  have hlen := r.length
  refine ⟨"list", _, slot_list_getitem.lookup, ht.isList.typeIs, ?_⟩
  refine wpAny_getItem_list_slice ht.isList hs pl pu .none (by simp) ?_ (by rw [List.size_toArray] <;> omega)
  rw [slicePick_cut, ← hlen]
  refine ⟨.ref s.heap.objs.size, _, I.laid (t' := s.toks) (o := .lst (cutV xs lo hi)) (fun b ob q => Heap.get?_push_of_some _ q) (Nat.le_refl _) ?_, rfl, q _ (I.hok.fresh (Nat.le_refl _))⟩
  exact ⟨Nat.le_trans (cutV_length xs lo hi) hz, _, 0, (r.drop (HT.sIx xs.length 0 lo)).take (HT.sIx xs.length xs.length hi - HT.sIx xs.length 0 lo), Heap.get?_push_size _ rfl⟩
def flatV : V → Bool
  | .non => true
  | .bl _ => true
  | .int _ => true
  | .str _ => true
  | _ => false
def eqV : V → V → Bool
  | .non, .non => true
  | .bl a, .bl b => a == b
  | .bl a, .int b => (if a then 1 else 0) == b
  | .int a, .bl b => a == (if b then 1 else 0)
  | .int a, .int b => a == b
  | .str a, .str b => a == b
  | _, _ => false
theorem eqAt_V {A : Around} {s : Shared} {y x : V} {u v : Value} (ry : RelV y u) (rx : RelV x v) (fy : flatV y = true) (fx : flatV x = true) : SeqAt.EqAt A s u v (eqV y x) := by
  cases y with
  | non =>
    cases ry
    cases x with
    | non => cases rx; exact SeqAt.EqAt.same _
    | bl b => cases rx; exact SeqAt.EqAt.none_bool b
    | int b => obtain ⟨t, rfl⟩ := rx; exact SeqAt.EqAt.none_int b t
    | str b => obtain ⟨t, rfl⟩ := rx; exact SeqAt.EqAt.none_str b t
    | _ => exact absurd (show false = true from fx) Bool.false_ne_true
  | bl a =>
    cases ry
    cases x with
    | non => cases rx; exact SeqAt.EqAt.bool_none a
    | bl b => cases rx; exact SeqAt.EqAt.bool_bool a b
    | int b => obtain ⟨t, rfl⟩ := rx; exact SeqAt.EqAt.bool_int a b t
    | str b => obtain ⟨t, rfl⟩ := rx; exact SeqAt.EqAt.bool_str a b t
    | _ => exact absurd (show false = true from fx) Bool.false_ne_true
  | int a =>
    obtain ⟨t', rfl⟩ := ry
    cases x with
    | non => cases rx; exact SeqAt.EqAt.int_none a t'
    | bl b => cases rx; exact SeqAt.EqAt.int_bool a t' b
    | int b => obtain ⟨t, rfl⟩ := rx; exact SeqAt.EqAt.int_int a t' b t
    | str b => obtain ⟨t, rfl⟩ := rx; exact SeqAt.EqAt.int_str a t' b t
    | _ => exact absurd (show false = true from fx) Bool.false_ne_true
  | str a =>
    obtain ⟨t', rfl⟩ := ry
    cases x with
    | non => cases rx; exact SeqAt.EqAt.str_none a t'
    | bl b => cases rx; exact SeqAt.EqAt.str_bool a t' b
    | int b => obtain ⟨t, rfl⟩ := rx; exact SeqAt.EqAt.str_int a t' b t
    | str b => obtain ⟨t, rfl⟩ := rx; exact SeqAt.EqAt.str_str a t' b t
    | _ => exact absurd (show false = true from fx) Bool.false_ne_true
  | _ => exact absurd (show false = true from fy) Bool.false_ne_true
def eqU (x : V) (u : Value) : Bool := match u with
  | .none => eqV .non x
  | .bool b => eqV (.bl b) x
  | .int i _ => eqV (.int i) x
  | .str z _ => eqV (.str z) x
  | _ => false
theorem eqU_of {x y : V} {u : Value} (r : RelV y u) (f : flatV y = true) : eqU x u = eqV y x := by
  cases y with
  | non => cases r; rfl
  | bl b => cases r; rfl
  | int i => obtain ⟨t, rfl⟩ := r; rfl
  | str z => obtain ⟨t, rfl⟩ := r; rfl
  | _ => exact absurd (show false = true from f) Bool.false_ne_true
theorem any_eqU {x : V} : ∀ {xs : List V} {us : List Value}, Vals xs us → xs.all flatV = true → us.any (eqU x) = xs.any fun y => eqV y x
  | _, _, .nil, _ => rfl
  | y :: xs, u :: us, .cons r t, f => by
    rw [List.all_cons, Bool.and_eq_true] at f
    rw [List.any_cons, List.any_cons, eqU_of r f.1, any_eqU t f.2]
theorem mem_eqAt {A : Around} {s : Shared} {x : V} {v : Value} (rx : RelV x v) (fx : flatV x = true) : ∀ {xs : List V} {us : List Value}, Vals xs us → xs.all flatV = true → ∀ u ∈ us, SeqAt.EqAt A s u v (eqU x u)
  | _, _, .nil, _ => fun u hu => by cases hu
  | y :: xs, u :: us, .cons r t, f => fun u' hu => by
    rw [List.all_cons, Bool.and_eq_true] at f
    rcases List.mem_cons.mp hu with rfl | hu
    · rw [eqU_of r f.1]; exact eqAt_V r rx f.1 fx
    · exact mem_eqAt rx fx t f.2 u' hu
def inV (x : V) (xs : List V) : Bool := xs.any fun y => eqV y x
def rIn (K : PySem.W.Frag) (neg : Bool) : R2 := fun x y H Q => ∃ p xs, y = .ref p ∧ (SqL K H p xs ∨ SqT K H p xs) ∧ flatV x = true ∧ xs.all flatV = true ∧ Q (.bl (if neg then !inV x xs else inV x xs)) H
theorem op_in_seq : OpR X (compareOp .In) (rIn X.K false) := by
  intro pins s σ H x y v u Q I rx ry h
  obtain ⟨p, xs, rfl, hq, fx, fs, q⟩ := h
  cases ry
  rcases hq with hq | hq
  · obtain ⟨its, r, pl, hz⟩ := I.list hq
    refine SeqAt.in_listAt (eqU x) pl.isList (fun w hw => mem_eqAt rx fx r fs w (by simpa using hw)) ⟨.bl _, H, I, rfl, ?_⟩
    rw [show its.toArray.any (eqU x) = its.any (eqU x) by simp, any_eqU r fs]
    exact q
  · obtain ⟨its, r, pl, hz⟩ := I.tuple hq
    refine SeqAt.in_tupleAt (eqU x) pl (fun w hw => mem_eqAt rx fx r fs w (by simpa using hw)) ⟨.bl _, H, I, rfl, ?_⟩
    rw [show its.toArray.any (eqU x) = its.any (eqU x) by simp, any_eqU r fs]
    exact q
theorem call_len_seq : CallR X (.builtin "len") (fun xs H Q => ∃ p ys, xs = [.ref p] ∧ (SqL X.K H p ys ∨ SqT X.K H p ys) ∧ Q (.int ys.length) H) := by
  intro pins s σ H xs us Q I r h
  obtain ⟨p, ys, rfl, hq, q⟩ := h
  obtain ⟨u, rfl, rx⟩ := vals1 r
  cases rx
  have hn := line63
  rcases hq with hq | hq
  · obtain ⟨its, r', pl, hz⟩ := I.list hq
    have hlen := r'.length
    exact Calls.call_len_list pl.isList (by simp only [List.size_toArray] <;> omega) ⟨.int ys.length, H, I.tok _, ⟨s.toks + 1, by rw [List.size_toArray, hlen]⟩, q⟩
  · obtain ⟨its, r', pl, hz⟩ := I.tuple hq
    have hlen := r'.length
    exact len_tuple pl (by simp only [List.size_toArray] <;> omega) ⟨.int ys.length, H, I.tok _, ⟨s.toks + 1, by rw [List.size_toArray, hlen]⟩, q⟩
theorem call_list_of : CallR X (.type "list") (fun xs H Q => ∃ p ys, xs = [.ref p] ∧ (SqL X.K H p ys ∨ SqT X.K H p ys) ∧ ∀ l, H l = none → Q (.ref l) (upd H l (.lst ys))) := by
  intro pins s σ H xs us Q I r h
  obtain ⟨p, ys, rfl, hq, q⟩ := h
  obtain ⟨u, rfl, rx⟩ := vals1 r
  cases rx
  have fin : ∀ (its : List Value), Vals ys its → ys.length ≤ sizeLine → ∀ (h' : Heap) (c' : Nat), (∀ b o', s.heap.get? b = some o' → h'.get? b = some o') →
      h'.get? s.heap.objs.size = some { cls := .type "list", dict := none, data := .seq its.toArray c', slots := #[] } → EP X pins σ Q (.ref s.heap.objs.size) { s with heap := h' } := fun its r' hz h' c' kp e =>
    ⟨.ref s.heap.objs.size, _, I.laid (t' := s.toks) kp (Nat.le_refl _) (show ObjOk X.prog X.w _ h' _ (.lst ys) from ⟨hz, its, c', r', e⟩), rfl, q _ (I.hok.fresh (Nat.le_refl _))⟩
  rcases hq with hq | hq
  · obtain ⟨its, r', pl, hz⟩ := I.list hq
    have hlen := r'.length
    obtain ⟨o, ho, hc, n, hd⟩ := pl.isList
    exact call_list_seq p (.inl rfl) ho hc hd (fun h' c' kp e => fin its r' hz h' c' kp e) (by simp only [List.size_toArray] <;> omega)
  · obtain ⟨its, r', pl, hz⟩ := I.tuple hq
    have hlen := r'.length
    obtain ⟨o, ho, hc, n, hd⟩ := pl
    exact call_list_seq p (.inr rfl) ho hc hd (fun h' c' kp e => fin its r' hz h' c' kp e) (by simp only [List.size_toArray] <;> omega)
def tyV (K : PySem.W.Frag) (T : String) (x : V) (H : Hp) : Prop := match x with
  | .str _ => T = "str"
  | .int _ => T = "int"
  | .ref p => (T = "list" ∧ ∃ xs, SqL K H p xs) ∨ (T = "tuple" ∧ ∃ o, K.lookup p = some o ∧ o.cls = .type "tuple" ∧ o.dict = none) ∨
      (T = "dict" ∧ ((∃ kvs, H p = some (.dK kvs)) ∨ ∃ kvs, H p = some (.dT kvs))) ∨ (T = "set" ∧ ∃ S n, H p = some (.set S n))
  | _ => False
theorem tyV_is {pins : List (Addr × Obj)} {σ : St} {H : Hp} {s : Shared} {T : String} {x : V} {v : Value} (I : Inv X pins σ H s) (r : RelV x v) (ty : tyV X.K T x H) :
    s.TypeIs v T ∧ ∀ a, v = .ref a → ∃ ob, s.heap.get? a = some ob ∧ ob.dict = none := by
  cases x with
  | str z =>
    obtain ⟨t, rfl⟩ := r
    cases (show T = "str" from ty)
    exact ⟨typeIs_str s z t, fun _ e => nomatch e⟩
  | int i =>
    obtain ⟨t, rfl⟩ := r
    cases (show T = "int" from ty)
    exact ⟨typeIs_int s i t, fun _ e => nomatch e⟩
  | ref p =>
    cases r
    rcases ty with ⟨rfl, xs, hq⟩ | ⟨rfl, o, hk, hc, hd⟩ | ⟨rfl, hk⟩ | ⟨rfl, S, n, hk⟩
    · obtain ⟨its, _, pl, _⟩ := I.list hq
      refine ⟨pl.isList.typeIs, fun a e => ?_⟩
      cases e
      obtain ⟨o, n, e, c, hd, _⟩ := pl
      exact ⟨o, e, hd⟩
    · refine ⟨⟨o, I.kIn p o hk, hc⟩, fun a e => ?_⟩
      cases e
      exact ⟨o, I.kIn _ o hk, hd⟩
    · have z : ∃ o, s.heap.get? p = some o ∧ o.ExactDict := by
        rcases hk with ⟨kvs, hk⟩ | ⟨kvs, hk⟩
        · obtain ⟨_, _, _, _, o, _, _, e, ex, _⟩ := I.hok p _ hk
          exact ⟨o, e, ex⟩
        · obtain ⟨_, _, _, _, o, _, _, e, ex, _⟩ := I.hok p _ hk
          exact ⟨o, e, ex⟩
      obtain ⟨o, e, ex⟩ := z
      refine ⟨⟨o, e, ex.1⟩, fun a e2 => ?_⟩
      cases e2
      exact ⟨o, e, ex.2.1⟩
    · obtain ⟨o, _, _, _, e, ex, _⟩ := I.hok p _ hk
      refine ⟨⟨o, e, ex.1⟩, fun a e2 => ?_⟩
      cases e2
      exact ⟨o, e, ex.2.1⟩
  | _ => exact False.elim ty
def tBM (K : PySem.W.Frag) (T : String) (r : V → List V → Hp → VK → Prop) (to : TE) (t : TA) : TE := fun σ H Q => to σ H fun x H1 => tyV K T x H1 ∧ t σ H1 fun xs H2 => r x xs H2 Q
variable {o e : Expr} {es : List Expr} {to : TE} {t : TA} {name : Str} {apos cpos : Pos} {T id : String} {r : V → List V → Hp → VK → Prop}
theorem pe_bm (pa : PlainAttrs T) (slot : Slot T name id) (hty : typeOf (.builtin id) = pure (.type "method_descriptor")) (hm : MtR X id r) (ho : PE X o to) (ha : PA X (e :: es) t)
    (hbase : attributeBase o name X.env (eval o X.env) = eval o X.env := by rfl)
    (hfew : ((backTo cpos (starEach (e :: es) X.env)).all (fun x => !x.1) && (backToKw cpos (keywordEach [] X.env)).all (fun x => x.1.isSome)
      && decide ((e :: es).length + ([] : List Keyword).length + (if ([] : List Keyword).isEmpty then 0 else 1) < 30)) = true := by rfl)
    (hline : (apos.endLine == cpos.line) = true := by rfl) (hs : starEach (e :: es) X.env = (false, eval e X.env) :: starEach es X.env := by rfl) (hplain : (backTo cpos (starEach es X.env)).any (·.1) = false := by rfl) :
    PE X (.Call (.Attribute o name apos) (e :: es) [] cpos) (tBM X.K T r to t) := by
  intro pins s σ H Q I h
  refine wpAny_Call_method_late hbase hfew hline rfl (thn (ho pins s σ H _ I h) fun v s1 ⟨x, H1, I1, r1, ty, q1⟩ => ?_)
  obtain ⟨h1, h2⟩ := tyV_is I1 r1 ty
  refine ⟨T, id, pa, slot, hty, h1, h2, ?_⟩
  have hA := ha cpos pins s1 σ H1 _ I1 q1
  rw [hs] at hA ⊢
  refine Calls.callWith_builtin (by show (false || (backTo cpos (starEach es X.env)).any (·.1)) = false; rw [hplain] <;> rfl) (Calls.evalArgs_plain ?_)
  exact thn hA fun us s2 ⟨vs, H2, I2, r2, q2⟩ => hm pins s2 σ H2 x vs v us Q I2 r1 r2 q2
end
end L2
namespace L2
open PySem PySem.Spec PyProof.Rows
def MtM (X : Cx) (id : String) (r : V → List V → Hp → VK → Prop) : Prop :=
  ∀ (pins : List (Addr × Obj)) (s : Shared) (σ : St) (H : Hp) (x : V) (xs : List V) (v : Value) (us : List Value) (Q : VK), Inv X pins σ H s → RelV x v → Vals xs us → r x xs H Q →
    wpAny (model X.prog X.w) X.A (call (.builtin id) (v :: us)) (EP X pins σ Q) X.xe s
theorem Vals.one : ∀ {x : V} {us : List Value}, Vals [x] us → ∃ u, us = [u] ∧ RelV x u
  | _, _, .cons r .nil => ⟨_, rfl, r⟩
theorem Vals.rep {xs : List V} {us : List Value} (h : Vals xs us) : ∀ k : Nat, Vals (List.replicate k xs).flatten (List.replicate k us).flatten
  | 0 => .nil
  | k + 1 => by
    rw [List.replicate_succ, List.replicate_succ, List.flatten_cons, List.flatten_cons]
    exact Vals.append h (Vals.rep h k)
theorem foldl_rep (its : List Value) : ∀ (k : Nat) (acc : List Value),
    List.foldl (fun x1 x2 => x1 ++ x2) acc.toArray (List.replicate k its.toArray) = (acc ++ (List.replicate k its).flatten).toArray
  | 0, acc => by simp
  | k + 1, acc => by
    have e : acc.toArray ++ its.toArray = (acc ++ its).toArray := by simp
    have e2 : (acc ++ its) ++ (List.replicate k its).flatten = acc ++ (List.replicate (k + 1) its).flatten := by
      rw [List.replicate_succ, List.flatten_cons, List.append_assoc]
    rw [← e2, ← foldl_rep its k (acc ++ its), ← e, List.replicate_succ, List.foldl_cons]
section
variable {X : Cx} {pins : List (Addr × Obj)} {σ : St} {H : Hp} {s : Shared} {l b : Addr} {xs ys zs : List V}
theorem Inv.lset {its its' : List Value} {n : Nat} {f : Array Value → Array Value} {t' : Nat} (I : Inv X pins σ H s) (hH : H l = some (.lst xs))
    (e : s.heap.get? l = some { cls := .type "list", data := .seq its.toArray n }) (hf : f its.toArray = its'.toArray) (hv : Vals ys its') (hz : ys.length ≤ sizeLine) :
    Inv X pins σ (upd H l (.lst ys)) { s with heap := s.heap.update l (Obj.mapSeq f), toks := t' } := by
  have q := PySem.IsL.update e f
  rw [hf] at q
  refine I.write (x := l) (e := l) (by rw [hH]; exact trivial) (.inl rfl) (fun b' u hb hu => (Heap.get?_update_other s.heap (Obj.mapSeq f) (Ne.symm hb)).trans hu) ⟨_, q⟩ ?_
  exact ⟨hz, its', _, hv, q⟩
theorem Inv.lnew {its : List Value} {t' : Nat} (I : Inv X pins σ H s) (hv : Vals ys its) (hz : ys.length ≤ sizeLine) :
    Inv X pins σ (upd H s.heap.objs.size (.lst ys)) { s with heap := s.heap.push { cls := .type "list", data := .seq its.toArray }, toks := t' } :=
  I.laid (fun _ _ q => Heap.get?_push_of_some _ q) (Nat.le_refl _) ⟨hz, its, 0, hv, Heap.get?_push_size _ rfl⟩
theorem Inv.fresh (I : Inv X pins σ H s) : H s.heap.objs.size = none := I.hok.fresh (Nat.le_refl _)
theorem Inv.lstM (I : Inv X pins σ H s) (hH : H l = some (.lst xs)) : xs.length ≤ sizeLine ∧ ∃ (its : List Value) (n : Nat), Vals xs its ∧ xs.length = its.length ∧ s.heap.get? l = some { cls := .type "list", data := .seq its.toArray n } := by
  obtain ⟨z, its, n, r, e⟩ := I.hok l _ hH
  exact ⟨z, its, n, r, r.length, e⟩
theorem notLongL {n : Nat} (h : n ≤ sizeLine) : Builtin.List.listTooLong n = false := by
  unfold Builtin.List.listTooLong
  exact decide_eq_false (by omega)
end
section
variable {X : Cx}
def rAppend : V → List V → Hp → VK → Prop := fun x vs H Q => ∃ l xs y, x = .ref l ∧ vs = [y] ∧ H l = some (.lst xs) ∧ xs.length < sizeLine ∧ Q .non (upd H l (.lst (xs ++ [y])))
theorem mt_append : MtM X "list.append" rAppend := by
  intro pins s σ H x vs v us Q I rx rv h
  obtain ⟨l, xs, y, rfl, rfl, hH, hz, q⟩ := h
  cases rx
  obtain ⟨u, rfl, ru⟩ := rv.one
  obtain ⟨z, its, n, r, hl, e⟩ := I.lstM hH
  refine call_meets F.slot_list_append ⟨_, e, rfl⟩ F.entry_list_append (F.args_list_append_2 _ _) (PySem.list_append l its.toArray n u (by rw [List.size_toArray]; omega)) ⟨e, ?_⟩
  refine ⟨.non, _, I.lset (its' := its ++ [u]) hH e (by simp) (r.append (.cons ru .nil)) ?_, rfl, q⟩
  rw [List.length_append, List.length_singleton]
  omega
def rExtend : V → List V → Hp → VK → Prop := fun x vs H Q => ∃ l b xs zs, x = .ref l ∧ vs = [.ref b] ∧ H l = some (.lst xs) ∧ H b = some (.lst zs) ∧ xs.length + zs.length ≤ sizeLine ∧ Q .non (upd H l (.lst (xs ++ zs)))
theorem mt_extend : MtM X "list.extend" rExtend := by
  intro pins s σ H x vs v us Q I rx rv h
  obtain ⟨l, b, xs, zs, rfl, rfl, hH, hB, hz, q⟩ := h
  cases rx
  obtain ⟨u, rfl, ru⟩ := rv.one
  cases ru
  obtain ⟨z, its, n, r, hl, e⟩ := I.lstM hH
  obtain ⟨z2, its2, n2, r2, hl2, e2⟩ := I.lstM hB
  have hsz : its.toArray.size + its2.toArray.size ≤ sizeLine := by rw [List.size_toArray, List.size_toArray]; omega
  have hlong : ¬ (!its.toArray.isEmpty && Builtin.List.listTooLong (its.toArray.size + its2.toArray.size)) = true := by
    rw [notLongL hsz, Bool.and_false]
    exact Bool.false_ne_true
  refine call_meets F.slot_list_extend ⟨_, e, rfl⟩ F.entry_list_extend (F.args_list_extend_2 _ _)
    (AutoSeq1.list_extend_list_list_0 l its.toArray n b its2.toArray n2 hlong (by rw [List.size_toArray]; omega) (by omega)) ⟨e, e2, ?_⟩
  refine ⟨.non, _, I.lset (its' := its ++ its2) hH e (by simp) (r.append r2) ?_, rfl, q⟩
  rw [List.length_append]
  omega
def rCat : R2 := fun x y H Q => ∃ l b xs zs, x = .ref l ∧ y = .ref b ∧ H l = some (.lst xs) ∧ H b = some (.lst zs) ∧ xs.length + zs.length ≤ sizeLine ∧ ∀ p, H p = none → Q (.ref p) (upd H p (.lst (xs ++ zs)))
theorem op_cat : OpR X (binaryOp .Add) rCat := by
  intro pins s σ H x y v u Q I rx ry h
  obtain ⟨l, b, xs, zs, rfl, rfl, hH, hB, hz, q⟩ := h
  cases rx
  cases ry
  obtain ⟨z, its, n, r, hl, e⟩ := I.lstM hH
  obtain ⟨z2, its2, n2, r2, hl2, e2⟩ := I.lstM hB
  refine PySem.P.add_list e e2 ?_ (by rw [List.size_toArray, List.size_toArray]; omega)
  have ea : its.toArray ++ its2.toArray = (its ++ its2).toArray := by simp
  rw [ea]
  exact ⟨.ref _, _, I.lnew (t' := s.toks) (r.append r2) (by rw [List.length_append]; omega), rfl, q _ I.fresh⟩
def rRep : R2 := fun x y H Q => ∃ l k xs, x = .ref l ∧ y = .int k ∧ H l = some (.lst xs) ∧ -(2 ^ 63) ≤ k ∧ k < 2 ^ 63 ∧ xs.length * k.toNat ≤ sizeLine ∧
  ∀ p, H p = none → Q (.ref p) (upd H p (.lst (List.replicate k.toNat xs).flatten))
theorem len_rep {α : Type} (xs : List α) (k : Nat) : (List.replicate k xs).flatten.length = k * xs.length := by
  induction k with
  | zero => simp
  | succ k ih => rw [List.replicate_succ, List.flatten_cons, List.length_append, ih, Nat.succ_mul, Nat.add_comm]
theorem op_rep : OpR X (binaryOp .Mult) rRep := by
  intro pins s σ H x y v u Q I rx ry h
  obtain ⟨l, k, xs, rfl, rfl, hH, h1, h2, hz, q⟩ := h
  cases rx
  obtain ⟨t, rfl⟩ := ry
  obtain ⟨z, its, n, r, hl, e⟩ := I.lstM hH
  have hlen : its.toArray.size * k.toNat ≤ sizeLine := by rw [List.size_toArray, ← hl]; exact hz
  have hcap : ¬ its.toArray.size * k.toNat > (2 ^ 63 - 1) / 8 := by
    have : (sizeLine : Nat) ≤ (2 ^ 63 - 1) / 8 := by decide
    omega
  have hfit : ¬ (!Builtin.List.listFitsIndex k) = true := by
    rw [fitsIndex_both h1 h2]
    exact Bool.false_ne_true
  have hlong : ¬ Builtin.List.listTooLong (its.toArray.size * k.toNat) = true := by
    rw [notLongL hlen]
    exact Bool.false_ne_true
  have hnew : List.foldl (fun x1 x2 => x1 ++ x2) #[] (List.replicate (if its.toArray.isEmpty = true then 0 else k.toNat) its.toArray) = (List.replicate k.toNat its).flatten.toArray := by
    have f0 : ∀ m : Nat, List.foldl (fun x1 x2 => x1 ++ x2) #[] (List.replicate m its.toArray) = (List.replicate m its).flatten.toArray := fun m => by
      have := foldl_rep its m []
      rw [List.nil_append] at this
      exact this
    rw [f0]
    cases its with
    | nil => simp
    | cons a r' => rw [if_neg (by simp)]
  refine wpAny_binaryOp_repeat_ref (T := "list") (U := "int") (by decide) ⟨_, e, rfl⟩ (fun s' => typeIs_int s' k t) noFill_list_mul F.fills_int_mul F.slot_int_rmul repeat_list F.slot_int_index.lookup
    (call_meets F.slot_int_rmul (typeIs_int s k t) F.entry_int_rmul (F.args_int_rmul_2 _ _) (int___rmul___int_list k t l its.toArray n)
      ⟨e, rfl, ⟨_, e, rfl⟩, call_meets F.slot_list_mul ⟨_, e, rfl⟩ F.entry_list_mul (F.args_list_mul_2 _ _) (AutoListH.list___mul___list_int_3 l its.toArray n k t hfit hcap hlong) ⟨e, ?_⟩⟩)
  rw [hnew]
  exact ⟨.ref _, _, I.lnew (t' := s.toks) (r.rep k.toNat) (by rw [len_rep, Nat.mul_comm]; exact hz), rfl, q _ I.fresh⟩
end
section
variable {prog : Program} {w : World} {A : Around} {E : Value → Shared → Prop} {s : Shared}
end
section
variable {X : Cx}
end
end L2
namespace Att
open PySem PySem.W PySem.Calls PyProof.Rows
theorem ints_of_wellAll {P : Params} {h : Heap} : ∀ (ns : List Int) (vs : List Value), WellAll P h vs (ns.map WData.int) → IntsAre vs ns := by
  intro ns
  induction ns with
  | nil =>
    intro vs w
    rw [List.map_nil] at w
    cases w
    exact .nil
  | cons n ns ih =>
    intro vs w
    rw [List.map_cons] at w
    cases w with
    | cons a b =>
      cases a
      exact .cons _ _ (ih _ b)
theorem script_of {l : OpenLaw} {n : Nat} (hn : l.most = some n) {P : Params} {h : Heap} {args : List WData} {vals : List Value}
    (hpre : l.row.toRowW.claim.pre args = true) (hwl : WellAll P h vals args) :
    ∃ a vs ns, vals = [Value.ref a] ∧ args = [WData.list (ns.map WData.int)] ∧ h.get? a = some { cls := .type "list", data := .seq vs.toArray } ∧ IntsAre vs ns ∧ ns.length ≤ n := by
  have hsh : WShape.hasAll [] args [.list .int] = true := (pre_splitW hpre).1
  have hc : l.pre.holds [] { args := args } = true := (pre_splitW hpre).2
  obtain ⟨d, r, rfl, h1, h2⟩ := hasAllW_cons hsh
  obtain rfl := hasAllW_nil h2
  obtain ⟨xs, rfl, h3⟩ := hasW_list h1
  obtain ⟨ns, rfl⟩ := items_int h3
  have hlen : ns.length ≤ n := by
    unfold OpenLaw.pre at hc
    have h4 : (WTm.not (.lt (.lit (.int (n : Int))) (.len (.arg 0)))).holds [] { args := [.list (ns.map .int)] } = true := by
      have h4 := (holds_andW hc).1
      rw [hn] at h4
      exact h4
    have h5 := condW_of h4 (w_not (w_lt w_lit (w_len_list (w_arg rfl))))
    rw [List.length_map] at h5
    refine Nat.le_of_not_lt fun q => ?_
    have q' : (n : Int) < ((ns.length : Nat) : Int) := by omega
    first
      | (rw [decide_eq_true q'] at h5; exact absurd h5 (by decide))
      | (simp at h5; omega)
  cases hwl with
  | cons w1 w2 =>
    cases w2
    cases w1 with
    | list ho hall => exact ⟨_, _, ns, rfl, rfl, ho, ints_of_wellAll ns _ hall, hlen⟩
theorem post_true (l : OpenLaw) (args : List WData) : l.row.toRowW.claim.post args (.bool true) args = true :=
  postW_of (r := l.row.toRowW) (X := (true == true))
    (show WShape.has [] (.bool true) .bool = true by first | rfl | decide | simp [WShape.has, WShape.arms, WShape.armsAll])
    (show (WTm.eq .res (.lit (.bool true))).value [] { args := args, res := some (.bool true), after := args } = some (.bool (true == true)) from w_eq_bool (w_res rfl) w_lit) rfl
theorem attach_call {l : OpenLaw} {n : Nat} {q : Program} {loose : List Str} {XP : (Str → Option Value) → Heap → Prop} {YP : World → Heap → Prop} {d : DefRec}
    (hn : l.most = some n) (hdf : d.params.defaults = [])
    (call : ∀ (w : World) (s₀ s₁ : Shared) (mg mb : Str → Option Value) (fa : Addr) (o : Obj) (pm cd doc : Value) (a : Addr) (vs : List Value) (ns : List Int),
      Ground q loose [] XP w s₀ mg mb s₁.heap → YP w s₁.heap →
      s₁.heap.get? fa = some o → o.data = .func (docDef d.name d.params d.body d.scope pm cd doc) → s₁.heap.CodeRec cd d.name → mg d.name = some (.ref fa) →
      s₁.heap.get? a = some { cls := .type "list", data := .seq vs.toArray } → IntsAre vs ns → ns.length ≤ n → s₁.gens = #[] →
      codeAny (model l.prog w) callerA (.call (.ref fa) ⟨[.ref a], []⟩) (fun r s' => r = .ok (.ret (.bool true)) ∧ OldK s₁.heap s'.heap ∧ s'.os = s₁.os ∧ AllBare s'.gens) s₁) :
    WalkO q loose XP YP l.row.toRowW d [] (fun f vs => PySem.call f vs) := by
  intro w s₀ s₁ mg mb G Y fa o pm cd doc dV kV ho hd hcd hD hmg hg args vals as hpre hlay hrd hwl hlo
  obtain rfl : dV = .none := Dflts.none hD hdf
  obtain rfl : kV = .none := Dflts.noKw hD
  obtain ⟨a, vs, ns, rfl, rfl, hobj, hints, hlen⟩ := script_of hn hpre hwl
  refine enter_call (codeAny_mono (call w s₀ s₁ mg mb fa o pm cd doc a vs ns G Y ho (fd_plain hd) hcd hmg hobj hints hlen hg) fun r s' hq => ?_)
  obtain ⟨rfl, h2, h3, h4⟩ := hq
  exact ⟨.inl ⟨.bool true, .bool true, [], rfl, fun _ => rfl, .bool true, post_true l _, fun _ => ⟨List.Pairwise.nil, fun _ hm => (nomatch hm)⟩⟩, h2, h3, h4⟩
section
variable {prog : Program} {w : World} {A : Around} {E : Value → Shared → Prop} {s : Shared} {K : Frag}
end
end Att
namespace L2
open PySem PySem.Spec PyProof.Rows
theorem vals_ints : ∀ {vs : List Value} {ns : List Int}, IntsAre vs ns → Vals (ns.map V.int) vs
  | _, _, .nil => .nil
  | _, _, .cons n t h => .cons ⟨t, rfl⟩ (vals_ints h)
def Only (H : Hp) : Prop := ∀ b, H b = none ∨ ∃ o xs, H b = some (.frz o (.lst xs))
theorem law_call {P : Program} {w : World} {K : PySem.W.Frag} {mg mb : Str → Option Value} {CX : CXT} {k : Nat} {fa a : Addr} {fd : FuncData} {x : Str} {sp : Sp} {s₁ : Shared} {vs : List Value} {ns : List Int}
    (KX : K.In s₁.heap) (hns : s₁.heap.Ns mainGlobals mg) (hb : s₁.heap.Ns builtinsNs mb) (hbb : ∀ x : Str, x ≠ "__name__" → mb x = bootBuiltins x) (hlim : s₁.heap.NoLimit) (hg : s₁.gens = #[])
    (ha : s₁.heap.get? a = some { cls := .type "list", data := .seq vs.toArray }) (hi : IntsAre vs ns) (hl : ns.length ≤ sizeLine) (hr : Room k callerA)
    (F : ∀ base : Heap, K.In base → base.Ns mainGlobals mg → FnOk P w K mg base CX k fa fd [x] sp) (hbind : ∀ (s : Shared) (u : Value), BindsTo s fd ⟨[u], []⟩ [(x, u)])
    (hsp : ∀ H : Hp, Only H → SqL K H a (ns.map V.int) → sp [.ref a] H (fun v _ => v = .bl true) fun _ _ _ => False)
    (hCX : ∀ H e s', CX [] H s₁ (fun _ _ _ => False) e s' → False) :
    codeAny (model P w) callerA (.call (.ref fa) ⟨[.ref a], []⟩) (fun r s' => r = .ok (.ret (.bool true)) ∧ OldK s₁.heap s'.heap ∧ s'.os = s₁.os ∧ AllBare s'.gens) s₁ := by
  have rv := vals_ints hi
  have lenV := hi.length
  have core : ∀ H : Hp, Only H → SqL K H a (ns.map V.int) → HOk P w H s₁.heap → (∀ b, H b ≠ none → b = a) → (H a ≠ none → K.lookup a = none) →
      codeAny (model P w) callerA (.call (.ref fa) ⟨[.ref a], []⟩) (fun r s' => r = .ok (.ret (.bool true)) ∧ OldK s₁.heap s'.heap ∧ s'.os = s₁.os ∧ AllBare s'.gens) s₁ := by
    intro H hO hS hok hA hK
    have base_of : ∀ {b : Addr} {o : Obj}, s₁.heap.get? b = some o → H b = none → (hidT s₁.heap H).get? b = some o := fun e n => hidT_get e n
    have noA : ∀ {b : Addr} {o : Obj} {es : Array DictEntry} {ep : Nat}, s₁.heap.get? b = some o → o.data = .dict es ep → H b = none := fun {b o es ep} e d => by
      cases q : H b with
      | none => rfl
      | some u =>
        have e' : b = a := hA b (by rw [q]; simp)
        subst e'
        rw [ha] at e; cases e
        have d' : Data.seq vs.toArray _ = Data.dict es ep := d
        cases d'
    have nsK : ∀ {b : Addr} {m : Str → Option Value}, s₁.heap.Ns b m → (hidT s₁.heap H).Ns b m := fun {b m} ⟨o, es, ep, e, d, r⟩ => ⟨o, es, ep, base_of e (noA e d), d, r⟩
    have hKb : K.In (hidT s₁.heap H) := fun b o e => base_of (KX b o e) (by
      cases q : H b with
      | none => rfl
      | some u =>
        have e' : b = a := hA b (by rw [q]; simp)
        subst e'
        rw [hK (by rw [q]; simp)] at e; cases e)
    have hM : Mod K mg (hidT s₁.heap H) := ⟨hKb, nsK hns, ⟨mb, nsK hb, hbb⟩, let ⟨mc, h1, h2⟩ := hlim; ⟨mc, nsK h1, h2⟩⟩
    have e0 : Env0 P w K mg (hidT s₁.heap H) callerA [] s₁ H := ⟨rfl, hM, fun b o e => of_hidT e, Nat.le_of_eq (hidT_size _ _), trivial, fun b hb => absurd (show b ∈ ([] : List Addr) from hb) (by simp), hok, .of_eq hg⟩
    refine codeAny_mono ((F _ hKb (nsK hns)).run callerA [] s₁ H ⟨[.ref a], []⟩ [.ref a] [.ref a] _ _ hr e0 (hbind s₁ (.ref a)) (.cons rfl .nil) (hsp H hO hS)) fun r s' h => ?_
    cases r with
    | error e => exact (hCX H e s' h).elim
    | ok fl =>
      cases fl with
      | next => exact False.elim h
      | brk => exact False.elim h
      | cont => exact False.elim h
      | ret u =>
        obtain ⟨v, H', os, bare, un, hok', r', q⟩ := h
        have q' : v = .bl true := q
        subst q'
        obtain rfl : u = Value.bool true := r'
        refine ⟨rfl, OldK.of_keep fun b o e => ?_, os, bare⟩
        cases q : H b with
        | none => exact un.keep b o e q (by intro z; exact absurd (show b ∈ ([] : List Addr) from z) (by simp)) (by simp)
        | some u =>
          rcases hO b with z | ⟨ob, xs, z⟩
          · rw [q] at z; cases z
          · have z2 := un.frzs b ob _ z
            obtain ⟨e1, _⟩ := hok b _ z
            obtain ⟨e2, _⟩ := hok' b _ z2
            rw [e] at e1; cases e1
            exact e2
  cases hk : K.lookup a with
  | some o =>
    have e := KX a o hk
    rw [ha] at e
    cases e
    refine core (fun _ => none) (fun _ => .inl rfl) (.inr ⟨_, vs.toArray, _, hk, rfl, rfl, rfl, by rw [List.size_toArray, lenV]; exact hl, by simpa using rv⟩) (fun b u z => by have z' : (none : Option HO) = some u := z; cases z') (fun b z => absurd rfl z) fun z => absurd rfl z
  | none =>
    refine core (fun b => if b = a then some (.frz { cls := .type "list", data := .seq vs.toArray } (.lst (ns.map V.int))) else none) (fun b => ?_) (.inl (.inr ⟨{ cls := .type "list", data := .seq vs.toArray }, if_pos rfl⟩)) (fun b u z => ?_) (fun b z => ?_) fun _ => hk
    · by_cases hb : b = a
      · exact .inr ⟨_, _, if_pos hb⟩
      · exact .inl (if_neg hb)
    · by_cases hb : b = a
      · have z' := (if_pos hb).symm.trans z
        cases z'
        subst hb
        exact ⟨ha, by rw [List.length_map]; exact hl, vs, _, rv, ha⟩
      · have z' := (if_neg hb).symm.trans z
        cases z'
    · by_cases hb : b = a
      · exact hb
      · exact absurd (if_neg hb) z
end L2
namespace L2
open PySem PySem.Spec PyProof.Rows
theorem walk_of {l : PySem.W.OpenLaw} {n k : Nat} {q : Program} {loose : List Str} {XP : (Str → Option Value) → Heap → Prop} {YP : World → Heap → Prop} {d : DefRec} {K : Params → PySem.W.Frag} {CX : World → CXT} {sp : World → Sp} {x : Str}
    (hn : l.most = some n) (hn2 : n ≤ sizeLine) (hdf : d.params.defaults = []) (hr : Room k callerA)
    (hY : ∀ (w : World) (h : Heap), YP w h → (K w.params).In h)
    (F : ∀ (w : World) (mg : Str → Option Value) (fa : Addr) (h : Heap), (K w.params).In h → h.Ns mainGlobals mg → mg d.name = some (.ref fa) →
      ∃ fd : FuncData, (∀ (s : Shared) (u : Value), BindsTo s fd ⟨[u], []⟩ [(x, u)]) ∧
        ∀ base : Heap, (K w.params).In base → base.Ns mainGlobals mg → FnOk l.prog w (K w.params) mg base (CX w) k fa fd [x] (sp w))
    (hsp : ∀ (w : World) (H : Hp) (a : Addr) (ns : List Int), ns.length ≤ n → Only H → SqL (K w.params) H a (ns.map V.int) → sp w [.ref a] H (fun v _ => v = .bl true) fun _ _ _ => False)
    (hCX : ∀ (w : World) (H : Hp) (s : Shared) (e : Value) (s' : Shared), CX w [] H s (fun _ _ _ => False) e s' → False) :
    PySem.W.WalkO q loose XP YP l.row.toRowW d [] (fun f vs => PySem.call f vs) := by
  refine Att.attach_call hn hdf fun w s₀ s₁ mg mb fa o pm cd doc a vs ns G Y ho hd hcd hmg hobj hints hlen hg => ?_
  have KX := hY w _ Y
  obtain ⟨fd, hb, hF⟩ := F w mg fa _ KX G.T.g hmg
  exact law_call KX G.T.g G.T.b G.T.builtins G.T.nolimit hg hobj hints (Nat.le_trans hlen hn2) hr hF hb (fun H hO hS => hsp w H a ns hlen hO hS) fun H e s' => hCX w H s₁ e s'
end L2
namespace L2
open PySem PySem.Spec PyProof.Rows
def defArgs (s : Stmt) : Arguments := match s with
  | .FunctionDef _ a _ _ _ _ _ _ _ _ => a
  | _ => { posonlyargs := [], args := [], vararg := none, kwonlyargs := [], kw_defaults := [], kwarg := none, defaults := [] }
def defBody (s : Stmt) : List Stmt := match s with
  | .FunctionDef _ _ b _ _ _ _ _ _ _ => b
  | _ => []
def defScope (s : Stmt) : Scope := match s with
  | .FunctionDef _ _ _ _ _ _ sc _ _ _ => sc
  | _ => { kind := .function, names := [], isGenerator := false, isCoroutine := false }
abbrev CX0 : CXT := fun _ _ _ _ _ _ => False
abbrev E0 : XK := fun _ _ _ => False
theorem pass0 {X : Cx} : Passes CX0 X E0 := fun _ _ _ _ _ _ _ h => h.elim
structure Fun (K : PySem.W.Frag) (x qual : Str) (st : Stmt) (f : Addr) (fd : FuncData) : Prop where
  ex : ∃ (oc : Value) (od : Option Addr) (kV doc pm : Value) (an : Option Addr) (cdv ct : Value) (osl : Array (Option Value)),
    fd = PySem.W.fnOf x qual (defArgs st) (defBody st) (defScope st) .none kV doc pm an cdv ct ∧ K.lookup f = some ⟨oc, od, .func fd, osl⟩ ∧ PySem.W.codeIn K cdv qual = true
  kp : PySem.W.keepIn K (.ref f) = true
section
variable {P : Program} {w : World} {K : PySem.W.Frag} {mg : Str → Option Value} {base : Heap}
theorem Fun.ok {x qual : Str} {st : Stmt} {f : Addr} {fd : FuncData} {N ps : List Str} {k : Nat} {sp : Sp} (F : Fun K x qual st f fd) (S : FnScope N ps (defScope st)) (len : ∀ vs H Q E, sp vs H Q E → vs.length = ps.length)
    (hbody : ∀ (cdv : Value) (A : Around) (outer : List Env) (s : Shared) (H : Hp) (vs : List V) (Q : VK) (E : XK), Room k (A.deeper (envOfC qual (defScope st) s.heap.objs.size f cdv)) → sp vs H Q E →
      ∃ t, PSs (cxOf CX0 P w K mg base N qual (defScope st) f cdv A outer s H E).nox (defBody st) t ∧ t { nx := fun _ H' => Q .non H', rt := Q } (start N vs) H) : FnOk P w K mg base CX0 (k + 1) f fd ps sp := by
  obtain ⟨oc, od, kV, doc, pm, an, cdv, ct, osl, rfl, lk, hcd⟩ := F.ex
  refine fn_of lk hcd S len fun A outer s H vs Q E hr hsp => ?_
  obtain ⟨t, h, q⟩ := hbody cdv A outer s H vs Q E hr hsp
  exact ⟨t, h.nox, q⟩
theorem Fun.binds {x qual : Str} {st : Stmt} {f : Addr} {fd : FuncData} {ps : List Str} (F : Fun K x qual st f fd)
    (h : ∀ (kV doc pm : Value) (an : Option Addr) (cdv ct : Value) (us : List Value), us.length = ps.length → bindArgs (PySem.W.fnOf x qual (defArgs st) (defBody st) (defScope st) .none kV doc pm an cdv ct) ⟨us, []⟩ = pure (ps.zip us)) : Binds K fd ps [] := by
  obtain ⟨oc, od, kV, doc, pm, an, cdv, ct, osl, rfl, lk, hcd⟩ := F.ex
  exact .all (h kV doc pm an cdv ct)
theorem fun_mk {x qual : Str} {st : Stmt} {f : Addr} {oc : Value} {od an : Option Addr} {osl : Array (Option Value)} {kV doc pm cdv ct : Value} (l : K.lookup f = some ⟨oc, od, .func (PySem.W.fnOf x qual (defArgs st) (defBody st) (defScope st) .none kV doc pm an cdv ct), osl⟩)
    (c : PySem.W.codeIn K cdv qual = true) (k : PySem.W.keepIn K (.ref f) = true) : Fun K x qual st f (PySem.W.fnOf x qual (defArgs st) (defBody st) (defScope st) .none kV doc pm an cdv ct) := ⟨⟨oc, od, kV, doc, pm, an, cdv, ct, osl, rfl, l, c⟩, k⟩
end
theorem small1000 {n : Nat} (h : n ≤ 1000) : n < sizeLine := Nat.lt_of_le_of_lt h (by decide)
section
variable {X : Cx}
theorem pv (i : Nat) {x : Str} {pos : Pos} (hN : X.N[i]? = some x := by rfl) (hv : Vis X.env.scope x := by first | exact Or.inl rfl | exact Or.inr (Or.inl rfl) | exact Or.inr (Or.inr rfl)) (hd : (x == ("__debug__" : Str)) = false := by decide)
    (hcd : (x == ("__classdict__" : Str)) = false := by decide) : PE X (.Name x pos) (tVar i) := pe_var hN hv hd hcd
end
theorem iteF {A B : Prop} (h : B) : if false = true then A else B := by
  rw [if_neg Bool.false_ne_true]
  exact h
theorem iteT {A B : Prop} (h : A) : if true = true then A else B := by
  rw [if_pos rfl]
  exact h
theorem ite2 {c A B : Prop} [Decidable c] (h1 : c → A) (h2 : ¬ c → B) : if c then A else B := by
  by_cases h : c
  · rw [if_pos h]
    exact h1 h
  · rw [if_neg h]
    exact h2 h
theorem iteNS {c A B : Prop} [Decidable c] (hc : c) (h : B) : if (!decide c) = true then A else B := by
  rw [decide_eq_true hc]
  exact iteF h
def Same (H H' : Hp) : Prop := ∀ b o, H b = some o → H' b = some o
theorem Same.refl (H : Hp) : Same H H := fun _ _ h => h
theorem Same.trans {H H1 H2 : Hp} (a : Same H H1) (b : Same H1 H2) : Same H H2 := fun c o h => b c o (a c o h)
theorem Same.free {H H' : Hp} (e : Same H H') {l : Addr} (h : H' l = Option.none) : H l = Option.none := by
  cases q : H l with
  | none => rfl
  | some o =>
    rw [e l o q] at h
    cases h
theorem Same.seq {K : PySem.W.Frag} {H H' : Hp} {a : Addr} {xs : List V} (e : Same H H') (h : SqL K H a xs) : SqL K H' a xs := by
  rcases h with (h | ⟨o, h⟩) | h
  · exact .inl (.inl (e _ _ h))
  · exact .inl (.inr ⟨o, e _ _ h⟩)
  · exact .inr h
end L2
set_option maxHeartbeats 4000000
set_option exponentiation.threshold 2000
namespace L2
open PySem PySem.Spec PyProof.Rows
section
variable {X : Cx}
theorem bits_le {i : Int} {n : Nat} (h : i.natAbs < 2 ^ n) : Builtin.Int.intBits i ≤ n := by
  by_cases hz : i = 0
  · subst hz
    have e : Builtin.Int.intBits 0 = 0 := by decide
    rw [e]
    exact Nat.zero_le _
  · have h0 : i.natAbs ≠ 0 := by omega
    have := (Nat.log2_lt h0).mpr h
    unfold Builtin.Int.intBits
    split
    · exact Nat.zero_le _
    · omega
def CDivB (_ j : Int) : Prop := j ≠ 0 ∧ j.natAbs < 2 ^ 1000
theorem op_fdivB : OpR X (binaryOp .FloorDiv) (rI CDivB fun i j => .int (i.fdiv j)) :=
  opI fun _ _ _ _ _ _ _ hc q => floordiv_int hc.1 q (.inl (PyProof.noPylong_of_log2 (Nat.lt_of_lt_of_le ((Nat.log2_lt (by have := hc.1; omega)).mpr hc.2) (by decide))))
theorem call_isinst : CallR X (.builtin "isinstance") (fun xs H Q => ∃ x t n b, xs = [x, .ty n] ∧ TyOf X.K H x t ∧ PySem.W.kitOne X.K t (.type n) = some b ∧ Q (.bl b) H) := by
  intro pins s σ H xs us Q I r h
  obtain ⟨x, t, n, b, rfl, ty, e, q⟩ := h
  obtain ⟨u, w', rfl, ru, rw'⟩ := vals2 r
  cases (show w' = Value.type n from rw')
  exact isinst_ok I ru ty e fun tk => ⟨.bl b, H, I.tok _, rfl, q⟩
mutual
inductive DA (K : PySem.W.Frag) (ok : Addr → Prop) (H : Hp) : V → PyData → Prop
  | non : DA K ok H .non .none
  | bl (b : Bool) : DA K ok H (.bl b) (.bool b)
  | int (i : Int) : DA K ok H (.int i) (.int i)
  | str (x : Str) : DA K ok H (.str x) (.str x)
  | lst {a : Addr} {vs : List V} {ds : List PyData} : ok a → SqL K H a vs → DAs K ok H vs ds → DA K ok H (.ref a) (.list ds)
  | tup {a : Addr} {vs : List V} {ds : List PyData} : ok a → SqT K H a vs → DAs K ok H vs ds → DA K ok H (.ref a) (.tuple ds)
inductive DAs (K : PySem.W.Frag) (ok : Addr → Prop) (H : Hp) : List V → List PyData → Prop
  | nil : DAs K ok H [] []
  | cons {v : V} {d : PyData} {vs : List V} {ds : List PyData} : DA K ok H v d → DAs K ok H vs ds → DAs K ok H (v :: vs) (d :: ds)
end
abbrev any (_ : Addr) : Prop := True
def Keep (ok : Addr → Prop) (H H' : Hp) : Prop := ∀ b o, ok b → H b = some o → H' b = some o
theorem Keep.refl (ok : Addr → Prop) (H : Hp) : Keep ok H H := fun _ _ _ h => h
theorem Same.keep {ok : Addr → Prop} {H H' : Hp} (e : Same H H') : Keep ok H H' := fun b o _ h => e b o h
theorem Keep.seq {K : PySem.W.Frag} {ok : Addr → Prop} {H H' : Hp} {a : Addr} {xs : List V} (e : Keep ok H H') (n : ok a) (h : SqL K H a xs) : SqL K H' a xs := by
  rcases h with (h | ⟨o, h⟩) | h
  · exact .inl (.inl (e _ _ n h))
  · exact .inl (.inr ⟨o, e _ _ n h⟩)
  · exact .inr h
theorem Keep.seqT {K : PySem.W.Frag} {ok : Addr → Prop} {H H' : Hp} {a : Addr} {xs : List V} (e : Keep ok H H') (n : ok a) (h : SqT K H a xs) : SqT K H' a xs := by
  rcases h with (h | ⟨o, h⟩) | h
  · exact .inl (.inl (e _ _ n h))
  · exact .inl (.inr ⟨o, e _ _ n h⟩)
  · exact .inr h
theorem Same.seqT {K : PySem.W.Frag} {H H' : Hp} {a : Addr} {xs : List V} (e : Same H H') (h : SqT K H a xs) : SqT K H' a xs := (e.keep (ok := any)).seqT trivial h
theorem Same.upd {H : Hp} {p : Addr} {o : HO} (h : H p = none) : Same H (upd H p o) := fun b u e => by rw [upd_ne (ne_of_none e h)]; exact e
mutual
theorem DA.mono {K : PySem.W.Frag} {ok ok' : Addr → Prop} {H H' : Hp} (e : Keep ok H H') (m : ∀ a, ok a → ok' a) : ∀ {v : V} {d : PyData}, DA K ok H v d → DA K ok' H' v d
  | _, _, .non => .non
  | _, _, .bl b => .bl b
  | _, _, .int i => .int i
  | _, _, .str x => .str x
  | _, _, .lst n s r => .lst (m _ n) (e.seq n s) (DAs.mono e m r)
  | _, _, .tup n s r => .tup (m _ n) (e.seqT n s) (DAs.mono e m r)
theorem DAs.mono {K : PySem.W.Frag} {ok ok' : Addr → Prop} {H H' : Hp} (e : Keep ok H H') (m : ∀ a, ok a → ok' a) : ∀ {v : List V} {d : List PyData}, DAs K ok H v d → DAs K ok' H' v d
  | _, _, .nil => .nil
  | _, _, .cons a r => .cons (DA.mono e m a) (DAs.mono e m r)
end
mutual
theorem DA.reads {ok : Addr → Prop} {pins : List (Addr × Obj)} {σ : St} {H : Hp} {s : Shared} (I : Inv X pins σ H s) : ∀ {v : V} {d : PyData} {u : Value}, DA X.K ok H v d → RelV v u → ∃ as, Reads s.heap u d as
  | _, _, _, .non, r => by cases r; exact ⟨_, .none⟩
  | _, _, _, .bl b, r => by cases r; exact ⟨_, .bool b⟩
  | _, _, _, .int i, r => by obtain ⟨t, rfl⟩ := r; exact ⟨_, .int i t⟩
  | _, _, _, .str x, r => by obtain ⟨t, rfl⟩ := r; exact ⟨_, .str x t⟩
  | _, _, _, .lst _ h q, r => by
    cases r
    obtain ⟨its, rv, ⟨o, n, e, c, _, d⟩, _⟩ := I.list h
    obtain ⟨as, p⟩ := DAs.reads I q rv
    exact ⟨_, .list e c d (by simpa using p)⟩
  | _, _, _, .tup _ h q, r => by
    cases r
    obtain ⟨its, rv, ⟨o, e, c, n, d⟩, _⟩ := I.tuple h
    obtain ⟨as, p⟩ := DAs.reads I q rv
    exact ⟨_, .tuple e c d (by simpa using p)⟩
theorem DAs.reads {ok : Addr → Prop} {pins : List (Addr × Obj)} {σ : St} {H : Hp} {s : Shared} (I : Inv X pins σ H s) : ∀ {v : List V} {d : List PyData} {u : List Value}, DAs X.K ok H v d → Vals v u → ∃ as, ReadsAll s.heap u d as
  | _, _, _, .nil, r => by cases r; exact ⟨_, .nil⟩
  | _, _, _, .cons a q, r => by
    cases r with
    | cons r1 r2 =>
      obtain ⟨as, p⟩ := DA.reads I a r1
      obtain ⟨bs, p'⟩ := DAs.reads I q r2
      exact ⟨_, .cons p p'⟩
end
def rEqD (K : PySem.W.Frag) : R2 := fun x y H Q => ∃ d e, DA K any H x d ∧ DA K any H y e ∧ (d.canLay0 = true ∧ e.canLay0 = true ∧ d.depth ≤ 64) ∧ Q (.bl (PyData.eqv d e)) H
def rNeD (K : PySem.W.Frag) : R2 := fun x y H Q => ∃ d e, DA K any H x d ∧ DA K any H y e ∧ (d.canLay0 = true ∧ e.canLay0 = true ∧ d.depth ≤ 64) ∧ Q (.bl (!PyData.eqv d e)) H
theorem op_eqD (hu : X.A.units + 64 < cLine) : OpR X (compareOp .Eq) (rEqD X.K) := by
  intro pins s σ H x y v u Q I rx ry h
  obtain ⟨d, e, hd, he, ⟨l1, l2, l3⟩, q⟩ := h
  obtain ⟨as, p1⟩ := hd.reads I rx
  obtain ⟨bs, p2⟩ := he.reads I ry
  exact PySem.SeqAt.compareEq_reads p1 p2 l1 l2 (by omega) ⟨.bl _, H, I, rfl, q⟩
theorem op_neD (hu : X.A.units + 64 < cLine) : OpR X (compareOp .NotEq) (rNeD X.K) := by
  intro pins s σ H x y v u Q I rx ry h
  obtain ⟨d, e, hd, he, ⟨l1, l2, l3⟩, q⟩ := h
  obtain ⟨as, p1⟩ := hd.reads I rx
  obtain ⟨bs, p2⟩ := he.reads I ry
  exact PySem.SeqAt.compareNe_reads p1 p2 l1 l2 (by omega) ⟨.bl _, H, I, rfl, q⟩
end
theorem iteNP {c A B : Prop} [Decidable c] (hc : ¬ c) (h : A) : if (!decide c) = true then A else B := by
  rw [decide_eq_false hc]
  exact iteT h
theorem itDP {c A B : Prop} [Decidable c] (hc : c) (h : A) : if decide c = true then A else B := by
  rw [decide_eq_true hc]
  exact iteT h
theorem itDN {c A B : Prop} [Decidable c] (hc : ¬ c) (h : B) : if decide c = true then A else B := by
  rw [decide_eq_false hc]
  exact iteF h
structure Dn (K : PySem.W.Frag) (mg : Str → Option Value) (x : Str) (st : Stmt) (ps : List Str) (f : Addr) (fd : FuncData) : Prop where
  fn : Fun K x x st f fd
  gl : mg x = some (.ref f)
  bd : Binds K fd ps []
section
variable {X : Cx} {k : Nat} {f : Addr} {fd : FuncData} {x : Str} {st : Stmt} {ps : List Str} {sp : Sp} {e : Expr} {es : List Expr} {p pos : Pos} {t : TA}
theorem pe_fn (D : Dn X.K X.mg x st ps f fd) (G : FnOk X.prog X.w X.K X.mg X.base CX0 k f fd ps sp) (hr : Room k X.A) (hg : Gl X x) (ha : PA X (e :: es) t) (hdb : (x == ("__debug__" : Str)) = false := by decide)
    (hs : starEach (e :: es) X.env = (false, eval e X.env) :: starEach es X.env := by rfl) (hpl : (backTo pos (starEach es X.env)).any (·.1) = false := by rfl) : PE X (.Call (.Name x p) (e :: es) [] pos) (tCall sp [] E0 t) :=
  pe_call G hr hg D.gl D.fn.kp D.bd .nil pass0 ha hdb hs hpl
end
end L2
namespace L2
open PySem PySem.Spec PyProof.Rows
def blkN (N : List Str) (x : Str) : List Str := N.map (fun y => if y = x then Str.empty else y) ++ [x]
def clOf (cells : List (Str × Addr)) : List (Str × NameKind) → List (Str × Addr) → List (Str × Addr)
  | [], acc => acc
  | (n, k) :: r, acc => clOf cells r (if (k == .free) = true then (match cells.lookup n with | some c => (n, c) :: acc | none => acc) else acc)
structure LcScope (S : Scope) (N : List Str) (sc : Scope) (x : Str) : Prop where
  uniq : (sc.names.map (·.1)).Nodup
  kind : sc.kind = .function
  names : ∀ y ∈ sc.names, y.2 = .local → sc.names.lookup y.1 = some .local
  loc : sc.names.lookup x = some .local ∨ sc.names.lookup x = some .cell
  free : ∀ y ∈ sc.names, y.2 = .free → S.names.lookup y.1 = some .cell ∨ S.names.lookup y.1 = some .free
  only : ∀ y ∈ sc.names, y.2 = .local → y.1 = x ∨ y.1 = ".0"
  onlyC : ∀ y ∈ sc.names, y.2 = .cell → y.1 = x
  ne : ∀ y ∈ sc.names, y.1 ≠ Str.empty
  dot : ∀ y ∈ N, y ≠ ".0"
  nd : (blkN N x).Nodup
theorem lookup_relab {c : Str → NameKind → Bool} {y : Str} : ∀ (names : List (Str × NameKind)), (names.map fun (n, k) => if c n k = true then (n, NameKind.cell) else (n, k)).lookup y = (names.lookup y).map fun k => if c y k = true then NameKind.cell else k
  | [] => rfl
  | (n, k) :: r => by
    have ih := lookup_relab (c := c) (y := y) r
    show List.lookup y ((if c n k = true then (n, NameKind.cell) else (n, k)) :: _) = _
    cases hx : y == n with
    | true =>
      have e : y = n := by simpa using hx
      subst e
      by_cases hc : c y k = true
      · rw [if_pos hc]; simp [List.lookup_cons, hc]
      · rw [if_neg hc]; simp [List.lookup_cons, hc]
    | false =>
      by_cases hc : c n k = true
      · rw [if_pos hc]; simp only [List.lookup_cons, hx]; exact ih
      · rw [if_neg hc]; simp only [List.lookup_cons, hx]; exact ih
theorem relab_lookup {sc : Scope} {env : Env} {y : Str} {k : NameKind} (h : (relabel sc env).names.lookup y = some k) : ∃ k0, (y, k0) ∈ sc.names ∧ (k = k0 ∨ (k = .cell ∧ k0 = .free)) := by
  have e := lookup_relab (c := fun n k => k == NameKind.free && env.scope.kind == .function && env.kindOf n == some .cell) (y := y) sc.names
  have h' : (sc.names.map fun (n, k) => if (k == NameKind.free && env.scope.kind == .function && env.kindOf n == some .cell) = true then (n, NameKind.cell) else (n, k)).lookup y = some k := h
  rw [e] at h'
  cases q : sc.names.lookup y with
  | none => rw [q] at h'; cases h'
  | some k0 =>
    rw [q] at h'
    refine ⟨k0, PySem.mem_of_lookup q, ?_⟩
    have h'' : (if (k0 == NameKind.free && env.scope.kind == .function && env.kindOf y == some .cell) = true then NameKind.cell else k0) = k := Option.some.inj h'
    by_cases hc : (k0 == NameKind.free && env.scope.kind == .function && env.kindOf y == some .cell) = true
    · rw [if_pos hc] at h''
      refine .inr ⟨h''.symm, ?_⟩
      have := (Bool.and_eq_true_iff.mp (Bool.and_eq_true_iff.mp hc).1).1
      simpa using this
    · rw [if_neg hc] at h''
      exact .inl h''.symm
theorem clOf_sub {cells : List (Str × Addr)} : ∀ (names : List (Str × NameKind)) (acc : List (Str × Addr)), (∀ y c, acc.lookup y = some c → cells.lookup y = some c) → ∀ y c, (clOf cells names acc).lookup y = some c → cells.lookup y = some c
  | [], _, h => h
  | (n, k) :: r, acc, h => by
    refine clOf_sub r _ fun y c => ?_
    by_cases hk : (k == NameKind.free) = true
    · rw [if_pos hk]
      cases q : cells.lookup n with
      | none => exact h y c
      | some d =>
        intro e
        show cells.lookup y = some c
        have e' : List.lookup y ((n, d) :: acc) = some c := e
        rw [List.lookup_cons] at e'
        cases hx : y == n with
        | true =>
          rw [hx] at e'
          have : y = n := by simpa using hx
          subst this
          rw [q]; exact e'
        | false =>
          rw [hx] at e'
          exact h y c e'
    · rw [if_neg hk]
      exact h y c
theorem clOf_acc {cells : List (Str × Addr)} {y : Str} : ∀ (names : List (Str × NameKind)) (acc : List (Str × Addr)), (acc.lookup y).isSome = true → ((clOf cells names acc).lookup y).isSome = true
  | [], _, h => h
  | (n, k) :: r, acc, h => by
    refine clOf_acc r _ ?_
    by_cases hk : (k == NameKind.free) = true
    · rw [if_pos hk]
      cases q : cells.lookup n with
      | none => exact h
      | some d =>
        show (List.lookup y ((n, d) :: acc)).isSome = true
        rw [List.lookup_cons]
        cases hx : y == n with
        | true => rfl
        | false => exact h
    · rw [if_neg hk]; exact h
theorem clOf_has {cells : List (Str × Addr)} {y : Str} (hc : (cells.lookup y).isSome = true) : ∀ (names : List (Str × NameKind)) (acc : List (Str × Addr)), (y, NameKind.free) ∈ names → ((clOf cells names acc).lookup y).isSome = true
  | (n, k) :: r, acc, h => by
    rcases List.mem_cons.mp h with e | h
    · cases e
      refine clOf_acc r _ ?_
      rw [if_pos (by rfl)]
      obtain ⟨c, q⟩ := Option.isSome_iff_exists.mp hc
      rw [q]
      show (List.lookup y ((y, c) :: acc)).isSome = true
      rw [List.lookup_cons, beq_self_eq_true]
      rfl
    · exact clOf_has hc r _ h
theorem cellOf_some {env : Env} {y : Str} {c : Addr} (h : env.cells.lookup y = some c) : cellOf env y = pure c := by
  unfold cellOf
  rw [h]
theorem closure_of {sc : Scope} {env : Env} (h : ∀ y ∈ sc.names, y.2 = .free → (env.cells.lookup y.1).isSome = true) : closureFor sc env = pure (clOf env.cells sc.names []) := by
  have all : ∀ (names : List (Str × NameKind)) (acc : List (Str × Addr)), (∀ y ∈ names, y.2 = .free → (env.cells.lookup y.1).isSome = true) →
      (forIn names acc fun (x : Str × NameKind) (cs : List (Str × Addr)) => (do
        let (name, kind) := x
        if (kind == .free) = true then let c ← cellOf env name; pure (ForInStep.yield ((name, c) :: cs)) else pure (ForInStep.yield cs) : Sem (ForInStep (List (Str × Addr))))) = pure (clOf env.cells names acc) := by
    intro names
    induction names with
    | nil => intro acc _; rfl
    | cons a r ih =>
      intro acc hh
      obtain ⟨n, k⟩ := a
      rw [List.forIn_cons]
      by_cases hk : (k == NameKind.free) = true
      · obtain ⟨c, q⟩ := Option.isSome_iff_exists.mp (hh (n, k) List.mem_cons_self (by simpa using hk))
        simp only [hk, if_true, cellOf_some q, pure_bind]
        rw [ih _ fun y hy => hh y (List.mem_cons_of_mem _ hy)]
        show pure (clOf env.cells r ((n, c) :: acc)) = pure (clOf env.cells r (if (k == NameKind.free) = true then _ else acc))
        rw [if_pos hk, q]
      · simp only [hk, Bool.false_eq_true, if_false, pure_bind]
        rw [ih _ fun y hy => hh y (List.mem_cons_of_mem _ hy)]
        show pure (clOf env.cells r acc) = pure (clOf env.cells r (if (k == NameKind.free) = true then _ else acc))
        rw [if_neg hk]
  unfold closureFor
  first
    | exact (congrArg (fun z => z >>= pure) (all sc.names [] h)).trans (by simp)
    | (have e := all sc.names [] h
       simp only [bind_pure] at e ⊢
       exact e)
def ownC (sc : Scope) (x : Str) (n : Nat) : List (Str × Addr) := if sc.names.lookup x = some .cell then [(x, n)] else []
def Cx.blk (X : Cx) (N' : List Str) (sc : Scope) (x : Str) (s₀ : Shared) (H₀ : Hp) (fp : List Addr) : Cx :=
  { X with N := N', s₀ := s₀, H₀ := H₀, env := compEnvC sc (ownC sc x (s₀.heap.objs.size + 1) ++ clOf X.env.cells sc.names []) s₀.heap.objs.size X.env, outer := X.stack, stack := X.stack, ex := fp, fn := fun y => decide (y = x ∧ sc.names.lookup x = some .cell), pn := [], xe := fun _ _ => False }
theorem lookup_mem {α : Type} : ∀ {l : List (Str × α)} {y : Str} {k : α}, (l.map (·.1)).Nodup → (y, k) ∈ l → l.lookup y = some k
  | (n, v) :: r, y, k, nd, h => by
    rw [List.lookup_cons]
    have nd' : (n :: r.map (·.1)).Nodup := nd
    obtain ⟨h1, h2⟩ := List.nodup_cons.mp nd'
    rcases List.mem_cons.mp h with e | h
    · cases e
      rw [beq_self_eq_true]
    · have ne : (y == n) = false := by
        rw [beq_eq_false_iff_ne]
        exact fun e => h1 (List.mem_map.mpr ⟨(y, k), h, e⟩)
      rw [ne]
      exact lookup_mem h2 h
theorem cellsFrom_none {acc : List (Str × Addr)} : ∀ {names : List (Str × NameKind)} {n : Nat}, (∀ y ∈ names, y.2 ≠ .cell) → cellsFrom n names acc = acc
  | [], _, _ => rfl
  | (y, k) :: r, n, h => by
    unfold cellsFrom
    rw [if_neg (by simpa using h (y, k) List.mem_cons_self)]
    exact cellsFrom_none fun z hz => h z (List.mem_cons_of_mem _ hz)
theorem pushCells_none : ∀ {names : List (Str × NameKind)} {h : Heap}, (∀ y ∈ names, y.2 ≠ .cell) → pushCells h names = h
  | [], _, _ => rfl
  | (y, k) :: r, h, hn => by
    unfold pushCells
    rw [if_neg (by simpa using hn (y, k) List.mem_cons_self)]
    exact pushCells_none fun z hz => hn z (List.mem_cons_of_mem _ hz)
theorem cellsFrom_one {x : Str} {acc : List (Str × Addr)} : ∀ {names : List (Str × NameKind)} {n : Nat}, (names.map (·.1)).Nodup → (∀ y ∈ names, y.2 = .cell → y.1 = x) → (x, NameKind.cell) ∈ names → cellsFrom n names acc = (x, n) :: acc
  | (y, k) :: r, n, nd, ho, hm => by
    have nd' : (y :: r.map (·.1)).Nodup := nd
    obtain ⟨h1, h2⟩ := List.nodup_cons.mp nd'
    unfold cellsFrom
    by_cases hk : (k == NameKind.cell) = true
    · rw [if_pos hk]
      have e : y = x := ho (y, k) List.mem_cons_self (by simpa using hk)
      subst e
      refine cellsFrom_none fun z hz hc => h1 (List.mem_map.mpr ⟨z, hz, ?_⟩)
      exact ho z (List.mem_cons_of_mem _ hz) hc
    · rw [if_neg hk]
      rcases List.mem_cons.mp hm with e | hm
      · cases e
        exact absurd rfl hk
      · exact cellsFrom_one h2 (fun z hz => ho z (List.mem_cons_of_mem _ hz)) hm
theorem pushCells_one {x : Str} : ∀ {names : List (Str × NameKind)} {h : Heap}, (names.map (·.1)).Nodup → (∀ y ∈ names, y.2 = .cell → y.1 = x) → (x, NameKind.cell) ∈ names → pushCells h names = h.push { cls := .type "cell", data := .cell none }
  | (y, k) :: r, h, nd, ho, hm => by
    have nd' : (y :: r.map (·.1)).Nodup := nd
    obtain ⟨h1, h2⟩ := List.nodup_cons.mp nd'
    unfold pushCells
    by_cases hk : (k == NameKind.cell) = true
    · rw [if_pos hk]
      have e : y = x := ho (y, k) List.mem_cons_self (by simpa using hk)
      subst e
      refine pushCells_none fun z hz hc => h1 (List.mem_map.mpr ⟨z, hz, ?_⟩)
      exact ho z (List.mem_cons_of_mem _ hz) hc
    · rw [if_neg hk]
      rcases List.mem_cons.mp hm with e | hm
      · cases e
        exact absurd rfl hk
      · exact pushCells_one h2 (fun z hz => ho z (List.mem_cons_of_mem _ hz)) hm
theorem newEnv_lc {M : Model} {A : Around} {E : Value → Shared → Prop} {s : Shared} {scope : Scope} {globals : Addr} {closure : List (Str × Addr)} {qual : Str} {func : Option Addr} {code : Value} {outer : Env} {builtins : Addr} {Q : Env → Shared → Prop}
    (hQ : Q (newEnv scope s.heap.objs.size globals (cellsFrom (s.heap.objs.size + 1) scope.names closure) qual func code (some outer) builtins) { s with heap := pushCells (s.heap.push { cls := .type "dict", data := .dict #[] }) scope.names }) :
    wpAny M A (newFunctionEnv scope globals closure [] qual func code (some outer) builtins) Q E s := by
  simp only [newFunctionEnv, Option.isSome_some, if_true]
  refine wpAny_bind (wpAny_alloc ?_)
  refine wpAny_bind (wpAny_layCells _ (fun name kind cells => by cases hkc : kind == NameKind.cell <;> simp [hkc]) _ _ _ _ ?_)
  rw [show ({ s with heap := s.heap.push { cls := .type "dict", data := .dict #[] } } : Shared).heap.objs.size = s.heap.objs.size + 1 from Heap.size_push ..]
  exact wpAny_bind (wpAny_pure (wpAny_pure hQ))
theorem LcScope.cells {S : Scope} {N : List Str} {sc : Scope} {x : Str} (L : LcScope S N sc x) (n : Nat) (cl : List (Str × Addr)) : cellsFrom n sc.names cl = ownC sc x n ++ cl := by
  unfold ownC
  rcases L.loc with h | h
  · rw [if_neg (by rw [h]; simp)]
    exact cellsFrom_none fun y hy hc => by
      have e := L.onlyC y hy hc
      have := lookup_mem L.uniq (y := x) (k := .cell) (by rw [← e, ← hc]; exact hy)
      rw [h] at this
      cases this
  · rw [if_pos h]
    exact cellsFrom_one L.uniq L.onlyC (PySem.mem_of_lookup h)
theorem LcScope.heap {S : Scope} {N : List Str} {sc : Scope} {x : Str} (L : LcScope S N sc x) (h : Heap) : (∀ b o, h.get? b = some o → (pushCells h sc.names).get? b = some o) ∧ (sc.names.lookup x = some .cell → (pushCells h sc.names).IsCell h.objs.size none) := by
  refine ⟨fun b o e => pushCells_keeps _ _ b o e, fun hc => ?_⟩
  rw [pushCells_one L.uniq L.onlyC (PySem.mem_of_lookup hc)]
  exact ⟨_, Heap.get?_push_size _ rfl, rfl⟩
theorem ownC_lookup {sc : Scope} {x y : Str} {n : Nat} {c : Addr} {cl : List (Str × Addr)} (h : (ownC sc x n ++ cl).lookup y = some c) : (y = x ∧ c = n ∧ sc.names.lookup x = some .cell) ∨ cl.lookup y = some c := by
  unfold ownC at h
  by_cases hc : sc.names.lookup x = some .cell
  · rw [if_pos hc] at h
    have h' : List.lookup y ((x, n) :: cl) = some c := h
    rw [List.lookup_cons] at h'
    cases e : y == x with
    | true =>
      rw [e] at h'
      exact .inl ⟨by simpa using e, (Option.some.inj h').symm, hc⟩
    | false =>
      rw [e] at h'
      exact .inr h'
  · rw [if_neg hc] at h
    exact .inr h
theorem ownC_other {sc : Scope} {x y : Str} {n : Nat} {cl : List (Str × Addr)} (h : y ≠ x) : (ownC sc x n ++ cl).lookup y = cl.lookup y := by
  unfold ownC
  by_cases hc : sc.names.lookup x = some .cell
  · rw [if_pos hc]
    show List.lookup y ((x, n) :: cl) = _
    rw [List.lookup_cons, beq_eq_false_iff_ne.mpr h]
  · rw [if_neg hc]
    rfl
theorem ownC_self {sc : Scope} {x : Str} {n : Nat} {cl : List (Str × Addr)} (h : sc.names.lookup x = some .cell) : (ownC sc x n ++ cl).lookup x = some n := by
  unfold ownC
  rw [if_pos h]
  show List.lookup x ((x, n) :: cl) = _
  rw [List.lookup_cons, beq_self_eq_true]
section
variable {X : Cx} {pins : List (Addr × Obj)} {σ : St} {H : Hp} {s : Shared} {sc : Scope} {x : Str} {fp : List Addr}
theorem blkN_len (N : List Str) (x : Str) : (blkN N x).length = N.length + 1 := by simp [blkN]
theorem blkN_at {N : List Str} {x : Str} {i : Nat} {y : Str} (h : (blkN N x)[i]? = some y) (hi : i < N.length) : ∃ y0, N[i]? = some y0 ∧ ((y0 = x ∧ y = Str.empty) ∨ (y0 ≠ x ∧ y = y0)) := by
  unfold blkN at h
  rw [List.getElem?_append_left (by simpa using hi), List.getElem?_map] at h
  cases q : N[i]? with
  | none => rw [q] at h; cases h
  | some y0 =>
    rw [q] at h
    refine ⟨y0, rfl, ?_⟩
    have h' : (if y0 = x then Str.empty else y0) = y := Option.some.inj h
    by_cases e : y0 = x
    · rw [if_pos e] at h'; exact .inl ⟨e, h'.symm⟩
    · rw [if_neg e] at h'; exact .inr ⟨e, h'.symm⟩
theorem Inv.has_cell (I : Inv X pins σ H s) {S : Scope} (L : LcScope S X.N sc x) (hS : X.env.scope = S) : ∀ y ∈ sc.names, y.2 = .free → (X.env.cells.lookup y.1).isSome = true := fun y hy hf => by
  have k : X.env.kindOf y.1 = some .cell ∨ X.env.kindOf y.1 = some .free := by
    show X.env.scope.names.lookup y.1 = _ ∨ X.env.scope.names.lookup y.1 = _
    rw [hS]
    exact L.free y hy hf
  obtain ⟨c, e⟩ := I.ok.has y.1 k
  rw [e]; rfl
theorem Inv.blk (I : Inv X pins σ H s) {S : Scope} (L : LcScope S X.N sc x) (hS : X.env.scope = S) (hf : ∀ b ∈ fp, FpOk X pins H b) (hb : ∀ b ∈ fp, b < s.heap.objs.size) {h1 : Heap} {tk : Nat} {m : Str → Option Value} (hn : h1.Ns s.heap.objs.size m)
    (hk : ∀ b o, s.heap.get? b = some o → h1.get? b = some o) (hoc : sc.names.lookup x = some .cell → h1.IsCell (s.heap.objs.size + 1) none) : Inv (X.blk (blkN X.N x) sc x s H fp) [] (σ ++ [none]) H { s with heap := h1, toks := tk } := by
  have sub : ∀ y c, (clOf X.env.cells sc.names []).lookup y = some c → X.env.cells.lookup y = some c := clOf_sub sc.names [] fun _ _ z => by cases z
  have sub2 : ∀ y c, (ownC sc x (s.heap.objs.size + 1) ++ clOf X.env.cells sc.names []).lookup y = some c → (y = x ∧ c = s.heap.objs.size + 1 ∧ sc.names.lookup x = some .cell) ∨ X.env.cells.lookup y = some c := fun y c e =>
    (ownC_lookup e).imp id (sub y c)
  have ltc : ∀ y c, X.env.cells.lookup y = some c → c < s.heap.objs.size := fun y c e => by
    obtain ⟨v, z⟩ := I.cell y c e
    exact z.lt
  have fkey : ∀ y, (y, NameKind.free) ∈ sc.names → y ≠ x := fun y hy e => by
    subst e
    have z := lookup_mem L.uniq hy
    rcases L.loc with q | q <;> rw [q] at z <;> cases z
  have hasC : ∀ y, (y, NameKind.free) ∈ sc.names → ∃ c, (ownC sc x (s.heap.objs.size + 1) ++ clOf X.env.cells sc.names []).lookup y = some c := fun y hy => by
    rw [ownC_other (fkey y hy)]
    exact Option.isSome_iff_exists.mp (clOf_has (I.has_cell L hS (y, .free) hy rfl) sc.names [] hy)
  have kinds : ∀ y k, (relabel sc X.env).names.lookup y = some k → (k = .cell ∨ k = .free) → (y, NameKind.free) ∈ sc.names ∨ (y = x ∧ sc.names.lookup x = some .cell) := fun y k e hk => by
    obtain ⟨k0, hm, q⟩ := relab_lookup e
    rcases q with rfl | ⟨_, rfl⟩
    · rcases hk with rfl | rfl
      · have e := L.onlyC _ hm rfl
        have e' : y = x := e
        subst e'
        exact .inr ⟨rfl, lookup_mem L.uniq hm⟩
      · exact .inl hm
    · exact .inl hm
  have stk := I.stkSub
  refine ⟨⟨I.ok.mod, L.kind, I.ok.glob, I.ok.blt, Nat.le_refl _, fun y z c e1 e2 => ?_, fun y hy => ?_, fun y c z e => ?_, I.ok.hd, I.ok.frames, .inl rfl, fun b hb' => ?_, I.bs, Nat.le_trans I.ok.bsz I.sz, fun b o e hb' => ?_, fun b hb' z => ?_, I.stack, I.stkFree⟩,
    rfl, I.bare, Un.kept hk, ⟨m, hn, fun i y v e1 e2 e3 => ?_⟩, fun y c e => ?_, I.hok.fresh (Nat.le_refl _), fun y c e => ?_, fun p hp => absurd (show p ∈ ([] : List (Addr × Obj)) from hp) (by simp), I.hok.kept hk, ?_⟩
  · rcases sub2 y c e1 with ⟨q1, q2, _⟩ | q <;> rcases sub2 z c e2 with ⟨q1', q2', _⟩ | q'
    · rw [q1, q1']
    · have z1 := ltc z c q'
      rw [q2] at z1
      exact absurd z1 (Nat.not_lt.mpr (Nat.le_succ _))
    · have z1 := ltc y c q
      rw [q2'] at z1
      exact absurd z1 (Nat.not_lt.mpr (Nat.le_succ _))
    · exact I.ok.inj y z c q q'
  · have hy' : (relabel sc X.env).names.lookup y = some .cell ∨ (relabel sc X.env).names.lookup y = some .free := hy
    have z : (y, NameKind.free) ∈ sc.names ∨ (y = x ∧ sc.names.lookup x = some .cell) := by
      rcases hy' with e | e
      · exact kinds y _ e (.inl rfl)
      · exact kinds y _ e (.inr rfl)
    rcases z with z | ⟨rfl, z⟩
    · exact hasC y z
    · exact ⟨_, ownC_self z⟩
  · have z' : decide (y = x ∧ sc.names.lookup x = some .cell) = true := z
    obtain ⟨rfl, z2⟩ := of_decide_eq_true z'
    have e' : (ownC sc y (s.heap.objs.size + 1) ++ clOf X.env.cells sc.names []).lookup y = some c := e
    rw [ownC_self z2] at e'
    cases e'
    exact Nat.le_succ _
  · obtain ⟨f0, f1, f2, f3, f4, f5⟩ := hf b hb'
    refine ⟨Nat.ne_of_lt (hb b hb'), fun y c e z => ?_⟩
    rcases sub2 y c e with ⟨_, q2, _⟩ | q
    · have z1 := hb b hb'
      rw [← z, q2] at z1
      exact absurd z1 (Nat.not_lt.mpr (Nat.le_succ _))
    · exact f4 y c q z
  · obtain ⟨f0, f1, f2, f3, f4, f5⟩ := hf b hb'
    rcases f3 with z | z
    · exact I.ok.noex b o e z
    · exact absurd (Nat.lt_of_lt_of_le (Heap.lt_size (I.ok.bs b o e).1) z) (Nat.lt_irrefl _)
  · obtain ⟨f0, f1, f2, f3, f4, f5⟩ := hf b hb'
    rcases List.mem_cons.mp (stk b z) with q | q
    · exact f1 q
    · exact f2 q
  · have hl : σ.length = X.N.length := I.len
    have hi : i < X.N.length := by
      by_cases hi : i < σ.length
      · omega
      · rw [List.getElem?_append_right (by omega)] at e2
        cases q : i - σ.length with
        | zero => rw [q] at e2; cases e2
        | succ n => rw [q] at e2; cases e2
    rw [List.getElem?_append_left (by omega)] at e2
    obtain ⟨y0, g1, g2⟩ := blkN_at e1 hi
    have vis : ∃ k, (relabel sc X.env).names.lookup y = some k ∧ (k = .local ∨ k = .cell ∨ k = .free) := by
      rcases e3 with q | q | q
      · exact ⟨_, q, .inl rfl⟩
      · exact ⟨_, q, .inr (.inl rfl)⟩
      · exact ⟨_, q, .inr (.inr rfl)⟩
    obtain ⟨k, q, hk'⟩ := vis
    obtain ⟨k0, hm, q0⟩ := relab_lookup q
    rcases g2 with ⟨_, rfl⟩ | ⟨g2, rfl⟩
    · exact absurd rfl (L.ne _ hm)
    · have hkc : k = .cell ∨ k = .free := by
        rcases hk' with rfl | z
        · exfalso
          rcases q0 with rfl | ⟨z, _⟩
          · rcases L.only _ hm rfl with z | z
            · exact g2 z
            · exact L.dot y (List.mem_of_getElem? g1) z
          · cases z
        · exact z
      have hfr : (y, NameKind.free) ∈ sc.names := (kinds y k q hkc).resolve_right fun z => g2 z.1
      have visX : X.env.scope.names.lookup y = some .cell ∨ X.env.scope.names.lookup y = some .free := by rw [hS]; exact L.free _ hfr rfl
      obtain ⟨m0, _, hl0⟩ := I.loc
      obtain ⟨u, r, lk⟩ := hl0 i y v g1 e2 (.inr visX)
      refine ⟨u, r, ?_⟩
      rcases lk with ⟨z, _⟩ | ⟨_, c, ec, hc⟩
      · exfalso
        have z' : X.env.scope.names.lookup y = some .local := z
        rcases visX with w' | w' <;> rw [z'] at w' <;> cases w'
      · obtain ⟨c', ec'⟩ := hasC y hfr
        have : c' = c := by
          rw [ownC_other (fkey y hfr)] at ec'
          exact Option.some.inj ((sub y c' ec').symm.trans ec)
        subst this
        refine .inr ⟨?_, c', ec', ?_⟩
        · rcases hkc with rfl | rfl
          · exact .inl q
          · exact .inr q
        · obtain ⟨o, ho, hd⟩ := hc
          exact ⟨o, hk _ _ ho, hd⟩
  · rcases sub2 y c e with ⟨_, q2, q3⟩ | q
    · rw [q2]; exact ⟨_, hoc q3⟩
    · obtain ⟨v, o, ho, hd⟩ := I.cell y c q
      exact ⟨v, o, hk _ _ ho, hd⟩
  · rcases sub2 y c e with ⟨_, q2, _⟩ | q
    · rw [q2]; exact I.hok.fresh (Nat.le_succ _)
    · exact I.freeC y c q
  · rw [List.length_append, I.len]
    exact (blkN_len X.N x).symm
theorem relab_own {sc : Scope} {env : Env} {x : Str} (h : sc.names.lookup x = some .cell) : (relabel sc env).names.lookup x = some .cell := by
  have e := lookup_relab (c := fun n k => k == NameKind.free && env.scope.kind == .function && env.kindOf n == some .cell) (y := x) sc.names
  show (sc.names.map fun (n, k) => if (k == NameKind.free && env.scope.kind == .function && env.kindOf n == some .cell) = true then (n, NameKind.cell) else (n, k)).lookup x = some .cell
  rw [e, h]
  rfl
theorem relab_loc {S : Scope} {N : List Str} {env : Env} (L : LcScope S N sc x) : Loc (relabel sc env) x := by
  rcases L.loc with h | h
  · exact .inl (lookup_relabel_local h)
  · exact .inr (relab_own h)
theorem relab_fn {S : Scope} {N : List Str} {env : Env} (L : LcScope S N sc x) : decide (x = x ∧ sc.names.lookup x = some .cell) = true ∨ (relabel sc env).names.lookup x = some .local := by
  rcases L.loc with h | h
  · exact .inr (lookup_relabel_local h)
  · exact .inl (decide_eq_true ⟨rfl, h⟩)
theorem compLoopG {prog : Program} {w : World} {A : Around} {R : Result → Shared → Prop} {elt target iter : Expr} {scope : Scope} {pos : Pos} {it acc : Value} {env : Env} (I : Nat → Shared → Prop)
    (turn : ∀ n s, I n s → wpAny (model prog w) A (pyNext it) (fun r s₁ => match r with
      | none => R (.ok .next) s₁
      | some v => wpAny (model prog w) A (letOwnedTupleGo target it v) (fun _ s₁' => wpAny (model prog w) A (assign target env v) (fun _ s₂ => wpAny (model prog w) A (eval elt env) (fun x s₃ =>
          wpAny (model prog w) A (call (.builtin "list.append") [acc, x]) (fun _ s₄ => ∃ m, m < n ∧ I m s₄) (fun _ _ => False) s₃) (fun _ _ => False) s₂) (fun _ _ => False) s₁') (fun _ _ => False) s₁) (fun _ _ => False) s)
    (n : Nat) (h : I n s) : codeAny (model prog w) A (.compLoop (.ListComp elt [⟨target, iter, [], 0⟩] scope pos) 0 it acc env) R s := by
  refine codeAny_loop rfl I (fun n s hI => ?_) n h
  show wpAny _ _ ((compTurn (.ListComp elt [⟨target, iter, [], 0⟩] scope pos) 0 it acc env).onRaise (fun x => do noteFrame x env; theTreesLotGoes x)) _ _ s
  refine wpAny_noted ?_
  rw [compTurn_list1]
  refine wpAny_bind (wpAny_standAt (wpAny_bind (wpAny_mono (turn n s hI) (fun r s₁ h₁ => ?_) fun _ _ z => z.elim)))
  cases r with
  | none => exact wpAny_pure h₁
  | some v =>
    exact wpAny_bind (wpAny_mono h₁ (fun _ s₁' h₁' => wpAny_bind (wpAny_mono h₁' (fun _ s₂ h₂ => wpAny_bind (wpAny_bind (wpAny_mono h₂ (fun x s₃ h₃ => wpAny_bind (wpAny_mono h₃
      (fun _ s₄ h₄ => wpAny_pure (wpAny_pure ⟨rfl, h₄⟩)) fun _ _ z => z.elim)) fun _ _ z => z.elim))) fun _ _ z => z.elim)) fun _ _ z => z.elim)
def tLc (ti : TI) (te : TE) : TE := fun σ H Q => ti σ H fun J H1 => ∀ D, H1 D = none → ∃ W : Nat → Nat → List V → Hp → Prop, (∃ m, W 0 m [] (upd H1 D (.lst []))) ∧
  ∀ i m ys H', W i m ys H' → H' D = some (.lst ys) ∧ ((J.stop i H' ∧ Q (.ref D) H') ∨ (J.go i H' ∧ ∀ z H2, J.yld i H' z H2 → te (σ ++ [some z]) H2 fun v H3 => H3 D = some (.lst ys) ∧ ys.length < sizeLine ∧ ∃ m', m' < m ∧ W (i + 1) m' (ys ++ [v]) (upd H3 D (.lst (ys ++ [v])))))
theorem lc_core {elt iter : Expr} {px pos : Pos} {te : TE} {S : Scope} {use : Option (Value → Sem Unit)} {QQ : Value → Shared → Prop} {Q : VK} {it : Addr} {tn : Nat → Heap → Prop} {J : It} (hc : X.calm = true) (L : LcScope S X.N sc x) (hS : X.env.scope = S)
    (he : ∀ (s₀ : Shared) (H₀ : Hp) (fp : List Addr), PE (X.blk (blkN X.N x) sc x s₀ H₀ fp) elt te)
    (I : Inv X pins σ H s) (T : Turn X.prog X.w X.K (.Name x px) J fp it tn) (st : tn 0 s.heap) (hf : ∀ b ∈ fp, FpOk X pins H b)
    (h : ∀ D, H D = none → ∃ W : Nat → Nat → List V → Hp → Prop, (∃ m, W 0 m [] (upd H D (.lst []))) ∧
      ∀ i m ys H', W i m ys H' → H' D = some (.lst ys) ∧ ((J.stop i H' ∧ Q (.ref D) H') ∨ (J.go i H' ∧ ∀ z H2, J.yld i H' z H2 → te (σ ++ [some z]) H2 fun v H3 => H3 D = some (.lst ys) ∧ ys.length < sizeLine ∧ ∃ m', m' < m ∧ W (i + 1) m' (ys ++ [v]) (upd H3 D (.lst (ys ++ [v]))))))
    (fin : ∀ (D C : Addr) (H' : Hp) (s' : Shared) (m : Str → Option Value), Inv X pins σ H' s' → Q (.ref D) H' → s'.heap.Ns C m → H' C = none → s.heap.objs.size ≤ C → (∀ p ∈ X.pn ++ pins, p.1 ≠ C) → C ≠ X.env.locals → (∀ y c, X.env.cells.lookup y = some c → c ≠ C) → compPost (model X.prog X.w) X.A X.xe use QQ (.ref D) C (.ok .next) s') :
    wpAny (model X.prog X.w) X.A (newList []) (fun acc s₃ => wpAny (model X.prog X.w) X.A (newFunctionEnv sc X.env.globals (clOf X.env.cells sc.names []) [] X.env.qual none .none (some X.env)) (fun cenv s₄ =>
      codeAny (model X.prog X.w) X.A (.compStart (.ListComp elt [⟨.Name x px, iter, [], 0⟩] sc pos) 0 (.ref it) acc { cenv with scope := relabel sc X.env }) (compPost (model X.prog X.w) X.A X.xe use QQ acc cenv.locals) s₄) X.xe s₃) X.xe s := by
  refine wpAny_newObj_type ?_
  have hD : H s.heap.objs.size = none := I.hok.fresh (Nat.le_refl _)
  obtain ⟨W, ⟨m0, w0⟩, turn⟩ := h s.heap.objs.size hD
  have I2 : Inv X pins σ (upd H s.heap.objs.size (.lst [])) { s with heap := s.heap.push { cls := .type "list", data := .seq ([] : List Value).toArray } } := I.lnew (t' := s.toks) .nil (Nat.zero_le _)
  have lt0 : ∀ b ∈ fp, b < s.heap.objs.size := fun b hb => by
    obtain ⟨o, e, _⟩ := T.obj 0 s.heap st b hb
    exact Heap.lt_size e
  have hf2 : ∀ b ∈ fp, FpOk X pins (upd H s.heap.objs.size (.lst [])) b := fun b hb => by
    obtain ⟨f0, f⟩ := hf b hb
    exact ⟨by rw [upd_ne (Nat.ne_of_lt (lt0 b hb))]; exact f0, f⟩
  have st2 : tn 0 (s.heap.push { cls := .type "list", data := .seq ([] : List Value).toArray }) := T.keep 0 _ _ st fun b _ o e => Heap.get?_push_of_some _ e
  generalize hs2 : ({ s with heap := s.heap.push { cls := .type "list", data := .seq ([] : List Value).toArray } } : Shared) = s2 at I2
  have eh : s2.heap = s.heap.push { cls := .type "list", data := .seq ([] : List Value).toArray } := by rw [← hs2]
  have lt2 : ∀ b ∈ fp, b < s2.heap.objs.size := fun b hb => by rw [eh, Heap.size_push]; exact Nat.lt_succ_of_lt (lt0 b hb)
  rw [← eh] at st2
  have le2 : s.heap.objs.size ≤ s2.heap.objs.size := by rw [eh, Heap.size_push]; exact Nat.le_succ _
  show wpAny _ _ _ _ _ s2
  refine newEnv_lc ?_
  rw [L.cells]
  have hp0 := L.heap (s2.heap.push { cls := .type "dict", data := .dict #[] })
  have hns0 : (s2.heap.push { cls := .type "dict", data := .dict #[] }).Ns s2.heap.objs.size _ := Heap.Ns.new s2.heap (.type "dict")
  have hns₁ := hns0.keeps hp0.1
  have hoc := hp0.2
  rw [Heap.size_push] at hoc
  have keep : ∀ b o, s2.heap.get? b = some o → (pushCells (s2.heap.push { cls := .type "dict", data := .dict #[] }) sc.names).get? b = some o := fun b o e => hp0.1 b o (Heap.get?_push_of_some _ e)
  generalize pushCells (s2.heap.push { cls := .type "dict", data := .dict #[] }) sc.names = h₁ at hns₁ hoc keep ⊢
  have J0 : Inv (X.blk (blkN X.N x) sc x s2 (upd H s.heap.objs.size (.lst [])) fp) [] (σ ++ [none]) (upd H s.heap.objs.size (.lst [])) { s2 with heap := h₁ } := I2.blk (tk := s2.toks) L hS hf2 lt2 hns₁ keep hoc
  have st3 : tn 0 h₁ := T.keep 0 _ _ st2 fun b _ o e => keep b o e
  have hl : σ.length = X.N.length := I.len
  have stat : ∀ {H' : Hp}, (∀ b ∈ fp, H' b = none) → ∀ b ∈ fp, FpOk (X.blk (blkN X.N x) sc x s2 (upd H s.heap.objs.size (.lst [])) fp) [] H' b := fun {H'} hn b hb => by
    have o1 := J0.ok.exf b hb
    exact ⟨hn b hb, o1.1, J0.ok.exfs b hb, .inl hb, o1.2, fun p hp => absurd (show p ∈ ([] : List (Addr × Obj)) from hp) (by simp)⟩
  have loop : codeAny (model X.prog X.w) X.A (.compLoop (.ListComp elt [⟨.Name x px, iter, [], 0⟩] sc pos) 0 (.ref it) (.ref s.heap.objs.size) (compEnvC sc (ownC sc x (s2.heap.objs.size + 1) ++ clOf X.env.cells sc.names []) s2.heap.objs.size X.env))
      (compPost (model X.prog X.w) X.A X.xe use QQ (.ref s.heap.objs.size) s2.heap.objs.size) { s2 with heap := h₁ } := by
    refine compLoopG (fun n s' => ∃ i ys H' o, Inv (X.blk (blkN X.N x) sc x s2 (upd H s.heap.objs.size (.lst [])) fp) [] (σ ++ [o]) H' s' ∧ tn i s'.heap ∧ (∀ b ∈ fp, H' b = none) ∧ W i n ys H') ?_ m0 ⟨0, [], _, none, J0, st3, fun b hb => (hf2 b hb).1, w0⟩
    rintro n s4 ⟨i, ys, H4, o, J4, st4, fr4, w4⟩
    obtain ⟨hD4, tt⟩ := turn i n ys H4 w4
    rcases tt with ⟨stop, q⟩ | ⟨go, step⟩
    · refine thn (T.done (X.blk (blkN X.N x) sc x s2 (upd H s.heap.objs.size (.lst [])) fp) rfl rfl rfl hc i [] s4 _ H4 _ J4 (stat fr4) st4 stop) fun r s5 ⟨hr, J5⟩ => ?_
      subst hr
      have I5 : Inv X pins σ H4 s5 := I2.call' J5.os J5.base J5.hok J5.bare fun b hb => by
        obtain ⟨f0, f1, f2, f3, f4, f5⟩ := hf2 b hb
        exact ⟨f3, f1, f4, f5⟩
      obtain ⟨m5, n5, _⟩ := J5.loc
      exact fin _ _ H4 s5 m5 I5 q n5 J5.free le2 (fun p hp z => by
          have := Heap.lt_size (I2.pin p hp).1
          rw [z] at this
          exact Nat.lt_irrefl _ this) (Nat.ne_of_gt I2.lt) (fun y c e z => by
          obtain ⟨v, o, ho, _⟩ := I2.cell y c e
          have := Heap.lt_size ho
          rw [z] at this
          exact Nat.lt_irrefl _ this)
    · refine thn (T.item (X.blk (blkN X.N x) sc x s2 (upd H s.heap.objs.size (.lst [])) fp) rfl rfl rfl hc i [] s4 _ H4 _ J4 (stat fr4) st4 go) fun r s5 ⟨u, hr, h5⟩ => ?_
      subst hr
      refine thn h5 fun _ s6 ⟨z, H6, J6, r6, y6, st6, fr6⟩ => ?_
      have J6' := J6.pinned (stat fr6) (T.obj _ _ st6)
      refine thn (pg_name (X := X.blk (blkN X.N x) sc x s2 (upd H s.heap.objs.size (.lst [])) fp) (i := X.N.length) L.nd (by show (blkN X.N x)[X.N.length]? = some x; unfold blkN; rw [List.getElem?_append_right (by simp)]; simp) (relab_loc L) (relab_fn L)
        _ s6 _ H6 z u (fun σ' H' => σ' = σ ++ [some z] ∧ H' = H6) J6' r6 ⟨by
          rw [List.set_append_right _ _ (by omega)]
          have : X.N.length - σ.length = 0 := by omega
          rw [this]
          rfl, rfl⟩) fun _ s7 ⟨σ7, H7, J7, e7, e8⟩ => ?_
      subst e7 e8
      refine thn (he s2 (upd H s.heap.objs.size (.lst [])) fp _ s7 _ H7 _ J7 (step z H7 y6)) fun vv s8 ⟨v, H8, J8, r8, hD8, hz8, m', hm, w8⟩ => ?_
      refine thn (mt_append (X := X.blk (blkN X.N x) sc x s2 (upd H s.heap.objs.size (.lst [])) fp) _ s8 _ H8 (.ref s.heap.objs.size) [v] (.ref s.heap.objs.size) [vv] (fun _ H' => H' = upd H8 s.heap.objs.size (.lst (ys ++ [v]))) J8 rfl (.cons r8 .nil) ⟨_, ys, v, rfl, rfl, hD8, hz8, rfl⟩) fun _ s9 ⟨_, H9, J9, _, e9⟩ => ?_
      subst e9
      refine ⟨m', hm, i + 1, ys ++ [v], _, some z, J9.unpinned, T.keep _ _ _ st6 fun b hb o e => (J9.pin (b, o) (List.mem_append_right _ (List.mem_append_right _ (mem_pinsAt hb e)))).1, fun b hb => ?_, w8⟩
      obtain ⟨o', e', _⟩ := T.obj _ _ st6 b hb
      exact (J9.pin (b, o') (List.mem_append_right _ (List.mem_append_right _ (mem_pinsAt hb e')))).2.1
  refine codeAny_compStart_list loop (T.self _ 0 _ _ _ st3 loop)
theorem pe_lc {elt iter : Expr} {px pos : Pos} {ti : TI} {te : TE} {S : Scope} (hc : X.calm = true) (L : LcScope S X.N sc x) (hS : X.env.scope = S) (hi : PI X (.Name x px) iter ti)
    (he : ∀ (s₀ : Shared) (H₀ : Hp) (fp : List Addr), PE (X.blk (blkN X.N x) sc x s₀ H₀ fp) elt te) (hs : ∀ x, foldedSetIterable iter X.env x = pure x := by intro _; rfl) :
    PE X (.ListComp elt [⟨.Name x px, iter, [], 0⟩] sc pos) (tLc ti te) := by
  intro pins s σ H Q I h
  rw [eval_ListComp]
  refine wpAny_comprehension_free (use := none) rfl hs (closure_of (I.has_cell L hS)) L.kind L.names (thn (hi pins s σ H _ I h) fun xv s₁ h₁ => thn h₁ fun itv s₂ h₂ => ?_)
  obtain ⟨it, fp, tn, J, H2, rfl, I2, T, st2, f2, q2⟩ := h₂
  refine lc_core hc L hS he I2 T st2 f2 q2 ?_
  intro D C H' s' m I' q hn hC hle hp hL hcl
  refine ⟨m, hn, fun h' hs' => ?_⟩
  have I3 : Inv X pins σ H' { s' with heap := h' } := I'.turned (t' := s'.toks) (fun b o hb e => (hs'.2 b hb).trans e) hC hL (.inr (Nat.le_trans I2.sz hle)) hcl hp
  exact ⟨.ref D, H', I3, rfl, q⟩
end
end L2
namespace L2
open PySem PySem.Spec PyProof.Rows
section
variable {X : Cx}
theorem call_range1v : CallR X (.type "range") (fun xs H Q => ∃ j : Int, xs = [.int j] ∧ ∀ p, H p = none → Q (.ref p) (upd H p (.rng 0 j))) := by
  intro pins s σ H xs us Q I r h
  obtain ⟨j, rfl, q⟩ := h
  obtain ⟨u, rfl, t, rfl⟩ := vals1 r
  have hn : H s.heap.objs.size = none := I.hok.fresh (Nat.le_refl _)
  exact call_range_1 ⟨.ref s.heap.objs.size, _, I.laid (fun b o z => Heap.get?_push_of_some _ z) (Nat.le_refl _) (show ObjOk X.prog X.w (upd H s.heap.objs.size (.rng 0 j)) _ s.heap.objs.size (.rng 0 j) from ⟨_, _, _, Heap.get?_push_size _ rfl⟩), rfl, q _ hn⟩
theorem vals_items : ∀ {n : Nat} {us : List Value} {f : Nat → Int}, us.length = n → (∀ (i : Nat) (u : Value), us[i]? = some u → ∃ t, u = .int (f i) t) → Vals ((List.range n).map fun i => V.int (f i)) us := by
  intro n
  induction n with
  | zero =>
    intro us f hl _
    rw [List.length_eq_zero_iff.mp hl]
    exact .nil
  | succ n ih =>
    intro us f hl h
    cases us with
    | nil => cases hl
    | cons u us =>
      rw [List.range_succ_eq_map, List.map_cons, List.map_map]
      obtain ⟨t, e⟩ := h 0 u rfl
      refine .cons ⟨t, e⟩ (ih (f := fun i => f (i + 1)) (by simpa using hl) fun i u' hu => h (i + 1) u' (by simpa using hu))
theorem call_list_rng (hc : X.calm = true) : CallR X (.type "list") (fun xs H Q => ∃ (p : Addr) (n : Nat), xs = [.ref p] ∧ H p = some (.rng 0 (n : Int)) ∧ n ≤ 1000 ∧ ∀ l, H l = none → Q (.ref l) (upd H l (.lst ((List.range n).map fun (i : Nat) => V.int (i : Int))))) := by
  intro pins s σ H xs us Q I r h
  obtain ⟨p, n, rfl, hp, hle, q⟩ := h
  obtain ⟨u, rfl, rx⟩ := vals1 r
  cases rx
  obtain ⟨t, u, v, e⟩ := I.hok p _ hp
  have hs : Builtin.Range.rangeSize 0 (n : Int) 1 = (n : Nat) := by rw [rangeSize_one]; split <;> omega
  have hn : H s.heap.objs.size = none := I.hok.fresh (Nat.le_refl _)
  refine call_list_range (I.ok.hd hc) (show IsRange s.heap p 0 (n : Int) 1 t u v from e) (small_one (by omega) (by omega) (by omega) (by omega)) hs (by omega) fun h' tk acc c' kp ga it => ?_
  refine ⟨.ref s.heap.objs.size, _, I.laid (t' := tk) kp (Nat.le_refl _) ?_, rfl, q _ hn⟩
  have hv : Vals ((List.range n).map fun (i : Nat) => V.int (i : Int)) acc.toList := by
    refine vals_items (f := fun i => (i : Int)) (by simpa using it.1) fun i w hw => ?_
    obtain ⟨t', et⟩ := it.2 i w (by simpa using hw)
    refine ⟨t', ?_⟩
    rw [et]
    congr 1
    omega
  refine ⟨?_, acc.toList, c', hv, by simpa using ga⟩
  rw [List.length_map, List.length_range]
  exact Nat.le_of_lt (small1000 hle)
end
end L2
namespace L2
open PySem PySem.Spec PyProof.Rows
theorem lc_list {K : PySem.W.Frag} {a : Addr} {xs : List V} {te : TE} {Q : Hp → Prop} {σ : St} {H1 : Hp} {D : Addr} (Pv : Nat → List V → Hp → Prop) (h0 : Pv 0 [] (upd H1 D (.lst []))) (hl : ∀ i ys H', i ≤ xs.length → Pv i ys H' → SqL K H' a xs ∧ H' D = some (.lst ys))
    (hs : ∀ i x ys H', xs[i]? = some x → Pv i ys H' → te (σ ++ [some x]) H' fun v H3 => H3 D = some (.lst ys) ∧ ys.length < sizeLine ∧ Pv (i + 1) (ys ++ [v]) (upd H3 D (.lst (ys ++ [v])))) (hd : ∀ ys H', Pv xs.length ys H' → Q H')
    (mono : ∀ σ H Q Q', (∀ v H1, Q v H1 → Q' v H1) → te σ H Q → te σ H Q') :
    ∃ W : Nat → Nat → List V → Hp → Prop, (∃ m, W 0 m [] (upd H1 D (.lst []))) ∧
      ∀ i m ys H', W i m ys H' → H' D = some (.lst ys) ∧ (((Itl K a).stop i H' ∧ Q H') ∨ ((Itl K a).go i H' ∧ ∀ z H2, (Itl K a).yld i H' z H2 → te (σ ++ [some z]) H2 fun v H3 => H3 D = some (.lst ys) ∧ ys.length < sizeLine ∧ ∃ m', m' < m ∧ W (i + 1) m' (ys ++ [v]) (upd H3 D (.lst (ys ++ [v]))))) := by
  refine ⟨fun i m ys H' => m = xs.length - i ∧ i ≤ xs.length ∧ Pv i ys H', ⟨xs.length, by simp, Nat.zero_le _, h0⟩, ?_⟩
  rintro i m ys H' ⟨rfl, hi, p⟩
  obtain ⟨q, eD⟩ := hl i ys H' hi p
  refine ⟨eD, ?_⟩
  by_cases hlt : i < xs.length
  · refine .inr ⟨⟨xs, xs[i], q, by simp [hlt]⟩, fun z H2 y => ?_⟩
    obtain ⟨e, y⟩ := y
    subst e
    refine mono _ _ _ _ (fun v H3 ⟨z1, z2, z3⟩ => ⟨z1, z2, xs.length - (i + 1), by omega, rfl, hlt, z3⟩) (hs i z ys _ (y xs q) p)
  · have e : i = xs.length := by omega
    subst e
    exact .inl ⟨⟨xs, q, Nat.le_refl _⟩, hd ys H' p⟩
theorem lc_range {lo : Int} {n : Nat} {te : TE} {Q : Hp → Prop} {σ : St} {H1 : Hp} {D : Addr} (Pv : Nat → List V → Hp → Prop) (h0 : Pv 0 [] (upd H1 D (.lst []))) (hl : ∀ i ys H', i ≤ n → Pv i ys H' → H' D = some (.lst ys))
    (hs : ∀ i ys H', i < n → Pv i ys H' → te (σ ++ [some (.int (lo + (i : Nat)))]) H' fun v H3 => H3 D = some (.lst ys) ∧ ys.length < sizeLine ∧ Pv (i + 1) (ys ++ [v]) (upd H3 D (.lst (ys ++ [v])))) (hd : ∀ ys H', Pv n ys H' → Q H')
    (mono : ∀ σ H Q Q', (∀ v H1, Q v H1 → Q' v H1) → te σ H Q → te σ H Q') :
    ∃ W : Nat → Nat → List V → Hp → Prop, (∃ m, W 0 m [] (upd H1 D (.lst []))) ∧
      ∀ i m ys H', W i m ys H' → H' D = some (.lst ys) ∧ (((Itr lo n).stop i H' ∧ Q H') ∨ ((Itr lo n).go i H' ∧ ∀ z H2, (Itr lo n).yld i H' z H2 → te (σ ++ [some z]) H2 fun v H3 => H3 D = some (.lst ys) ∧ ys.length < sizeLine ∧ ∃ m', m' < m ∧ W (i + 1) m' (ys ++ [v]) (upd H3 D (.lst (ys ++ [v]))))) := by
  refine ⟨fun i m ys H' => m = n - i ∧ i ≤ n ∧ Pv i ys H', ⟨n, by simp, Nat.zero_le _, h0⟩, ?_⟩
  rintro i m ys H' ⟨rfl, hi, p⟩
  refine ⟨hl i ys H' hi p, ?_⟩
  by_cases hlt : i < n
  · refine .inr ⟨hlt, fun z H2 y => ?_⟩
    obtain ⟨e, y⟩ := y
    subst e y
    refine mono _ _ _ _ (fun v H3 ⟨z1, z2, z3⟩ => ⟨z1, z2, n - (i + 1), by omega, rfl, hlt, z3⟩) (hs i ys _ hlt p)
  · have e : i = n := by omega
    subst e
    exact .inl ⟨Nat.le_refl _, hd ys H' p⟩
end L2
namespace L2
open PySem PySem.Spec PyProof.Rows
section
variable {X : Cx}
theorem call_sum (hc : X.calm = true) : CallR X (.builtin "sum") (fun xs H Q => ∃ (p : Addr) (ns : List Int), xs = [.ref p] ∧ SqL X.K H p (ns.map V.int) ∧ Q (.int ns.sum) H) := by
  intro pins s σ H xs us Q I r h
  obtain ⟨p, ns, rfl, hq, q⟩ := h
  obtain ⟨u, rfl, rx⟩ := vals1 r
  cases rx
  obtain ⟨its, rv, pl, hz⟩ := I.list hq
  have hI : IntsAre its ns := intsAre_of rv
  obtain ⟨ys, hx⟩ := hI.allInts.items
  have hl' : s.heap.IsList p (intItems ys) := hx ▸ pl.isList
  refine sum_intListG (I.ok.hd hc) hl' fun h' tk t' hk => ?_
  have e1 : ns = ys.toList.map (·.1) := by
    rw [← nums_intItems, ← hx]
    exact (show numsOf its.toArray.toList = ns from hI.numsOf).symm
  have e2 : preSum (numAt ys) ys.size = ns.sum := by
    rw [preSum_eq, List.take_of_length_le (by simp), e1]
  rw [e2]
  exact ⟨.int ns.sum, H, I.kept hk, ⟨_, rfl⟩, q⟩
end
end L2
namespace L2
open PySem PySem.Spec PyProof.Rows
section
variable {X : Cx} {pins : List (Addr × Obj)} {σ : List (Option V)} {H : Hp} {s : Shared} {h' : Heap}
theorem Inv.turnedL {t' : Nat} {its : List Addr} (I : Inv X pins σ H s) (k : ∀ b o, b ∉ its → s.heap.get? b = some o → h'.get? b = some o) (hf : ∀ b ∈ its, FpOk X pins H b) : Inv X pins σ H { s with heap := h', toks := t' } := by
  have nit : ∀ b u, H b = some u → b ∉ its := fun b u e z => by rw [(hf b z).1] at e; cases e
  refine I.step (g' := s.gens) (d' := s.drawn) (ch := its) (fun b hb => ?_) (fun b o _ _ hc e _ => k b o hc e) (fun b o _ _ hc e _ => ⟨o.slots, k b o hc e⟩) (fun _ _ _ _ n => n)
    (fun b o hc e => ⟨o, k b o hc e⟩) (fun _ _ e => e) (fun _ _ _ e => e) (fun b ps e => ⟨#[], by rw [e]; simp⟩) (fun m hm => ?_) (fun b u e => ?_) I.bare
  · obtain ⟨f0, f1, f2, f3, f4, f5⟩ := hf b hb
    exact ⟨f3, f1, f4, f5⟩
  · obtain ⟨o, es, ep, ho, r⟩ := hm
    exact ⟨o, es, ep, k _ o (fun z => (hf _ z).2.1 rfl) ho, r⟩
  · refine (I.hok b u e).stay (fun c v hc q => k c v ?_ q) (fun _ q => q) fun _ _ q => q
    rcases hc with z | z
    · rw [z]; exact nit b u e
    · exact nit c _ z
end
def Itz (K : PySem.W.Frag) (a b : Addr) : It :=
  ⟨fun i H => ∃ xs ys x y, SqL K H a xs ∧ SqL K H b ys ∧ xs[i]? = some x ∧ ys[i]? = some y,
   fun i H z H' => ∃ t x y, z = .ref t ∧ H t = none ∧ H' = upd H t (.tup [x, y]) ∧ (∀ xs, SqL K H a xs → xs[i]? = some x) ∧ ∀ ys, SqL K H b ys → ys[i]? = some y,
   fun i H => ∃ xs ys, SqL K H a xs ∧ SqL K H b ys ∧ (xs.length ≤ i ∨ ys.length ≤ i)⟩
structure Ap5 (z TI TO i1 i2 : Addr) : Prop where
  a1 : TI ≠ z
  a2 : TO ≠ z
  a3 : i1 ≠ z
  a4 : i2 ≠ z
  a5 : TI ≠ TO
  a6 : TI ≠ i1
  a7 : TI ≠ i2
  a8 : TO ≠ i1
  a9 : TO ≠ i2
  b1 : i1 ≠ i2
def ZSt (z TI TO i1 i2 a b : Addr) (i : Nat) (h : Heap) : Prop := IsZip h z TI TO .none ∧ IsPair h TI (.ref i1) (.ref i2) ∧ (∃ c d, IsPair h TO c d) ∧ h.IsListIter i1 a i ∧ h.IsListIter i2 b i
theorem cls_ne {h : Heap} {a b : Addr} {o o' : Obj} (e : h.get? a = some o) (e' : h.get? b = some o') (n : o.cls ≠ o'.cls) : a ≠ b := fun z => by
  subst z
  rw [e] at e'
  cases e'
  exact n rfl
theorem zap {h : Heap} {z TI TO i1 i2 a b : Addr} {i : Nat} {xs ys : Array Value} (D : Ap5 z TI TO i1 i2) (st : ZSt z TI TO i1 i2 a b i h) (ha : h.IsList a xs) (hb : h.IsList b ys) : ZipApart z TI TO i1 i2 a b := by
  obtain ⟨hz, hTI, ⟨c, d, hTO⟩, ⟨o1, e1, c1, _⟩, ⟨o2, e2, c2, _⟩⟩ := st
  obtain ⟨oa, ea, ca, _⟩ := ha
  obtain ⟨ob, eb, cb, _⟩ := hb
  exact ⟨D.a1, D.a2, D.a3, D.a4, D.a5, D.a6, D.a7, D.a8, D.a9, D.b1,
    cls_ne ea hz (by rw [ca]; show Value.type "list" ≠ Value.type "zip"; decide), cls_ne ea hTO (by rw [ca]; show Value.type "list" ≠ Value.type "tuple"; decide), cls_ne ea e1 (by rw [ca, c1]; decide), cls_ne ea e2 (by rw [ca, c2]; decide),
    cls_ne eb hz (by rw [cb]; show Value.type "list" ≠ Value.type "zip"; decide), cls_ne eb hTO (by rw [cb]; show Value.type "list" ≠ Value.type "tuple"; decide), cls_ne eb e1 (by rw [cb, c1]; decide), cls_ne eb e2 (by rw [cb, c2]; decide)⟩
theorem turn_zip {P : Program} {w : World} {K : PySem.W.Frag} {elts : List Expr} {ek : Nat} {epos : Pos} {z TI TO i1 i2 a b : Addr} (D : Ap5 z TI TO i1 i2) : Turn P w K (.Tuple elts ek epos) (Itz K a b) [z, TI, TO, i1, i2] z (ZSt z TI TO i1 i2 a b) where
  mem := by simp
  obj := fun i h st c hc => by
    obtain ⟨hz, hTI, ⟨p, q, hTO⟩, ⟨o1, e1, c1, d1⟩, ⟨o2, e2, c2, d2⟩⟩ := st
    have hc' : c = z ∨ c = TI ∨ c = TO ∨ c = i1 ∨ c = i2 := by simpa using hc
    rcases hc' with rfl | rfl | rfl | rfl | rfl
    · exact ⟨_, hz, fun v e => by cases e⟩
    · exact ⟨_, hTI, fun v e => by cases e⟩
    · exact ⟨_, hTO, fun v e => by cases e⟩
    · exact ⟨_, e1, fun v e => by rw [d1] at e; cases e⟩
    · exact ⟨_, e2, fun v e => by rw [d2] at e; cases e⟩
  keep := fun i h h' st k => by
    obtain ⟨hz, hTI, ⟨p, q, hTO⟩, l1, l2⟩ := st
    exact ⟨k z (by simp) _ hz, k TI (by simp) _ hTI, ⟨p, q, k TO (by simp) _ hTO⟩, l1.at fun o e => k i1 (by simp) o e, l2.at fun o e => k i2 (by simp) o e⟩
  item := by
    intro X hP hw hK hc i pins s σ H E I hf st hg
    subst hP hw hK
    obtain ⟨xs, ys, x, y, hx, hy, ex, ey⟩ := hg
    obtain ⟨ia, ra, pa, za⟩ := I.list hx
    obtain ⟨ib, rb, pb, zb⟩ := I.list hy
    obtain ⟨u, hu, ru⟩ := ra.get ex
    obtain ⟨v, hv, rv⟩ := rb.get ey
    have A := zap D st pa.isList pb.isList
    have stl := st
    obtain ⟨hz, hTI, ⟨p, q, hTO⟩, l1, l2⟩ := st
    refine wpAny_pyNext_zip_item A hz hTI hTO l1 l2 pa.isList pb.isList (x := u) (y := v) (by simpa using hu) (by simpa using hv) fun h' a1 a2 a3 a4 a5 a6 a7 => ?_
    refine ⟨_, rfl, wpAny_letOwnedTupleGo_zip a1 fun h2 b1 b2 => ?_⟩
    have hT : H s.heap.objs.size = none := I.hok.fresh (Nat.le_refl _)
    have ltz : ∀ c o, s.heap.get? c = some o → s.heap.objs.size ≠ c := fun c o e => Nat.ne_of_gt (Heap.lt_size e)
    have hTI' := a7 _ _ D.a1 D.a5 D.a6 D.a7 hTI
    have Tz : s.heap.objs.size ≠ z := ltz _ _ hz
    have aT : h2.get? s.heap.objs.size = some { cls := .type "tuple", data := .seq #[u, v] } := b2.extBut _ _ Tz a5
    have k2 : ∀ c o, c ≠ z → c ≠ TO → c ≠ i1 → c ≠ i2 → s.heap.get? c = some o → h2.get? c = some o := fun c o n1 n2 n3 n4 e => b2.extBut _ _ n1 (a7 c o n1 n2 n3 n4 e)
    have I1 : Inv X pins σ (upd H s.heap.objs.size (.tup [x, y])) { s with heap := s.heap.push { cls := .type "tuple", data := .seq #[u, v] } } := by
      refine I.laid (t' := s.toks) (fun c o e => Heap.get?_push_of_some _ e) (Nat.le_refl _) ?_
      exact ⟨(by show 2 ≤ sizeLine; decide), [u, v], .cons ru (.cons rv .nil), IsTup.new s.heap _⟩
    have hf1 : ∀ c ∈ [z, TI, TO, i1, i2], FpOk X pins (upd H s.heap.objs.size (.tup [x, y])) c := fun c hc' => by
      obtain ⟨f0, f⟩ := hf c hc'
      refine ⟨?_, f⟩
      have : ∃ o, s.heap.get? c = some o := by
        have hc'' : c = z ∨ c = TI ∨ c = TO ∨ c = i1 ∨ c = i2 := by simpa using hc'
        obtain ⟨o1, e1, _⟩ := l1
        obtain ⟨o2, e2, _⟩ := l2
        rcases hc'' with rfl | rfl | rfl | rfl | rfl
        · exact ⟨_, hz⟩
        · exact ⟨_, hTI⟩
        · exact ⟨_, hTO⟩
        · exact ⟨_, e1⟩
        · exact ⟨_, e2⟩
      obtain ⟨o, e⟩ := this
      rw [upd_ne (ltz c o e).symm]
      exact f0
    have I2 : Inv X pins σ (upd H s.heap.objs.size (.tup [x, y])) { s with heap := h2 } := by
      refine Inv.turnedL (s := { s with heap := s.heap.push { cls := .type "tuple", data := .seq #[u, v] } }) (h' := h2) (t' := s.toks) (its := [z, TI, TO, i1, i2]) I1 (fun c o hc' e => ?_) hf1
      have hc'' : ¬ (c = z ∨ c = TI ∨ c = TO ∨ c = i1 ∨ c = i2) := by simpa using hc'
      by_cases hcs : c = s.heap.objs.size
      · subst hcs
        have e' : (s.heap.push { cls := .type "tuple", data := .seq #[u, v] }).get? s.heap.objs.size = some o := e
        rw [Heap.get?_push_size _ rfl] at e'
        cases e'
        exact aT
      · have hlt : c < (s.heap.push { cls := .type "tuple", data := .seq #[u, v] }).objs.size := Heap.lt_size e
        rw [Heap.size_push] at hlt
        refine k2 c o (fun z' => hc'' (.inl z')) (fun z' => hc'' (.inr (.inr (.inl z')))) (fun z' => hc'' (.inr (.inr (.inr (.inl z'))))) (fun z' => hc'' (.inr (.inr (.inr (.inr z'))))) ?_
        rw [← e]
        exact (Heap.get?_push_ne _ _ _ hcs).symm
    refine ⟨.ref s.heap.objs.size, _, I2, rfl, ⟨_, x, y, rfl, hT, rfl, fun ws hw => by rw [I.list_inj hw hx]; exact ex, fun ws hw => by rw [I.list_inj hw hy]; exact ey⟩, ?_, fun c hc' => (hf1 c hc').1⟩
    exact ⟨b1, b2.extBut _ _ D.a1 hTI', ⟨_, _, b2.extBut _ _ D.a2 a2⟩, a3.extBut b2.extBut D.a3, a4.extBut b2.extBut D.a4⟩
  done := by
    intro X hP hw hK hc i pins s σ H E I hf st hg
    subst hP hw hK
    obtain ⟨xs, ys, hx, hy, hl⟩ := hg
    obtain ⟨ia, ra, pa, za⟩ := I.list hx
    obtain ⟨ib, rb, pb, zb⟩ := I.list hy
    have A := zap D st pa.isList pb.isList
    have hla := ra.length
    have hlb := rb.length
    obtain ⟨hz, hTI, ⟨p, q, hTO⟩, l1, l2⟩ := st
    refine wpAny_pyNext_zip_end (I.ok.hd hc) A hz hTI hTO l1 l2 pa.isList pb.isList (by
      rcases hl with hl | hl
      · exact .inl (by simp; omega)
      · exact .inr (by simp; omega)) fun h' k => ⟨rfl, ?_⟩
    exact I.turnedL (t' := s.toks) (its := [z, TI, TO, i1, i2]) (fun c o hc' e => by
      have hc'' : ¬ (c = z ∨ c = TI ∨ c = TO ∨ c = i1 ∨ c = i2) := by simpa using hc'
      exact k c o (fun z' => hc'' (.inl z')) (fun z' => hc'' (.inr (.inr (.inl z')))) (fun z' => hc'' (.inr (.inr (.inr (.inl z'))))) (fun z' => hc'' (.inr (.inr (.inr (.inr z'))))) e) hf
  self := fun _ _ _ _ _ st h => wpAny_pyIter_zip st.1 h
section
variable {X : Cx}
def iZip (K : PySem.W.Frag) (ta : TA) : TI := fun σ H R => ta σ H fun vs H1 => ∃ a b, vs = [.ref a, .ref b] ∧ (∃ xs, SqL K H1 a xs) ∧ (∃ ys, SqL K H1 b ys) ∧ R (Itz K a b) H1
theorem boot_zip : bootBuiltins "zip" = some (.type "zip") := by decide +kernel
theorem pi_zip {elts : List Expr} {ek : Nat} {epos : Pos} {a b : Expr} {ta : TA} {p pos : Pos} (hg : Gl X "zip") (hm : X.mg "zip" = none) (ha : PA X [a, b] ta) (hs : starEach [a, b] X.env = [(false, eval a X.env), (false, eval b X.env)] := by rfl) (hs2 : starEach [b] X.env = [(false, eval b X.env)] := by rfl) :
    PI X (.Tuple elts ek epos) (.Call (.Name "zip" p) [a, b] [] pos) (iZip X.K ta) := by
  intro pins s σ H R I h
  refine Call_ (ld_blt I hg hm boot_zip (PyProof.Rows.callWith_type1 (thn (ha pos pins s σ H _ I h) fun us s1 ⟨vs, H1, I1, r1, q1⟩ => ?_) (by rw [hs, hs2]) (by rw [hs2]; rfl)))
  obtain ⟨l1, l2, e, ⟨xs, hx⟩, ⟨ys, hy⟩, q⟩ := q1
  subst e
  obtain ⟨u, v, rfl, ru, rv⟩ := vals2 r1
  cases ru
  cases rv
  obtain ⟨ia, ra, pa, za⟩ := I1.list hx
  obtain ⟨ib, rb, pb, zb⟩ := I1.list hy
  refine call_zip_2 pa.isList pb.isList fun h' hz hTI hTO hi1 hi2 hsz hk => wpAny_pyIter_zip hz ?_
  have fr : ∀ b, s1.heap.objs.size ≤ b → FpOk X pins H1 b := fun b hb => I1.fpOk hb (I1.hok.fresh hb)
  refine ⟨_, [s1.heap.objs.size + 4, s1.heap.objs.size + 2, s1.heap.objs.size + 3, s1.heap.objs.size, s1.heap.objs.size + 1], _, _, H1, rfl, I1.kept (t' := s1.toks) hk,
    turn_zip (TI := s1.heap.objs.size + 2) (TO := s1.heap.objs.size + 3) (i1 := s1.heap.objs.size) (i2 := s1.heap.objs.size + 1) (a := l1) (b := l2) ?_, ⟨hz, hTI, ⟨_, _, hTO⟩, hi1, hi2⟩, fun b hb => ?_, q⟩
  · generalize s1.heap.objs.size = n
    have ne : ∀ {x y : Nat}, x ≠ y → (n + x : Nat) ≠ n + y := fun h e => h (Nat.add_left_cancel e)
    exact ⟨ne (by decide), ne (by decide), ne (x := 0) (by decide), ne (by decide), ne (by decide), ne (y := 0) (by decide), ne (by decide), ne (y := 0) (by decide), ne (by decide), ne (x := 0) (by decide)⟩
  · have hb' : b = s1.heap.objs.size + 4 ∨ b = s1.heap.objs.size + 2 ∨ b = s1.heap.objs.size + 3 ∨ b = s1.heap.objs.size ∨ b = s1.heap.objs.size + 1 := by simpa using hb
    rcases hb' with rfl | rfl | rfl | rfl | rfl
    · exact fr _ (Nat.le_add_right _ _)
    · exact fr _ (Nat.le_add_right _ _)
    · exact fr _ (Nat.le_add_right _ _)
    · exact fr _ (Nat.le_refl _)
    · exact fr _ (Nat.le_add_right _ _)
def tabD (D : List (Str × Int)) : List (Str × PyProof.Rows.KTD.Dat) := D.map fun p => (p.1, .flat (.int p.2))
structure TabK (K : PySem.W.Frag) (a : Addr) (D : List (Str × Int)) : Prop where
  lk : PyProof.Rows.KTD.tabLook (PyProof.Rows.KTD.datLooks fun b => K.lookup b) (fun b => K.lookup b) a (tabD D) = true
def rIxTab (a : Addr) (D : List (Str × Int)) : R2 := fun x y H Q => ∃ k i, x = .ref a ∧ y = .str k ∧ PyProof.Rows.KTD.datumAt k D = some i ∧ Q (.int i) H
theorem inKeys_tab {k : Str} {i : Int} : ∀ {D : List (Str × Int)}, PyProof.Rows.KTD.datumAt k D = some i → PyProof.Rows.KTD.inKeys k (tabD D) = true
  | [], h => by cases h
  | (x, d) :: D, h => by
    have h' : (if decide (k = x) = true then some d else PyProof.Rows.KTD.datumAt k D) = some i := h
    show (decide (k = x) || PyProof.Rows.KTD.inKeys k (tabD D)) = true
    by_cases e : k = x
    · rw [decide_eq_true e]; rfl
    · rw [decide_eq_false e] at h' ⊢
      exact inKeys_tab (by simpa using h')
theorem eachL_tab {h : Heap} {k : Str} {i : Int} {P : Value → Prop} (hp : ∀ t, P (.int i t)) : ∀ {D : List (Str × Int)}, PyProof.Rows.KTD.datumAt k D = some i → PyProof.Rows.KTD.EachL h k P (tabD D)
  | [], h => by cases h
  | [(x, d)], h => by
    have h' : (if decide (k = x) = true then some d else none) = some i := h
    refine PyProof.Rows.KTD.eachL_last fun e => ?_
    rw [if_pos (decide_eq_true e)] at h'
    cases h'
    exact PyProof.Rows.KTD.opened_int hp
  | (x, d) :: p :: D, h => by
    have h' : (if decide (k = x) = true then some d else PyProof.Rows.KTD.datumAt k (p :: D)) = some i := h
    refine PyProof.Rows.KTD.eachL_ite ?_
    by_cases e : k = x
    · rw [if_pos (decide_eq_true e)] at h' ⊢
      cases h'
      exact PyProof.Rows.KTD.opened_int hp
    · rw [if_neg (by simpa using e)] at h' ⊢
      exact eachL_tab hp h'
theorem plain_tab : ∀ D : List (Str × Int), ((tabD D).all fun p => PyProof.Rows.KTD.plain p.2) = true
  | [] => rfl
  | (x, d) :: D => plain_tab D
theorem ix_tab {a : Addr} {D : List (Str × Int)} (T : TabK X.K a D) : IxR X (rIxTab a D) := by
  intro value slice pins s σ H x y v u Q I rx ry h hs
  obtain ⟨k, i, rfl, rfl, hk, q⟩ := h
  cases rx
  obtain ⟨t, rfl⟩ := ry
  have TT : PyProof.Rows.KTD.TextTab X.base a (tabD D) := PyProof.Rows.KTD.text_of_look (fun b o e => I.mod.kin b o e) T.lk
  exact PyProof.Rows.KTD.item_textA ⟨TT, I.bk⟩ (plain_tab D) (inKeys_tab hk) (eachL_tab (fun t' => ⟨.int i, H, I.tok _, ⟨_, rfl⟩, q⟩) hk) hs
end
end L2
namespace L2
open PySem PySem.Spec PyProof.Rows
def blkNs (N xs : List Str) : List Str := N.map (fun y => if y ∈ xs then Str.empty else y) ++ xs
structure LcScopes (S : Scope) (N : List Str) (sc : Scope) (xs : List Str) : Prop where
  uniq : (sc.names.map (·.1)).Nodup
  kind : sc.kind = .function
  names : ∀ y ∈ sc.names, y.2 = .local → sc.names.lookup y.1 = some .local
  loc : ∀ x ∈ xs, sc.names.lookup x = some .local
  free : ∀ y ∈ sc.names, y.2 = .free → S.names.lookup y.1 = some .cell ∨ S.names.lookup y.1 = some .free
  only : ∀ y ∈ sc.names, y.2 = .local → y.1 ∈ xs ∨ y.1 = ".0"
  noC : ∀ y ∈ sc.names, y.2 ≠ .cell
  ne : ∀ y ∈ sc.names, y.1 ≠ Str.empty
  dot : ∀ y ∈ N, y ≠ ".0"
  nd : (blkNs N xs).Nodup
def Cx.blks (X : Cx) (N' : List Str) (sc : Scope) (s₀ : Shared) (H₀ : Hp) (fp : List Addr) : Cx :=
  { X with N := N', s₀ := s₀, H₀ := H₀, env := compEnvC sc (clOf X.env.cells sc.names []) s₀.heap.objs.size X.env, outer := X.stack, stack := X.stack, ex := fp, fn := fun _ => false, pn := [], xe := fun _ _ => False }
section
variable {X : Cx} {pins : List (Addr × Obj)} {σ : St} {H : Hp} {s : Shared} {sc : Scope} {xs : List Str} {fp : List Addr}
theorem blkNs_len (N xs : List Str) : (blkNs N xs).length = N.length + xs.length := by simp [blkNs]
theorem blkNs_at {N xs : List Str} {i : Nat} {y : Str} (h : (blkNs N xs)[i]? = some y) (hi : i < N.length) : ∃ y0, N[i]? = some y0 ∧ ((y0 ∈ xs ∧ y = Str.empty) ∨ (y0 ∉ xs ∧ y = y0)) := by
  unfold blkNs at h
  rw [List.getElem?_append_left (by simpa using hi), List.getElem?_map] at h
  cases q : N[i]? with
  | none => rw [q] at h; cases h
  | some y0 =>
    rw [q] at h
    refine ⟨y0, rfl, ?_⟩
    have h' : (if y0 ∈ xs then Str.empty else y0) = y := Option.some.inj h
    by_cases e : y0 ∈ xs
    · rw [if_pos e] at h'; exact .inl ⟨e, h'.symm⟩
    · rw [if_neg e] at h'; exact .inr ⟨e, h'.symm⟩
theorem Inv.has_cells (I : Inv X pins σ H s) {S : Scope} (L : LcScopes S X.N sc xs) (hS : X.env.scope = S) : ∀ y ∈ sc.names, y.2 = .free → (X.env.cells.lookup y.1).isSome = true := fun y hy hf => by
  have k : X.env.kindOf y.1 = some .cell ∨ X.env.kindOf y.1 = some .free := by
    show X.env.scope.names.lookup y.1 = _ ∨ X.env.scope.names.lookup y.1 = _
    rw [hS]
    exact L.free y hy hf
  obtain ⟨c, e⟩ := I.ok.has y.1 k
  rw [e]; rfl
theorem Inv.blks (I : Inv X pins σ H s) {S : Scope} (L : LcScopes S X.N sc xs) (hS : X.env.scope = S) (hf : ∀ b ∈ fp, FpOk X pins H b) (hb : ∀ b ∈ fp, b < s.heap.objs.size) {h1 : Heap} {tk : Nat} {m : Str → Option Value} (hn : h1.Ns s.heap.objs.size m)
    (hk : ∀ b o, s.heap.get? b = some o → h1.get? b = some o) : Inv (X.blks (blkNs X.N xs) sc s H fp) [] (σ ++ xs.map fun _ => none) H { s with heap := h1, toks := tk } := by
  have sub : ∀ y c, (clOf X.env.cells sc.names []).lookup y = some c → X.env.cells.lookup y = some c := clOf_sub sc.names [] fun _ _ z => by cases z
  have hasC : ∀ y, (y, NameKind.free) ∈ sc.names → ∃ c, (clOf X.env.cells sc.names []).lookup y = some c := fun y hy =>
    Option.isSome_iff_exists.mp (clOf_has (I.has_cells L hS (y, .free) hy rfl) sc.names [] hy)
  have kinds : ∀ y k, (relabel sc X.env).names.lookup y = some k → (k = .cell ∨ k = .free) → (y, NameKind.free) ∈ sc.names := fun y k e hk => by
    obtain ⟨k0, hm, q⟩ := relab_lookup e
    rcases q with rfl | ⟨_, rfl⟩
    · rcases hk with rfl | rfl
      · exact absurd rfl (L.noC _ hm)
      · exact hm
    · exact hm
  have stk := I.stkSub
  refine ⟨⟨I.ok.mod, L.kind, I.ok.glob, I.ok.blt, Nat.le_refl _, fun y z c e1 e2 => ?_, fun y hy => ?_, fun y c z e => ?_, I.ok.hd, I.ok.frames, .inl rfl, fun b hb' => ?_, I.bs, Nat.le_trans I.ok.bsz I.sz, fun b o e hb' => ?_, fun b hb' z => ?_, I.stack, I.stkFree⟩,
    rfl, I.bare, Un.kept hk, ⟨m, hn, fun i y v e1 e2 e3 => ?_⟩, fun y c e => ?_, I.hok.fresh (Nat.le_refl _), fun y c e => ?_, fun p hp => absurd (show p ∈ ([] : List (Addr × Obj)) from hp) (by simp), I.hok.kept hk, ?_⟩
  · exact I.ok.inj y z c (sub y c e1) (sub z c e2)
  · have hy' : (relabel sc X.env).names.lookup y = some .cell ∨ (relabel sc X.env).names.lookup y = some .free := hy
    rcases hy' with e | e
    · exact hasC y (kinds y _ e (.inl rfl))
    · exact hasC y (kinds y _ e (.inr rfl))
  · exact absurd (show false = true from z) (by decide)
  · obtain ⟨f0, f1, f2, f3, f4, f5⟩ := hf b hb'
    exact ⟨Nat.ne_of_lt (hb b hb'), fun y c e z => f4 y c (sub y c e) z⟩
  · obtain ⟨f0, f1, f2, f3, f4, f5⟩ := hf b hb'
    rcases f3 with z | z
    · exact I.ok.noex b o e z
    · exact absurd (Nat.lt_of_lt_of_le (Heap.lt_size (I.ok.bs b o e).1) z) (Nat.lt_irrefl _)
  · obtain ⟨f0, f1, f2, f3, f4, f5⟩ := hf b hb'
    rcases List.mem_cons.mp (stk b z) with q | q
    · exact f1 q
    · exact f2 q
  · have hl : σ.length = X.N.length := I.len
    have hi : i < X.N.length := by
      by_cases hi : i < σ.length
      · omega
      · rw [List.getElem?_append_right (by omega), List.getElem?_map] at e2
        cases q : xs[i - σ.length]? with
        | none => rw [q] at e2; cases e2
        | some n => rw [q] at e2; cases e2
    rw [List.getElem?_append_left (by omega)] at e2
    obtain ⟨y0, g1, g2⟩ := blkNs_at e1 hi
    have vis : ∃ k, (relabel sc X.env).names.lookup y = some k ∧ (k = .local ∨ k = .cell ∨ k = .free) := by
      rcases e3 with q | q | q
      · exact ⟨_, q, .inl rfl⟩
      · exact ⟨_, q, .inr (.inl rfl)⟩
      · exact ⟨_, q, .inr (.inr rfl)⟩
    obtain ⟨k, q, hk'⟩ := vis
    obtain ⟨k0, hm, q0⟩ := relab_lookup q
    rcases g2 with ⟨_, rfl⟩ | ⟨g2, rfl⟩
    · exact absurd rfl (L.ne _ hm)
    · have hkc : k = .cell ∨ k = .free := by
        rcases hk' with rfl | z
        · exfalso
          rcases q0 with rfl | ⟨z, _⟩
          · rcases L.only _ hm rfl with z | z
            · exact g2 z
            · exact L.dot y (List.mem_of_getElem? g1) z
          · cases z
        · exact z
      have hfr : (y, NameKind.free) ∈ sc.names := kinds y k q hkc
      have visX : X.env.scope.names.lookup y = some .cell ∨ X.env.scope.names.lookup y = some .free := by rw [hS]; exact L.free _ hfr rfl
      obtain ⟨m0, _, hl0⟩ := I.loc
      obtain ⟨u, r, lk⟩ := hl0 i y v g1 e2 (.inr visX)
      refine ⟨u, r, ?_⟩
      rcases lk with ⟨z, _⟩ | ⟨_, c, ec, hc⟩
      · exfalso
        have z' : X.env.scope.names.lookup y = some .local := z
        rcases visX with w' | w' <;> rw [z'] at w' <;> cases w'
      · obtain ⟨c', ec'⟩ := hasC y hfr
        have : c' = c := Option.some.inj ((sub y c' ec').symm.trans ec)
        subst this
        refine .inr ⟨?_, c', ec', ?_⟩
        · rcases hkc with rfl | rfl
          · exact .inl q
          · exact .inr q
        · obtain ⟨o, ho, hd⟩ := hc
          exact ⟨o, hk _ _ ho, hd⟩
  · obtain ⟨v, o, ho, hd⟩ := I.cell y c (sub y c e)
    exact ⟨v, o, hk _ _ ho, hd⟩
  · exact I.freeC y c (sub y c e)
  · rw [List.length_append, List.length_map, I.len]
    exact (blkNs_len X.N xs).symm
def PTs (X : Cx) (ifs : List Expr) (t : TT) : Prop :=
  ∀ (pins : List (Addr × Obj)) (s : Shared) (σ : St) (H : Hp) (Q : Bool → Hp → Prop), Inv X pins σ H s → t σ H Q →
    wpAny (model X.prog X.w) X.A (forIn ifs true fun c r => if r = true then do let ok ← isTrue c X.env (eval c X.env); pure (ForInStep.yield ok) else pure (ForInStep.yield r)) (TP X pins σ Q) X.xe s
def tYes : TT := fun _ H Q => Q true H
theorem pts_nil : PTs X [] tYes := fun _ _ _ H _ I h => wpAny_tests_nil ⟨H, I, h⟩
theorem pts_one {c : Expr} {t : TT} (h : PT X c t) : PTs X [c] t := fun pins s σ H Q I q => wpAny_tests_one (h pins s σ H Q I q)
theorem compLoopT {prog : Program} {w : World} {A : Around} {R : Result → Shared → Prop} {elt target iter : Expr} {ifs : List Expr} {scope : Scope} {pos : Pos} {it acc : Value} {env : Env} (I : Nat → Shared → Prop)
    (turn : ∀ n s, I n s → wpAny (model prog w) A (pyNext it) (fun r s₁ => match r with
      | none => R (.ok .next) s₁
      | some v => wpAny (model prog w) A (letOwnedTupleGo target it v) (fun _ s₁' => wpAny (model prog w) A (assign target env v) (fun _ s₂ =>
          wpAny (model prog w) A (forIn ifs true fun c r => if r = true then do let ok ← isTrue c env (eval c env); pure (ForInStep.yield ok) else pure (ForInStep.yield r)) (fun ok s₃ =>
            if ok = true then wpAny (model prog w) A (eval elt env) (fun x s₄ =>
              wpAny (model prog w) A (call (.builtin "list.append") [acc, x]) (fun _ s₅ => ∃ m, m < n ∧ I m s₅) (fun _ _ => False) s₄) (fun _ _ => False) s₃
            else ∃ m, m < n ∧ I m s₃) (fun _ _ => False) s₂) (fun _ _ => False) s₁') (fun _ _ => False) s₁) (fun _ _ => False) s)
    (n : Nat) (h : I n s) : codeAny (model prog w) A (.compLoop (.ListComp elt [⟨target, iter, ifs, 0⟩] scope pos) 0 it acc env) R s := by
  refine codeAny_loop rfl I (fun n s hI => ?_) n h
  show wpAny _ A ((compTurn (.ListComp elt [⟨target, iter, ifs, 0⟩] scope pos) 0 it acc env).onRaise (fun x => do noteFrame x env; theTreesLotGoes x)) _ _ s
  refine wpAny_noted ?_
  rw [compTurn_list]
  refine wpAny_bind (wpAny_standAt (wpAny_bind (wpAny_mono (turn n s hI) (fun r s₁ h₁ => ?_) fun _ _ z => z.elim)))
  cases r with
  | none => exact wpAny_pure h₁
  | some v =>
    refine wpAny_bind (wpAny_mono h₁ (fun _ s₁' h₁' => ?_) fun _ _ z => z.elim)
    refine wpAny_bind (wpAny_mono h₁' (fun _ s₂ h₂ => wpAny_bind (wpAny_mono h₂ (fun ok s₃ h₃ => ?_) fun _ _ z => z.elim)) fun _ _ z => z.elim)
    cases ok with
    | false => exact wpAny_pure ⟨rfl, h₃⟩
    | true =>
      exact wpAny_bind (wpAny_bind (wpAny_mono h₃ (fun x s₄ h₄ => wpAny_bind (wpAny_mono h₄ (fun _ s₅ h₅ => wpAny_pure (wpAny_pure ⟨rfl, h₅⟩)) fun _ _ z => z.elim)) fun _ _ z => z.elim))
def LcW (n : Nat) (J : It) (g : TG) (tt : TT) (te : TE) (σ : St) (H1 : Hp) (Q : VK) : Prop := ∀ D, H1 D = none → ∃ W : Nat → Nat → List V → Hp → Prop, (∃ m, W 0 m [] (upd H1 D (.lst []))) ∧
  ∀ i m ys H', W i m ys H' → H' D = some (.lst ys) ∧ ((J.stop i H' ∧ Q (.ref D) H') ∨ (J.go i H' ∧ ∀ z H2, J.yld i H' z H2 → ∀ os : St, os.length = n → g z (σ ++ os) H2 fun σ' H3 => (∃ os' : St, σ' = σ ++ os' ∧ os'.length = n) ∧ tt σ' H3 fun ok H4 =>
    if ok = true then te σ' H4 fun v H5 => H5 D = some (.lst ys) ∧ ys.length < sizeLine ∧ ∃ m', m' < m ∧ W (i + 1) m' (ys ++ [v]) (upd H5 D (.lst (ys ++ [v]))) else ∃ m', m' < m ∧ W (i + 1) m' ys H4))
def tLcs (n : Nat) (ti : TI) (g : TG) (tt : TT) (te : TE) : TE := fun σ H Q => ti σ H fun J H1 => LcW n J g tt te σ H1 Q
theorem lcs_core {elt iter target : Expr} {ifs : List Expr} {pos : Pos} {g : TG} {tt : TT} {te : TE} {S : Scope} {use : Option (Value → Sem Unit)} {QQ : Value → Shared → Prop} {Q : VK} {it : Addr} {tn : Nat → Heap → Prop} {J : It} (hc : X.calm = true) (L : LcScopes S X.N sc xs) (hS : X.env.scope = S)
    (hg : ∀ (s₀ : Shared) (H₀ : Hp) (fp : List Addr), PG (X.blks (blkNs X.N xs) sc s₀ H₀ fp) target g) (ht : ∀ (s₀ : Shared) (H₀ : Hp) (fp : List Addr), PTs (X.blks (blkNs X.N xs) sc s₀ H₀ fp) ifs tt)
    (he : ∀ (s₀ : Shared) (H₀ : Hp) (fp : List Addr), PE (X.blks (blkNs X.N xs) sc s₀ H₀ fp) elt te)
    (I : Inv X pins σ H s) (T : Turn X.prog X.w X.K target J fp it tn) (st : tn 0 s.heap) (hf : ∀ b ∈ fp, FpOk X pins H b) (h : LcW xs.length J g tt te σ H Q)
    (fin : ∀ (D C : Addr) (H' : Hp) (s' : Shared) (m : Str → Option Value), Inv X pins σ H' s' → Q (.ref D) H' → s'.heap.Ns C m → H' C = none → s.heap.objs.size ≤ C → (∀ p ∈ X.pn ++ pins, p.1 ≠ C) → C ≠ X.env.locals → (∀ y c, X.env.cells.lookup y = some c → c ≠ C) → compPost (model X.prog X.w) X.A X.xe use QQ (.ref D) C (.ok .next) s') :
    wpAny (model X.prog X.w) X.A (newList []) (fun acc s₃ => wpAny (model X.prog X.w) X.A (newFunctionEnv sc X.env.globals (clOf X.env.cells sc.names []) [] X.env.qual none .none (some X.env)) (fun cenv s₄ =>
      codeAny (model X.prog X.w) X.A (.compStart (.ListComp elt [⟨target, iter, ifs, 0⟩] sc pos) 0 (.ref it) acc { cenv with scope := relabel sc X.env }) (compPost (model X.prog X.w) X.A X.xe use QQ acc cenv.locals) s₄) X.xe s₃) X.xe s := by
  refine wpAny_newObj_type ?_
  have hD : H s.heap.objs.size = none := I.hok.fresh (Nat.le_refl _)
  obtain ⟨W, ⟨m0, w0⟩, turn⟩ := h s.heap.objs.size hD
  have I2 : Inv X pins σ (upd H s.heap.objs.size (.lst [])) { s with heap := s.heap.push { cls := .type "list", data := .seq ([] : List Value).toArray } } := I.lnew (t' := s.toks) .nil (Nat.zero_le _)
  have lt0 : ∀ b ∈ fp, b < s.heap.objs.size := fun b hb => by
    obtain ⟨o, e, _⟩ := T.obj 0 s.heap st b hb
    exact Heap.lt_size e
  have hf2 : ∀ b ∈ fp, FpOk X pins (upd H s.heap.objs.size (.lst [])) b := fun b hb => by
    obtain ⟨f0, f⟩ := hf b hb
    exact ⟨by rw [upd_ne (Nat.ne_of_lt (lt0 b hb))]; exact f0, f⟩
  have st2 : tn 0 (s.heap.push { cls := .type "list", data := .seq ([] : List Value).toArray }) := T.keep 0 _ _ st fun b _ o e => Heap.get?_push_of_some _ e
  generalize hs2 : ({ s with heap := s.heap.push { cls := .type "list", data := .seq ([] : List Value).toArray } } : Shared) = s2 at I2
  have eh : s2.heap = s.heap.push { cls := .type "list", data := .seq ([] : List Value).toArray } := by rw [← hs2]
  have lt2 : ∀ b ∈ fp, b < s2.heap.objs.size := fun b hb => by rw [eh, Heap.size_push]; exact Nat.lt_succ_of_lt (lt0 b hb)
  rw [← eh] at st2
  have le2 : s.heap.objs.size ≤ s2.heap.objs.size := by rw [eh, Heap.size_push]; exact Nat.le_succ _
  show wpAny _ _ _ _ _ s2
  refine newEnv_lc ?_
  rw [cellsFrom_none L.noC, pushCells_none L.noC]
  have hns₁ : (s2.heap.push { cls := .type "dict", data := .dict #[] }).Ns s2.heap.objs.size _ := Heap.Ns.new s2.heap (.type "dict")
  have keep : ∀ b o, s2.heap.get? b = some o → (s2.heap.push { cls := .type "dict", data := .dict #[] }).get? b = some o := fun b o e => Heap.get?_push_of_some _ e
  generalize s2.heap.push { cls := .type "dict", data := .dict #[] } = h₁ at hns₁ keep ⊢
  have J0 : Inv (X.blks (blkNs X.N xs) sc s2 (upd H s.heap.objs.size (.lst [])) fp) [] (σ ++ xs.map fun _ => none) (upd H s.heap.objs.size (.lst [])) { s2 with heap := h₁ } := I2.blks (tk := s2.toks) L hS hf2 lt2 hns₁ keep
  have st3 : tn 0 h₁ := T.keep 0 _ _ st2 fun b _ o e => keep b o e
  have stat : ∀ {H' : Hp}, (∀ b ∈ fp, H' b = none) → ∀ b ∈ fp, FpOk (X.blks (blkNs X.N xs) sc s2 (upd H s.heap.objs.size (.lst [])) fp) [] H' b := fun {H'} hn b hb => by
    have o1 := J0.ok.exf b hb
    exact ⟨hn b hb, o1.1, J0.ok.exfs b hb, .inl hb, o1.2, fun p hp => absurd (show p ∈ ([] : List (Addr × Obj)) from hp) (by simp)⟩
  have loop : codeAny (model X.prog X.w) X.A (.compLoop (.ListComp elt [⟨target, iter, ifs, 0⟩] sc pos) 0 (.ref it) (.ref s.heap.objs.size) (compEnvC sc (clOf X.env.cells sc.names []) s2.heap.objs.size X.env))
      (compPost (model X.prog X.w) X.A X.xe use QQ (.ref s.heap.objs.size) s2.heap.objs.size) { s2 with heap := h₁ } := by
    refine compLoopT (fun n s' => ∃ i ys H' os, os.length = xs.length ∧ Inv (X.blks (blkNs X.N xs) sc s2 (upd H s.heap.objs.size (.lst [])) fp) [] (σ ++ os) H' s' ∧ tn i s'.heap ∧ (∀ b ∈ fp, H' b = none) ∧ W i n ys H') ?_ m0 ⟨0, [], _, xs.map fun _ => none, by simp, J0, st3, fun b hb => (hf2 b hb).1, w0⟩
    rintro n s4 ⟨i, ys, H4, os, los, J4, st4, fr4, w4⟩
    obtain ⟨hD4, tt'⟩ := turn i n ys H4 w4
    rcases tt' with ⟨stop, q⟩ | ⟨go, step⟩
    · refine thn (T.done (X.blks (blkNs X.N xs) sc s2 (upd H s.heap.objs.size (.lst [])) fp) rfl rfl rfl hc i [] s4 _ H4 _ J4 (stat fr4) st4 stop) fun r s5 ⟨hr, J5⟩ => ?_
      subst hr
      have I5 : Inv X pins σ H4 s5 := I2.call' J5.os J5.base J5.hok J5.bare fun b hb => by
        obtain ⟨f0, f1, f2, f3, f4, f5⟩ := hf2 b hb
        exact ⟨f3, f1, f4, f5⟩
      obtain ⟨m5, n5, _⟩ := J5.loc
      exact fin _ _ H4 s5 m5 I5 q n5 J5.free le2 (fun p hp z => by
          have := Heap.lt_size (I2.pin p hp).1
          rw [z] at this
          exact Nat.lt_irrefl _ this) (Nat.ne_of_gt I2.lt) (fun y c e z => by
          obtain ⟨v, o, ho, _⟩ := I2.cell y c e
          have := Heap.lt_size ho
          rw [z] at this
          exact Nat.lt_irrefl _ this)
    · refine thn (T.item (X.blks (blkNs X.N xs) sc s2 (upd H s.heap.objs.size (.lst [])) fp) rfl rfl rfl hc i [] s4 _ H4 _ J4 (stat fr4) st4 go) fun r s5 ⟨u, hr, h5⟩ => ?_
      subst hr
      refine thn h5 fun _ s6 ⟨z, H6, J6, r6, y6, st6, fr6⟩ => ?_
      have J6' := J6.pinned (stat fr6) (T.obj _ _ st6)
      refine thn (hg s2 (upd H s.heap.objs.size (.lst [])) fp _ s6 _ H6 z u _ J6' r6 (step z H6 y6 os los)) fun _ s7 ⟨σ7, H7, J7, ⟨os', e7, l7⟩, t7⟩ => ?_
      subst e7
      refine thn (ht s2 (upd H s.heap.objs.size (.lst [])) fp _ s7 _ H7 _ J7 t7) fun ok s8 ⟨H8, J8, t8⟩ => ?_
      cases ok with
      | false =>
        rw [if_neg Bool.false_ne_true] at t8 ⊢
        obtain ⟨m', hm, w8⟩ := t8
        refine ⟨m', hm, i + 1, ys, _, os', l7, J8.unpinned, T.keep _ _ _ st6 fun b hb o e => (J8.pin (b, o) (List.mem_append_right _ (List.mem_append_right _ (mem_pinsAt hb e)))).1, fun b hb => ?_, w8⟩
        obtain ⟨o', e', _⟩ := T.obj _ _ st6 b hb
        exact (J8.pin (b, o') (List.mem_append_right _ (List.mem_append_right _ (mem_pinsAt hb e')))).2.1
      | true =>
        rw [if_pos rfl] at t8 ⊢
        refine thn (he s2 (upd H s.heap.objs.size (.lst [])) fp _ s8 _ H8 _ J8 t8) fun vv s9 ⟨v, H9, J9, r9, hD9, hz9, m', hm, w9⟩ => ?_
        refine thn (mt_append (X := X.blks (blkNs X.N xs) sc s2 (upd H s.heap.objs.size (.lst [])) fp) _ s9 _ H9 (.ref s.heap.objs.size) [v] (.ref s.heap.objs.size) [vv] (fun _ H' => H' = upd H9 s.heap.objs.size (.lst (ys ++ [v]))) J9 rfl (.cons r9 .nil) ⟨_, ys, v, rfl, rfl, hD9, hz9, rfl⟩) fun _ s10 ⟨_, H10, J10, _, e10⟩ => ?_
        subst e10
        refine ⟨m', hm, i + 1, ys ++ [v], _, os', l7, J10.unpinned, T.keep _ _ _ st6 fun b hb o e => (J10.pin (b, o) (List.mem_append_right _ (List.mem_append_right _ (mem_pinsAt hb e)))).1, fun b hb => ?_, w9⟩
        obtain ⟨o', e', _⟩ := T.obj _ _ st6 b hb
        exact (J10.pin (b, o') (List.mem_append_right _ (List.mem_append_right _ (mem_pinsAt hb e')))).2.1
  refine codeAny_compStart_list loop (T.self _ 0 _ _ _ st3 loop)
theorem pe_lcs {elt iter target : Expr} {ifs : List Expr} {pos : Pos} {ti : TI} {g : TG} {tt : TT} {te : TE} {S : Scope} (hc : X.calm = true) (L : LcScopes S X.N sc xs) (hS : X.env.scope = S) (hi : PI X target iter ti)
    (hg : ∀ (s₀ : Shared) (H₀ : Hp) (fp : List Addr), PG (X.blks (blkNs X.N xs) sc s₀ H₀ fp) target g) (ht : ∀ (s₀ : Shared) (H₀ : Hp) (fp : List Addr), PTs (X.blks (blkNs X.N xs) sc s₀ H₀ fp) ifs tt)
    (he : ∀ (s₀ : Shared) (H₀ : Hp) (fp : List Addr), PE (X.blks (blkNs X.N xs) sc s₀ H₀ fp) elt te) (hs : ∀ x, foldedSetIterable iter X.env x = pure x := by intro _; rfl) :
    PE X (.ListComp elt [⟨target, iter, ifs, 0⟩] sc pos) (tLcs xs.length ti g tt te) := by
  intro pins s σ H Q I h
  rw [eval_ListComp]
  refine wpAny_comprehension_free (use := none) rfl hs (closure_of (I.has_cells L hS)) L.kind L.names (thn (hi pins s σ H _ I h) fun xv s₁ h₁ => thn h₁ fun itv s₂ h₂ => ?_)
  obtain ⟨it, fp, tn, J, H2, rfl, I2, T, st2, f2, q2⟩ := h₂
  refine lcs_core hc L hS hg ht he I2 T st2 f2 q2 ?_
  intro D C H' s' m I' q hn hC hle hp hL hcl
  refine ⟨m, hn, fun h' hs' => ?_⟩
  have I3 : Inv X pins σ H' { s' with heap := h' } := I'.turned (t' := s'.toks) (fun b o hb e => (hs'.2 b hb).trans e) hC hL (.inr (Nat.le_trans I2.sz hle)) hcl hp
  exact ⟨.ref D, H', I3, rfl, q⟩
theorem ps_setLcs {elt iter target : Expr} {ifs : List Expr} {i : Nat} {y : Str} {py pos spos : Pos} {ti : TI} {g : TG} {tt : TT} {te : TE} {S : Scope} (hN : X.N.Nodup) (hi : X.N[i]? = some y) (hy : Loc X.env.scope y) (hc : X.calm = true) (L : LcScopes S X.N sc xs) (hS : X.env.scope = S) (hit : PI X target iter ti)
    (hg : ∀ (s₀ : Shared) (H₀ : Hp) (fp : List Addr), PG (X.blks (blkNs X.N xs) sc s₀ H₀ fp) target g) (ht : ∀ (s₀ : Shared) (H₀ : Hp) (fp : List Addr), PTs (X.blks (blkNs X.N xs) sc s₀ H₀ fp) ifs tt)
    (he : ∀ (s₀ : Shared) (H₀ : Hp) (fp : List Addr), PE (X.blks (blkNs X.N xs) sc s₀ H₀ fp) elt te)
    (hsw : swapsWith (.ListComp elt [⟨target, iter, ifs, 0⟩] sc pos) (some (.Name y py)) spos.line X.env = pure true := by rfl) (hs : ∀ x, foldedSetIterable iter X.env x = pure x := by intro _; rfl)
    (hf : X.fn y = true ∨ X.env.scope.names.lookup y = some .local := by first | exact .inl rfl | exact .inr rfl | assumption) :
    PS X (.Assign [.Name y py] (.ListComp elt [⟨target, iter, ifs, 0⟩] sc pos) spos) (tAsg (tLcs xs.length ti g tt te) (gName i)) := by
  intro pins s σ H D I h
  rw [exec_Assign_Name_used _ _ _ _ hsw]
  refine wpAny_bind (wpAny_standAt (wpAny_bind ?_))
  show wpAny _ _ (do let _ ← comprehension (.ListComp elt [⟨target, iter, ifs, 0⟩] sc pos) sc X.env _ (newList []) false (eval iter X.env) (some (assign (.Name y py) X.env))) _ _ s
  refine wpAny_bind (wpAny_mono (wpAny_comprehension_free (use := some (assign (.Name y py) X.env)) (Q := fun _ s' => SP X pins D .next s') rfl hs (closure_of (I.has_cells L hS)) L.kind L.names
    (thn (hit pins s σ H _ I h) fun xv s₁ h₁ => thn h₁ fun itv s₂ h₂ => ?_)) (fun _ s' hq => wpAny_pure (wpAny_pure hq)) fun _ _ e => e)
  obtain ⟨it, fp, tn, J, H2, rfl, I2, T, st2, f2, q2⟩ := h₂
  refine lcs_core (Q := fun v H' => D.nx (σ.set i (some v)) H') hc L hS hg ht he I2 T st2 f2 q2 ?_
  intro D' C H' s' m I' q hn hC hle hp hL hcl
  show wpAny _ _ (assign (.Name y py) X.env (.ref D')) _ _ s'
  refine wpAny_assign_Name (store_ok2 I' hN hi hy (v := .ref D') (u := .ref D') rfl (fun s'' I'' ⟨a, sb, ha⟩ => ?_) hf)
  have nCa : C ≠ a := by
    rcases ha with rfl | ha
    · exact hL
    · exact fun z => hcl y a ha z.symm
  refine ⟨m, hn.sameBut sb nCa, fun h' hs' => ?_⟩
  have I3 : Inv X pins (σ.set i (some (.ref D'))) H' { s'' with heap := h' } := I''.turned (t' := s''.toks) (fun b o hb e => (hs'.2 b hb).trans e) hC hL (.inr (Nat.le_trans I2.sz hle)) hcl hp
  exact ⟨_, H', I3, q⟩
def g2 (K : PySem.W.Frag) (n : Nat) : TG := gTup K 2 (gCons (gName n) (gCons (gName (n + 1)) gNil))
theorem pg_two {S : Scope} {x y : Str} {px py tpos : Pos} {k : Nat} (hc : X.calm = true) (L : LcScopes S X.N sc [x, y]) (s₀ : Shared) (H₀ : Hp) (fp : List Addr) : PG (X.blks (blkNs X.N [x, y]) sc s₀ H₀ fp) (.Tuple [.Name x px, .Name y py] k tpos) (g2 X.K X.N.length) := by
  refine pg_tup (X := X.blks (blkNs X.N [x, y]) sc s₀ H₀ fp) hc (pgs_cons (pg_name L.nd ?_ (.inl (lookup_relabel_local (L.loc x (by simp)))) (.inr (lookup_relabel_local (L.loc x (by simp))))) (pgs_cons (pg_name L.nd ?_ (.inl (lookup_relabel_local (L.loc y (by simp)))) (.inr (lookup_relabel_local (L.loc y (by simp))))) pgs_nil))
  · show (blkNs X.N [x, y])[X.N.length]? = some x
    unfold blkNs
    rw [List.getElem?_append_right (by simp)]
    simp
  · show (blkNs X.N [x, y])[X.N.length + 1]? = some y
    unfold blkNs
    rw [List.getElem?_append_right (by simp)]
    simp
theorem pg_one {S : Scope} {x : Str} {px : Pos} (L : LcScopes S X.N sc [x]) (s₀ : Shared) (H₀ : Hp) (fp : List Addr) : PG (X.blks (blkNs X.N [x]) sc s₀ H₀ fp) (.Name x px) (gName X.N.length) := by
  refine pg_name L.nd ?_ (.inl (lookup_relabel_local (L.loc x (by simp)))) (.inr (lookup_relabel_local (L.loc x (by simp))))
  show (blkNs X.N [x])[X.N.length]? = some x
  unfold blkNs
  rw [List.getElem?_append_right (by simp)]
  simp
end
end L2
namespace L2
open PySem PySem.Spec PyProof.Rows
theorem lcw_one {n : Nat} {J : It} {te : TE} {σ : St} {H1 : Hp} {Q : VK} (hn : σ.length = n) (h : ∀ D, H1 D = none → ∃ W : Nat → Nat → List V → Hp → Prop, (∃ m, W 0 m [] (upd H1 D (.lst []))) ∧
    ∀ i m ys H', W i m ys H' → H' D = some (.lst ys) ∧ ((J.stop i H' ∧ Q (.ref D) H') ∨ (J.go i H' ∧ ∀ z H2, J.yld i H' z H2 → te (σ ++ [some z]) H2 fun v H3 => H3 D = some (.lst ys) ∧ ys.length < sizeLine ∧ ∃ m', m' < m ∧ W (i + 1) m' (ys ++ [v]) (upd H3 D (.lst (ys ++ [v])))))) :
    LcW 1 J (gName n) tYes te σ H1 Q := by
  subst hn
  intro D hD
  obtain ⟨W, w0, st⟩ := h D hD
  refine ⟨W, w0, fun i m ys H' hw => ?_⟩
  obtain ⟨e, d⟩ := st i m ys H' hw
  refine ⟨e, d.imp id fun ⟨go, yl⟩ => ⟨go, fun z H2 hy os los => ?_⟩⟩
  match os, los with
  | [o], _ =>
    have es : (σ ++ [o]).set σ.length (some z) = σ ++ [some z] := by
      rw [List.set_append_right _ _ (Nat.le_refl _), Nat.sub_self]
      rfl
    show (∃ os' : St, (σ ++ [o]).set σ.length (some z) = σ ++ os' ∧ os'.length = 1) ∧ tYes ((σ ++ [o]).set σ.length (some z)) H2 _
    rw [es]
    exact ⟨⟨[some z], rfl, rfl⟩, iteT (B := ∃ m', m' < m ∧ W (i + 1) m' ys H2) (yl z H2 hy)⟩
section
variable {X : Cx} {sc : Scope} {x : Str}
theorem pe_lc1 {elt iter : Expr} {px pos : Pos} {ti : TI} {te : TE} {S : Scope} (hc : X.calm = true) (L : LcScopes S X.N sc [x]) (hS : X.env.scope = S) (hi : PI X (.Name x px) iter ti)
    (he : ∀ (s₀ : Shared) (H₀ : Hp) (fp : List Addr), PE (X.blks (blkNs X.N [x]) sc s₀ H₀ fp) elt te) (hs : ∀ x, foldedSetIterable iter X.env x = pure x := by intro _; rfl) :
    PE X (.ListComp elt [⟨.Name x px, iter, [], 0⟩] sc pos) (tLc ti te) := by
  intro pins s σ H Q I h
  rw [eval_ListComp]
  refine wpAny_comprehension_free (use := none) rfl hs (closure_of (I.has_cells L hS)) L.kind L.names (thn (hi pins s σ H _ I h) fun xv s₁ h₁ => thn h₁ fun itv s₂ h₂ => ?_)
  obtain ⟨it, fp, tn, J, H2, rfl, I2, T, st2, f2, q2⟩ := h₂
  refine lcs_core hc L hS (pg_one L) (fun _ _ _ => pts_nil) he I2 T st2 f2 (lcw_one I2.len q2) ?_
  intro D C H' s' m I' q hn hC hle hp hL hcl
  refine ⟨m, hn, fun h' hs' => ?_⟩
  have I3 : Inv X pins σ H' { s' with heap := h' } := I'.turned (t' := s'.toks) (fun b o hb e => (hs'.2 b hb).trans e) hC hL (.inr (Nat.le_trans I2.sz hle)) hcl hp
  exact ⟨.ref D, H', I3, rfl, q⟩
end
end L2
namespace L2
open PySem PySem.Spec PyProof.Rows
section
variable {X : Cx} {sc : Scope} {x : Str}
theorem ps_setLc1 {elt iter : Expr} {i : Nat} {y : Str} {px py pos spos : Pos} {ti : TI} {te : TE} {S : Scope} (hN : X.N.Nodup) (hi : X.N[i]? = some y) (hy : Loc X.env.scope y) (hc : X.calm = true) (L : LcScopes S X.N sc [x]) (hS : X.env.scope = S) (hit : PI X (.Name x px) iter ti)
    (he : ∀ (s₀ : Shared) (H₀ : Hp) (fp : List Addr), PE (X.blks (blkNs X.N [x]) sc s₀ H₀ fp) elt te)
    (hsw : swapsWith (.ListComp elt [⟨.Name x px, iter, [], 0⟩] sc pos) (some (.Name y py)) spos.line X.env = pure true := by rfl) (hs : ∀ x, foldedSetIterable iter X.env x = pure x := by intro _; rfl)
    (hf : X.fn y = true ∨ X.env.scope.names.lookup y = some .local := by first | exact .inl rfl | exact .inr rfl | assumption) :
    PS X (.Assign [.Name y py] (.ListComp elt [⟨.Name x px, iter, [], 0⟩] sc pos) spos) (tAsg (tLc ti te) (gName i)) := by
  intro pins s σ H D I h
  rw [exec_Assign_Name_used _ _ _ _ hsw]
  refine wpAny_bind (wpAny_standAt (wpAny_bind ?_))
  show wpAny _ _ (do let _ ← comprehension (.ListComp elt [⟨.Name x px, iter, [], 0⟩] sc pos) sc X.env _ (newList []) false (eval iter X.env) (some (assign (.Name y py) X.env))) _ _ s
  refine wpAny_bind (wpAny_mono (wpAny_comprehension_free (use := some (assign (.Name y py) X.env)) (Q := fun _ s' => SP X pins D .next s') rfl hs (closure_of (I.has_cells L hS)) L.kind L.names
    (thn (hit pins s σ H _ I h) fun xv s₁ h₁ => thn h₁ fun itv s₂ h₂ => ?_)) (fun _ s' hq => wpAny_pure (wpAny_pure hq)) fun _ _ e => e)
  obtain ⟨it, fp, tn, J, H2, rfl, I2, T, st2, f2, q2⟩ := h₂
  refine lcs_core (Q := fun v H' => D.nx (σ.set i (some v)) H') hc L hS (pg_one L) (fun _ _ _ => pts_nil) he I2 T st2 f2 (lcw_one (Q := fun v H' => D.nx (σ.set i (some v)) H') I2.len q2) ?_
  intro D' C H' s' m I' q hn hC hle hp hL hcl
  show wpAny _ _ (assign (.Name y py) X.env (.ref D')) _ _ s'
  refine wpAny_assign_Name (store_ok2 I' hN hi hy (v := .ref D') (u := .ref D') rfl (fun s'' I'' ⟨a, sb, ha⟩ => ?_) hf)
  have nCa : C ≠ a := by
    rcases ha with rfl | ha
    · exact hL
    · exact fun z => hcl y a ha z.symm
  refine ⟨m, hn.sameBut sb nCa, fun h' hs' => ?_⟩
  have I3 : Inv X pins (σ.set i (some (.ref D'))) H' { s'' with heap := h' } := I''.turned (t' := s''.toks) (fun b o hb e => (hs'.2 b hb).trans e) hC hL (.inr (Nat.le_trans I2.sz hle)) hcl hp
  exact ⟨_, H', I3, q⟩
end
end L2
namespace M11
abbrev G (a b : Int) : Int := (Int.gcd a b : Nat)
theorem gcd_step (a b : Int) : Int.gcd b (a.fmod b) = Int.gcd a b := by
  rw [Int.fmod_def, Int.gcd_sub_mul_left_right, Int.gcd_comm]
theorem fmod_small (a b : Int) (h : b ≠ 0) : (a.fmod b).natAbs < b.natAbs := by
  rcases Int.lt_or_lt_of_ne h with hb | hb
  · have e := Int.neg_fmod_neg a b
    have h1 := Int.fmod_nonneg_of_pos (-a) (b := -b) (by omega)
    have h2 := Int.fmod_lt_of_pos (-a) (b := -b) (by omega)
    omega
  · have h1 := Int.fmod_nonneg_of_pos a hb
    have h2 := Int.fmod_lt_of_pos a hb
    omega
theorem gcd_end (a : Int) : (if a < 0 then -a else a) = G a 0 := by
  show _ = ((Int.gcd a 0 : Nat) : Int)
  rw [Int.gcd_zero_right]
  split <;> omega
theorem gcd_stepN (l r : Int) : Int.gcd (r % l) l = Int.gcd l r := by
  have e : r % l = r - l * (r / l) := Int.emod_def r l
  rw [Int.gcd_comm, e, Int.gcd_sub_mul_left_right]
theorem gcd_abs (a b : Int) : Int.gcd (if a < 0 then -a else a) (if b < 0 then -b else b) = Int.gcd a b := by
  split <;> split <;> simp only [Int.gcd_neg, Int.neg_gcd]
def sgn (t b : Int) : Int := if b < 0 then -(G t b) else G t b
def low (t b : Int) : Int × Int := (t.fdiv (sgn t b), b.fdiv (sgn t b))
theorem sgn_ne {t b : Int} (h : b ≠ 0) : sgn t b ≠ 0 := by
  have := Int.gcd_pos_of_ne_zero_right t h
  unfold sgn G
  split <;> omega
theorem G_le {t b : Int} (h : b ≠ 0) : G t b ≤ (b.natAbs : Int) := by
  have h1 : Int.gcd t b ∣ b.natAbs := by
    have := Int.natAbs_dvd_natAbs.mpr (Int.gcd_dvd_right t b)
    simpa using this
  have h2 : 0 < b.natAbs := by omega
  exact Int.ofNat_le.mpr (Nat.le_of_dvd h2 h1)
theorem sgn_le {t b : Int} (h : b ≠ 0) : (sgn t b).natAbs ≤ b.natAbs := by
  have h1 := G_le (t := t) h
  have h2 : 0 ≤ G t b := Int.natCast_nonneg _
  unfold sgn
  generalize G t b = g at h1 h2 ⊢
  split <;> omega
theorem sgn_natAbs (t b : Int) : (sgn t b).natAbs = Int.gcd t b := by
  unfold sgn G
  split <;> omega
theorem sgn_dvd_l (t b : Int) : sgn t b ∣ t := by
  unfold sgn
  split
  · exact Int.neg_dvd.mpr (Int.gcd_dvd_left t b)
  · exact Int.gcd_dvd_left t b
theorem sgn_dvd_r (t b : Int) : sgn t b ∣ b := by
  unfold sgn
  split
  · exact Int.neg_dvd.mpr (Int.gcd_dvd_right t b)
  · exact Int.gcd_dvd_right t b
theorem low_spec {t b : Int} (h : b ≠ 0) : ∃ t' b', t = sgn t b * t' ∧ b = sgn t b * b' ∧ low t b = (t', b') ∧ 0 < b' ∧ Int.gcd t' b' = 1 := by
  have hn := sgn_ne (t := t) h
  obtain ⟨t', e1⟩ := sgn_dvd_l t b
  obtain ⟨b', e2⟩ := sgn_dvd_r t b
  refine ⟨t', b', e1, e2, ?_, ?_, ?_⟩
  · have f1 : t.fdiv (sgn t b) = t' := (congrArg (fun z => Int.fdiv z (sgn t b)) e1).trans (Int.mul_fdiv_cancel_left t' hn)
    have f2 : b.fdiv (sgn t b) = b' := (congrArg (fun z => Int.fdiv z (sgn t b)) e2).trans (Int.mul_fdiv_cancel_left b' hn)
    unfold low
    rw [f1, f2]
  · by_cases hb : b < 0
    · have hs : sgn t b < 0 := by
        have := Int.gcd_pos_of_ne_zero_right t h
        unfold sgn G
        rw [if_pos hb]
        omega
      by_cases hp : 0 < b'
      · exact hp
      · have := Int.mul_nonneg_of_nonpos_of_nonpos (a := sgn t b) (b := b') (by omega) (by omega)
        omega
    · have hs : 0 < sgn t b := by
        have := Int.gcd_pos_of_ne_zero_right t h
        unfold sgn G
        rw [if_neg hb]
        omega
      by_cases hp : 0 < b'
      · exact hp
      · have := Int.mul_nonpos_of_nonneg_of_nonpos (a := sgn t b) (b := b') (by omega) (by omega)
        omega
  · have g1 : Int.gcd (sgn t b * t') (sgn t b * b') = (sgn t b).natAbs * Int.gcd t' b' := Int.gcd_mul_left _ _ _
    rw [← e1, ← e2, sgn_natAbs] at g1
    have g2 := Int.gcd_pos_of_ne_zero_right t h
    have g3 : Int.gcd t b * Int.gcd t' b' = Int.gcd t b * 1 := by omega
    exact Nat.eq_of_mul_eq_mul_left g2 g3
theorem low_cross {t b : Int} (h : b ≠ 0) : (low t b).1 * b = t * (low t b).2 := by
  obtain ⟨t', b', e1, e2, e3, _⟩ := low_spec (t := t) h
  rw [e3]
  generalize sgn t b = d at e1 e2
  subst e1 e2
  show t' * (d * b') = d * t' * b'
  rw [← Int.mul_assoc, Int.mul_comm t' d]
theorem low_pos {t b : Int} (h : b ≠ 0) : 0 < (low t b).2 := by
  obtain ⟨t', b', _, _, e3, h', _⟩ := low_spec (t := t) h
  rw [e3]; exact h'
theorem low_cop {t b : Int} (h : b ≠ 0) : Int.gcd (low t b).1 (low t b).2 = 1 := by
  obtain ⟨t', b', _, _, e3, _, h'⟩ := low_spec (t := t) h
  rw [e3]; exact h'
theorem natAbs_le_of_mul {d x : Int} (h : d ≠ 0) : x.natAbs ≤ (d * x).natAbs := by
  rw [Int.natAbs_mul]
  exact Nat.le_mul_of_pos_left _ (by omega)
theorem low_le {t b : Int} (h : b ≠ 0) : (low t b).1.natAbs ≤ t.natAbs ∧ (low t b).2.natAbs ≤ b.natAbs := by
  obtain ⟨t', b', e1, e2, e3, _⟩ := low_spec (t := t) h
  have hn := sgn_ne (t := t) h
  rw [e3]
  have h1 := natAbs_le_of_mul (x := t') hn
  have h2 := natAbs_le_of_mul (x := b') hn
  rw [← e1] at h1
  rw [← e2] at h2
  exact ⟨h1, h2⟩
end M11
namespace M11
theorem cop_dvd {x y z : Int} (h : Int.gcd x y = 1) (d : y ∣ x * z) : y ∣ z := by
  have d' : y.natAbs ∣ x.natAbs * z.natAbs := by
    rw [← Int.natAbs_mul]
    exact Int.natAbs_dvd_natAbs.mpr d
  have c : Nat.Coprime y.natAbs x.natAbs := by
    show Nat.gcd y.natAbs x.natAbs = 1
    rw [Nat.gcd_comm]
    exact h
  exact Int.natAbs_dvd_natAbs.mp (Nat.Coprime.dvd_of_dvd_mul_left c d')
theorem low_uniq {t b x y : Int} (hb : b ≠ 0) (hy : 0 < y) (hg : Int.gcd x y = 1) (hc : x * b = t * y) : low t b = (x, y) := by
  have c1 := low_cross (t := t) hb
  have p1 := low_pos (t := t) hb
  have g1 := low_cop (t := t) hb
  generalize low t b = l at c1 p1 g1
  obtain ⟨x', y'⟩ := l
  have c1' : x' * b = t * y' := c1
  have p1' : 0 < y' := p1
  have g1' : Int.gcd x' y' = 1 := g1
  have e : x * y' = x' * y := by
    have : (x * y') * b = (x' * y) * b := by grind
    exact Int.eq_of_mul_eq_mul_right hb this
  have d1 : y ∣ y' := cop_dvd hg ⟨x', by rw [e, Int.mul_comm]⟩
  have d2 : y' ∣ y := cop_dvd g1' ⟨x, by rw [← e, Int.mul_comm]⟩
  have ey : y' = y := Int.dvd_antisymm (by omega) (by omega) d2 d1
  subst ey
  have ex : x' = x := by
    have : x * y' = x' * y' := e
    exact (Int.eq_of_mul_eq_mul_right (by omega) this).symm
  rw [ex]
theorem low_eq {t b t' b' : Int} (hb : b ≠ 0) (hb' : b' ≠ 0) (h : t * b' = t' * b) : low t b = low t' b' := by
  have c1 := low_cross (t := t') hb'
  have p1 := low_pos (t := t') hb'
  have g1 := low_cop (t := t') hb'
  generalize low t' b' = l at c1 p1 g1
  obtain ⟨x, y⟩ := l
  refine low_uniq hb p1 g1 ?_
  have c1' : x * b' = t' * y := c1
  have : (x * b) * b' = (t * y) * b' := by grind
  exact Int.eq_of_mul_eq_mul_right hb' this
theorem low_self {x y : Int} (hy : 0 < y) (hg : Int.gcd x y = 1) : low x y = (x, y) := low_uniq (by omega) hy hg rfl
def foldG (b : Int) (ts : List Int) : Int := ts.foldl (fun d t => G d t) b
theorem G_pos {a b : Int} (h : 0 < a) : 0 < G a b := Int.ofNat_lt.mpr (Int.gcd_pos_of_ne_zero_left b (by omega))
theorem foldG_spec : ∀ (ts : List Int) (b : Int), 0 < b → 0 < foldG b ts ∧ foldG b ts ∣ b ∧ ∀ t ∈ ts, foldG b ts ∣ t
  | [], b, h => ⟨h, Int.dvd_refl _, fun t ht => by cases ht⟩
  | t :: ts, b, h => by
    have hp := G_pos (b := t) h
    obtain ⟨h1, h2, h3⟩ := foldG_spec ts (G b t) hp
    have e : foldG b (t :: ts) = foldG (G b t) ts := rfl
    rw [e]
    refine ⟨h1, Int.dvd_trans h2 (Int.gcd_dvd_left b t), fun u hu => ?_⟩
    rcases List.mem_cons.mp hu with rfl | hu
    · exact Int.dvd_trans h2 (Int.gcd_dvd_right b u)
    · exact h3 u hu
theorem foldG_one : ∀ ts : List Int, foldG 1 ts = 1
  | [] => rfl
  | t :: ts => by
    show foldG (G 1 t) ts = 1
    have : G 1 t = 1 := by unfold G; rw [Int.one_gcd]; rfl
    rw [this]
    exact foldG_one ts
def lowerR (ts : List Int) (b : Int) : List Int × Int := (ts.map fun t => t.fdiv (foldG b ts), b.fdiv (foldG b ts))
theorem fdiv_of_dvd {d t : Int} (hd : 0 < d) (h : d ∣ t) : ∃ q, t = d * q ∧ t.fdiv d = q := by
  obtain ⟨q, e⟩ := h
  exact ⟨q, e, by rw [e]; exact Int.mul_fdiv_cancel_left q (by omega)⟩
theorem lowerR_one {ts : List Int} {b : Int} (h : foldG b ts = 1) : lowerR ts b = (ts, b) := by
  unfold lowerR
  rw [h]
  simp only [Int.fdiv_one, List.map_id']
theorem lowerR_pos {ts : List Int} {b : Int} (h : 0 < b) : 0 < (lowerR ts b).2 ∧ (lowerR ts b).2 ≤ b := by
  obtain ⟨h1, h2, h3⟩ := foldG_spec ts b h
  obtain ⟨q, e1, e2⟩ := fdiv_of_dvd h1 h2
  show 0 < b.fdiv (foldG b ts) ∧ b.fdiv (foldG b ts) ≤ b
  rw [e2]
  generalize foldG b ts = d at *
  have hq : 0 < q := by
    by_cases z : 0 < q
    · exact z
    · have := Int.mul_nonpos_of_nonneg_of_nonpos (a := d) (b := q) (by omega) (by omega)
      omega
  refine ⟨hq, ?_⟩
  rw [e1]
  have := Int.mul_le_mul_of_nonneg_right (a := 1) (b := d) (c := q) (by omega) (by omega)
  omega
theorem lowerR_le {ts : List Int} {b : Int} (h : 0 < b) : ∀ x ∈ (lowerR ts b).1, ∃ t ∈ ts, x.natAbs ≤ t.natAbs := by
  obtain ⟨h1, h2, h3⟩ := foldG_spec ts b h
  intro x hx
  obtain ⟨t, ht, rfl⟩ := List.mem_map.mp hx
  obtain ⟨r, e3, e4⟩ := fdiv_of_dvd h1 (h3 t ht)
  refine ⟨t, ht, ?_⟩
  rw [e4]
  have := natAbs_le_of_mul (d := foldG b ts) (x := r) (by omega)
  rw [← e3] at this
  exact this
def Bn (n : Nat) (x : Int) : Prop := x.natAbs < 2 ^ n
theorem Bn.mono {n m : Nat} {x : Int} (h : Bn n x) (hm : n ≤ m) : Bn m x := Nat.lt_of_lt_of_le h (Nat.pow_le_pow_right (by decide) hm)
theorem Bn.mul {n m : Nat} {x y : Int} (h : Bn n x) (h' : Bn m y) : Bn (n + m) (x * y) := by
  unfold Bn at *
  rw [Int.natAbs_mul, Nat.pow_add]
  exact Nat.mul_lt_mul'' h h'
theorem Bn.add {n : Nat} {x y : Int} (h : Bn n x) (h' : Bn n y) : Bn (n + 1) (x + y) := by
  unfold Bn at *
  have := Int.natAbs_add_le x y
  rw [Nat.pow_succ]
  omega
theorem Bn.le {n : Nat} {x y : Int} (h : Bn n x) (h' : y.natAbs ≤ x.natAbs) : Bn n y := Nat.lt_of_le_of_lt h' h
theorem bn_sum {n : Nat} : ∀ (k : Nat) (l : List Int), l.length ≤ 2 ^ k → (∀ x ∈ l, Bn n x) → Bn (n + k + 1) l.sum := by
  intro k l hl h
  have key : ∀ l : List Int, (∀ x ∈ l, Bn n x) → l.sum.natAbs ≤ l.length * 2 ^ n := by
    intro l
    induction l with
    | nil => intro _; simp
    | cons a l ih =>
      intro h
      have h1 := ih fun x hx => h x (List.mem_cons_of_mem _ hx)
      have h2 : a.natAbs < 2 ^ n := h a List.mem_cons_self
      rw [List.sum_cons, List.length_cons, Nat.succ_mul]
      have := Int.natAbs_add_le a l.sum
      omega
  have h1 := key l h
  have h2 : l.length * 2 ^ n ≤ 2 ^ k * 2 ^ n := Nat.mul_le_mul_right _ hl
  have h3 : 2 ^ k * 2 ^ n = 2 ^ (n + k) := by rw [← Nat.pow_add, Nat.add_comm]
  have h4 : 0 < 2 ^ (n + k) := Nat.pow_pos (by decide)
  show l.sum.natAbs < 2 ^ (n + k + 1)
  rw [Nat.pow_succ]
  omega
end M11
namespace M11
theorem G_eq {t b s : Int} (hb : 0 < b) (hs : 0 < s) (hsb : s ∣ b) (hg : G t b ∣ s) : G t s = G t b := by
  have p1 : 0 < G t b := Int.ofNat_lt.mpr (Int.gcd_pos_of_ne_zero_right t (by omega))
  have p2 : 0 < G t s := Int.ofNat_lt.mpr (Int.gcd_pos_of_ne_zero_right t (by omega))
  have d1 : G t b ∣ G t s := Int.dvd_coe_gcd (Int.gcd_dvd_left t b) hg
  have d2 : G t s ∣ G t b := Int.dvd_coe_gcd (Int.gcd_dvd_left t s) (Int.dvd_trans (Int.gcd_dvd_right t s) hsb)
  have l1 := Int.le_of_dvd p2 d1
  have l2 := Int.le_of_dvd p1 d2
  omega
theorem low_shared {t b s : Int} (hb : 0 < b) (hs : 0 < s) (hsb : s ∣ b) (hg : G t b ∣ s) : (t.fdiv (G t s), b.fdiv (G t s)) = low t b := by
  rw [G_eq hb hs hsb hg]
  unfold low sgn
  rw [if_neg (by omega)]
theorem low_zero {b : Int} (hb : 0 < b) : ((0 : Int).fdiv b, b.fdiv b) = low 0 b := by
  have e : G 0 b = b := by
    show ((Int.gcd 0 b : Nat) : Int) = b
    rw [Int.gcd_zero_left]
    omega
  unfold low sgn
  rw [if_neg (by omega), e]
def AnyOk (b : Int) (ts : List Int) (p : Int) : Prop := ∀ t ∈ ts, t ≠ 0 → G t b ∣ p
theorem AnyOk.nil (b p : Int) : AnyOk b [] p := fun t h => by cases h
theorem AnyOk.zero {b p : Int} {ts : List Int} (h : AnyOk b ts p) : AnyOk b (ts ++ [0]) p := fun t ht h0 => by
  rcases List.mem_append.mp ht with ht | ht
  · exact h t ht h0
  · exact absurd (List.mem_singleton.mp ht) h0
theorem dvd_fmod {d x b : Int} (h1 : d ∣ x) (h2 : d ∣ b) : d ∣ x.fmod b := by
  rw [Int.fmod_def]
  exact Int.dvd_sub h1 (Int.dvd_trans h2 (Int.dvd_mul_right b _))
theorem AnyOk.step {b p t : Int} {ts : List Int} (h : AnyOk b ts p) : AnyOk b (ts ++ [t]) ((p * t).fmod b) := fun u hu h0 => by
  refine dvd_fmod ?_ (Int.gcd_dvd_right u b)
  rcases List.mem_append.mp hu with hu | hu
  · exact Int.dvd_trans (h u hu h0) (Int.dvd_mul_right p t)
  · rw [← List.mem_singleton.mp hu]
    exact Int.dvd_trans (Int.gcd_dvd_left u b) (Int.dvd_mul_left p u)
theorem AnyOk.shared {b p t : Int} {ts : List Int} (h : AnyOk b ts p) (ht : t ∈ ts) (h0 : t ≠ 0) : G t b ∣ G b p := Int.dvd_coe_gcd (Int.gcd_dvd_right t b) (h t ht h0)
def manyR (a c : Int) (ts : List Int) (b : Int) : List Int × Int := (ts.map fun t => a.fdiv (G a b) * t.fdiv (foldG c ts), c.fdiv (foldG c ts) * b.fdiv (G a b))
theorem manyR_spec {a c b : Int} {ts : List Int} (hc : 0 < c) (hb : 0 < b) : 0 < (manyR a c ts b).2 ∧ (manyR a c ts b).2 ≤ c * b ∧ (manyR a c ts b).1.map (fun t => low t (manyR a c ts b).2) = ts.map (fun t => low (a * t) (c * b)) ∧ ∀ x ∈ (manyR a c ts b).1, ∃ t ∈ ts, x.natAbs ≤ (a * t).natAbs := by
  obtain ⟨h1, h2, h3⟩ := foldG_spec ts c hc
  have p1 : 0 < G a b := Int.ofNat_lt.mpr (Int.gcd_pos_of_ne_zero_right a (by omega))
  obtain ⟨a', ea, fa⟩ := fdiv_of_dvd p1 (Int.gcd_dvd_left a b)
  obtain ⟨b', eb, fb⟩ := fdiv_of_dvd p1 (Int.gcd_dvd_right a b)
  obtain ⟨c', ec, fc⟩ := fdiv_of_dvd h1 h2
  unfold manyR
  dsimp only
  rw [fa, fb, fc]
  generalize foldG c ts = g at *
  generalize G a b = d at *
  have pb : 0 < b' := by
    by_cases z : 0 < b'
    · exact z
    · have := Int.mul_nonpos_of_nonneg_of_nonpos (a := d) (b := b') (by omega) (by omega)
      omega
  have pc : 0 < c' := by
    by_cases z : 0 < c'
    · exact z
    · have := Int.mul_nonpos_of_nonneg_of_nonpos (a := g) (b := c') (by omega) (by omega)
      omega
  refine ⟨Int.mul_pos pc pb, ?_, ?_, fun x hx => ?_⟩
  · have l1 : c' ≤ c := by
      have := Int.mul_le_mul_of_nonneg_right (a := 1) (b := g) (c := c') (by omega) (by omega)
      omega
    have l2 : b' ≤ b := by
      have := Int.mul_le_mul_of_nonneg_right (a := 1) (b := d) (c := b') (by omega) (by omega)
      omega
    exact Int.mul_le_mul l1 l2 (by omega) (by omega)
  · rw [List.map_map]
    refine List.map_congr_left fun t ht => ?_
    obtain ⟨t', et, ft⟩ := fdiv_of_dvd h1 (h3 t ht)
    show low (a' * t.fdiv g) (c' * b') = low (a * t) (c * b)
    rw [ft]
    have z1 := Int.mul_pos pc pb
    have z2 := Int.mul_pos hc hb
    refine low_eq (by omega) (by omega) ?_
    clear fa fb fc ft h2 h3
    rw [ea, eb, ec, et]
    grind
  · obtain ⟨t, ht, rfl⟩ := List.mem_map.mp hx
    obtain ⟨t', et, ft⟩ := fdiv_of_dvd h1 (h3 t ht)
    refine ⟨t, ht, ?_⟩
    rw [ft]
    have e : a * t = (d * g) * (a' * t') := by
      clear fa fb fc ft h2 h3 hx
      rw [ea, et]
      grind
    rw [e]
    exact natAbs_le_of_mul (by have := Int.mul_pos p1 h1; omega)
theorem manyR_len (a c : Int) (ts : List Int) (b : Int) : (manyR a c ts b).1.length = ts.length := by unfold manyR; simp
end M11
namespace L2
open PySem PySem.Spec PyProof.Rows
section
variable {X : Cx}
end
end L2
namespace L2
open PySem PySem.Spec PyProof.Rows
def Ite (K : PySem.W.Frag) (a : Addr) : It :=
  ⟨fun i H => ∃ xs x, SqL K H a xs ∧ xs[i]? = some x,
   fun i H z H' => ∃ t x, z = .ref t ∧ H t = none ∧ H' = upd H t (.tup [.int (i : Int), x]) ∧ ∀ xs, SqL K H a xs → xs[i]? = some x,
   fun i H => ∃ xs, SqL K H a xs ∧ xs.length ≤ i⟩
def ESt (e it a : Addr) (i : Nat) (h : Heap) : Prop := (∃ old, IsEnum h e it (i : Int) old) ∧ h.IsListIter it a i
theorem turn_enum {P : Program} {w : World} {K : PySem.W.Frag} {elts : List Expr} {ek : Nat} {epos : Pos} {e it a : Addr} (ne : e ≠ it) : Turn P w K (.Tuple elts ek epos) (Ite K a) [e, it] e (ESt e it a) where
  mem := by simp
  obj := fun i h st c hc => by
    obtain ⟨⟨old, he⟩, ⟨o1, e1, c1, d1⟩⟩ := st
    have hc' : c = e ∨ c = it := by simpa using hc
    rcases hc' with rfl | rfl
    · exact ⟨_, he, fun v e => by cases e⟩
    · exact ⟨_, e1, fun v e => by rw [d1] at e; cases e⟩
  keep := fun i h h' st k => by
    obtain ⟨⟨old, he⟩, l1⟩ := st
    exact ⟨⟨old, k e (by simp) _ he⟩, l1.at fun o q => k it (by simp) o q⟩
  item := by
    intro X hP hw hK hc i pins s σ H E I hf st hg
    subst hP hw hK
    obtain ⟨xs, x, hx, ex⟩ := hg
    obtain ⟨ia, ra, pa, za⟩ := I.list hx
    obtain ⟨u, hu, ru⟩ := ra.get ex
    obtain ⟨⟨old, he⟩, l1⟩ := st
    refine wpAny_pyNext_enum_item he l1 pa.isList (x := u) (by simpa using hu) ne fun h' a1 a2 a3 a4 a5 => ?_
    refine ⟨_, rfl, wpAny_letOwnedTupleGo_enum a1 fun h2 b1 b2 => ?_⟩
    have hT : H s.heap.objs.size = none := I.hok.fresh (Nat.le_refl _)
    have ltz : ∀ c o, s.heap.get? c = some o → s.heap.objs.size ≠ c := fun c o q => Nat.ne_of_gt (Heap.lt_size q)
    have Te : s.heap.objs.size ≠ e := ltz _ _ he
    have aT : h2.get? s.heap.objs.size = some { cls := .type "tuple", data := .seq #[.int i s.toks, u] } := b2.extBut _ _ Te a3
    have k2 : ∀ c o, c ≠ e → c ≠ it → s.heap.get? c = some o → h2.get? c = some o := fun c o n1 n2 q => b2.extBut _ _ n1 (a5 c o n1 n2 q)
    have I1 : Inv X pins σ (upd H s.heap.objs.size (.tup [.int (i : Int), x])) { s with heap := s.heap.push { cls := .type "tuple", data := .seq #[.int i s.toks, u] }, toks := s.toks + 1 } := by
      refine I.laid (t' := s.toks + 1) (fun c o q => Heap.get?_push_of_some _ q) (Nat.le_refl _) ?_
      exact ⟨(by show 2 ≤ sizeLine; decide), [.int i s.toks, u], .cons ⟨_, rfl⟩ (.cons ru .nil), IsTup.new s.heap _⟩
    have hf1 : ∀ c ∈ [e, it], FpOk X pins (upd H s.heap.objs.size (.tup [.int (i : Int), x])) c := fun c hc' => by
      obtain ⟨f0, f⟩ := hf c hc'
      refine ⟨?_, f⟩
      have : ∃ o, s.heap.get? c = some o := by
        have hc'' : c = e ∨ c = it := by simpa using hc'
        obtain ⟨o1, e1, _⟩ := l1
        rcases hc'' with rfl | rfl
        · exact ⟨_, he⟩
        · exact ⟨_, e1⟩
      obtain ⟨o, q⟩ := this
      rw [upd_ne (ltz c o q).symm]
      exact f0
    have I2 : Inv X pins σ (upd H s.heap.objs.size (.tup [.int (i : Int), x])) { s with heap := h2, toks := s.toks + 1 } := by
      refine Inv.turnedL (s := { s with heap := s.heap.push { cls := .type "tuple", data := .seq #[.int i s.toks, u] }, toks := s.toks + 1 }) (h' := h2) (t' := s.toks + 1) (its := [e, it]) I1 (fun c o hc' q => ?_) hf1
      have hc'' : ¬ (c = e ∨ c = it) := by simpa using hc'
      by_cases hcs : c = s.heap.objs.size
      · subst hcs
        have e' : (s.heap.push { cls := .type "tuple", data := .seq #[.int i s.toks, u] }).get? s.heap.objs.size = some o := q
        rw [Heap.get?_push_size _ rfl] at e'
        cases e'
        exact aT
      · refine k2 c o (fun z' => hc'' (.inl z')) (fun z' => hc'' (.inr z')) ?_
        rw [← q]
        exact (Heap.get?_push_ne _ _ _ hcs).symm
    refine ⟨.ref s.heap.objs.size, _, I2, rfl, ⟨_, x, rfl, hT, rfl, fun ws hw => by rw [I.list_inj hw hx]; exact ex⟩, ?_, fun c hc' => (hf1 c hc').1⟩
    exact ⟨⟨u, b1⟩, a2.extBut b2.extBut ne.symm⟩
  done := by
    intro X hP hw hK hc i pins s σ H E I hf st hg
    subst hP hw hK
    obtain ⟨xs, hx, hl⟩ := hg
    obtain ⟨ia, ra, pa, za⟩ := I.list hx
    have hla := ra.length
    obtain ⟨⟨old, he⟩, l1⟩ := st
    refine wpAny_pyNext_enum_end (I.ok.hd hc) he l1 pa.isList (by simp; omega) fun h' k => ⟨rfl, ?_⟩
    exact I.turnedL (t' := s.toks) (its := [e, it]) (fun c o hc' q => by
      have hc'' : ¬ (c = e ∨ c = it) := by simpa using hc'
      exact k c o (fun z' => hc'' (.inr z')) q) hf
  self := fun _ _ _ _ _ st h => by
    obtain ⟨⟨old, he⟩, _⟩ := st
    exact wpAny_pyIter_enum he h
section
variable {X : Cx}
def iEnum (K : PySem.W.Frag) (ta : TA) : TI := fun σ H R => ta σ H fun vs H1 => ∃ a, vs = [.ref a] ∧ (∃ xs, SqL K H1 a xs) ∧ R (Ite K a) H1
theorem pi_enum {elts : List Expr} {ek : Nat} {epos : Pos} {a : Expr} {ta : TA} {p pos : Pos} (hg : Gl X "enumerate") (hm : X.mg "enumerate" = none) (ha : PA X [a] ta) (hs : starEach [a] X.env = [(false, eval a X.env)] := by rfl) :
    PI X (.Tuple elts ek epos) (.Call (.Name "enumerate" p) [a] [] pos) (iEnum X.K ta) := by
  intro pins s σ H R I h
  refine Call_ (ld_blt I hg hm boot_enumerate (PyProof.Rows.callWith_type1 (thn (ha pos pins s σ H _ I h) fun us s1 ⟨vs, H1, I1, r1, q1⟩ => ?_) hs rfl))
  obtain ⟨l1, e, ⟨xs, hx⟩, q⟩ := q1
  subst e
  obtain ⟨u, rfl, ru⟩ := vals1 r1
  cases ru
  obtain ⟨ia, ra, pa, za⟩ := I1.list hx
  refine call_enumerate_list pa.isList fun h' he hi hsz hk => wpAny_pyIter_enum he ?_
  have fr : ∀ b, s1.heap.objs.size ≤ b → FpOk X pins H1 b := fun b hb => I1.fpOk hb (I1.hok.fresh hb)
  refine ⟨_, [s1.heap.objs.size + 1, s1.heap.objs.size], _, _, H1, rfl, I1.kept (t' := s1.toks) hk,
    turn_enum (it := s1.heap.objs.size) (a := l1) (fun z => by simp at z), ⟨⟨_, he⟩, hi⟩, fun b hb => ?_, q⟩
  have hb' : b = s1.heap.objs.size + 1 ∨ b = s1.heap.objs.size := by simpa using hb
  rcases hb' with rfl | rfl
  · exact fr _ (Nat.le_add_right _ _)
  · exact fr _ (Nat.le_refl _)
theorem for_enum {K : PySem.W.Frag} {a : Addr} {xs : List V} {g : TG} {tb : TS} {D : Ends} {σ : St} {H : Hp} (Pv : Nat → St → Hp → Prop) (h0 : Pv 0 σ H) (hl : ∀ i σ H, i ≤ xs.length → Pv i σ H → SqL K H a xs)
    (hs : ∀ (i : Nat) (x : V) (t : Addr) σ H, xs[i]? = some x → Pv i σ H → H t = none → g (.ref t) σ (upd H t (.tup [.int (i : Int), x])) fun σ2 H2 => tb { D with nx := Pv (i + 1), ct := Pv (i + 1), bk := D.nx } σ2 H2) (hd : ∀ σ H, Pv xs.length σ H → D.nx σ H) :
    ∃ W : Nat → Nat → St → Hp → Prop, (∃ m, W 0 m σ H) ∧ ∀ i m σ H, W i m σ H →
      ((Ite K a).stop i H ∧ D.nx σ H) ∨ ((Ite K a).go i H ∧ ∃ N : St → Hp → Prop, (∀ σ' H', N σ' H' → ∃ m', m' < m ∧ W (i + 1) m' σ' H') ∧ ∀ x H', (Ite K a).yld i H x H' → g x σ H' fun σ2 H2 => tb { D with nx := N, ct := N, bk := D.nx } σ2 H2) := by
  refine ⟨fun i m σ H => m = xs.length - i ∧ i ≤ xs.length ∧ Pv i σ H, ⟨xs.length, by simp, Nat.zero_le _, h0⟩, ?_⟩
  rintro i m σ H ⟨rfl, hi, p⟩
  have q1 := hl i σ H hi p
  by_cases lt : i < xs.length
  · refine .inr ⟨⟨xs, xs[i], q1, List.getElem?_eq_getElem lt⟩, Pv (i + 1), fun σ' H' p' => ⟨xs.length - (i + 1), by omega, rfl, lt, p'⟩, fun x H' y => ?_⟩
    obtain ⟨t, x1, rfl, ht, rfl, g1⟩ := y
    exact hs i x1 t σ H (g1 xs q1) p ht
  · have ei : i = xs.length := by omega
    subst ei
    exact .inl ⟨⟨xs, q1, Nat.le_refl _⟩, hd σ H p⟩
end
end L2
namespace L2
open PySem PySem.Spec PyProof.Rows
section
variable {X : Cx}
end
end L2
namespace Q6
open M11 (Bn)
def sm (f : Nat → Rat) : Nat → Rat
  | 0 => 0
  | n + 1 => sm f n + f n
theorem sm_congr {f g : Nat → Rat} : ∀ n, (∀ k, k < n → f k = g k) → sm f n = sm g n
  | 0, _ => rfl
  | n + 1, h => by
    show sm f n + f n = sm g n + g n
    rw [sm_congr n fun k hk => h k (by omega), h n (by omega)]
theorem sm_mul (f : Nat → Rat) (c : Rat) : ∀ n, sm f n * c = sm (fun k => f k * c) n
  | 0 => by show (0 : Rat) * c = 0; grind
  | n + 1 => by
    show (sm f n + f n) * c = sm (fun k => f k * c) n + f n * c
    rw [← sm_mul f c n]
    grind
theorem sm_app (f : Nat → Rat) (n : Nat) : ∀ m, sm f (n + m) = sm f n + sm (fun k => f (n + k)) m
  | 0 => by show sm f n = sm f n + 0; grind
  | m + 1 => by
    show sm f (n + m) + f (n + m) = sm f n + (sm (fun k => f (n + k)) m + f (n + m))
    rw [sm_app f n m]
    grind
theorem sm_list : ∀ (l : List Int) (f : Nat → Rat), (∀ (k : Nat) (x : Int), l[k]? = some x → (x : Rat) = f k) → ((l.sum : Int) : Rat) = sm f l.length
  | [], f, _ => rfl
  | a :: l, f, h => by
    rw [List.sum_cons, List.length_cons, Nat.add_comm, sm_app, Rat.intCast_add, h 0 a rfl, sm_list l (fun k => f (1 + k)) fun k x e => by rw [Nat.add_comm]; exact h (k + 1) x (by rw [List.getElem?_cons_succ]; exact e)]
    show f 0 + _ = (0 + f 0) + _
    grind
theorem cast_ne {b : Int} (h : 0 < b) : (b : Rat) ≠ 0 := fun e => by
  have : b = 0 := Rat.intCast_inj.mp (by rw [e]; rfl)
  omega
structure Va (n s : Nat) (f : Nat → Rat) (ts : List Int) (b : Int) : Prop where
  len : ts.length = n
  pos : 0 < b
  bot : b.natAbs ≤ 2 ^ (20 * (s / 61))
  tops : ∀ x ∈ ts, Bn (8 * s) x
  val : ∀ (k : Nat) (x : Int), ts[k]? = some x → (x : Rat) = f k * (b : Rat)
theorem le_mono {x c d : Nat} (h : x ≤ 2 ^ (20 * (c / 61))) (l : c ≤ d) : x ≤ 2 ^ (20 * (d / 61)) := Nat.le_trans h (Nat.pow_le_pow_right (by decide) (by omega))
theorem le_mul {b e : Int} {c d : Nat} (h : b.natAbs ≤ 2 ^ (20 * (c / 61))) (l : e.natAbs ≤ 2 ^ (20 * (d / 61))) : (b * e).natAbs ≤ 2 ^ (20 * ((c + d) / 61)) := by
  rw [Int.natAbs_mul]
  refine Nat.le_trans (Nat.mul_le_mul h l) ?_
  rw [← Nat.pow_add]
  exact Nat.pow_le_pow_right (by decide) (by omega)
theorem le_bn {b : Int} {c : Nat} (h : b.natAbs ≤ 2 ^ (20 * (c / 61))) : Bn (20 * (c / 61) + 1) b := Nat.lt_of_le_of_lt h (Nat.pow_lt_pow_right (by decide) (by omega))
variable {n c d : Nat} {f g : Nat → Rat} {ts us : List Int} {b e : Int}
theorem Va.more (S : Va n c f ts b) (h : c ≤ d) : Va n d f ts b := ⟨S.len, S.pos, le_mono S.bot h, fun x hx => (S.tops x hx).mono (by omega), S.val⟩
theorem Va.lower (S : Va n c f ts b) : Va n c f (ts.map fun t => t.fdiv (M11.foldG b ts)) (b.fdiv (M11.foldG b ts)) := by
  obtain ⟨h1, h2⟩ := M11.lowerR_pos (ts := ts) S.pos
  obtain ⟨g1, g2, g3⟩ := M11.foldG_spec ts b S.pos
  have h1' : 0 < b.fdiv (M11.foldG b ts) := h1
  have h2' : b.fdiv (M11.foldG b ts) ≤ b := h2
  refine ⟨by rw [List.length_map]; exact S.len, h1, ?_, fun x hx => ?_, fun k x e => ?_⟩
  · have := S.bot
    have p0 := S.pos
    refine Nat.le_trans (?_ : _ ≤ b.natAbs) S.bot
    omega
  · obtain ⟨t, ht, hl⟩ := M11.lowerR_le (ts := ts) S.pos x hx
    exact (S.tops t ht).le hl
  · rw [List.getElem?_map] at e
    obtain ⟨t, et, rfl⟩ := Option.map_eq_some_iff.mp e
    obtain ⟨t', e1, e2⟩ := M11.fdiv_of_dvd g1 (g3 t (List.mem_of_getElem? et))
    obtain ⟨b', e3, e4⟩ := M11.fdiv_of_dvd g1 g2
    have v := S.val k t et
    have nz := cast_ne g1
    rw [e2, e4]
    generalize M11.foldG b ts = q at *
    rw [e1, e3, Rat.intCast_mul, Rat.intCast_mul] at v
    grind
theorem zip_val {F : Int → Int → Int} {k : Nat} {z : Int} (h : (List.zipWith F ts us)[k]? = some z) : ∃ x y, ts[k]? = some x ∧ us[k]? = some y ∧ z = F x y := by
  rw [List.getElem?_zipWith] at h
  cases hx : ts[k]? with
  | none => rw [hx] at h; cases h
  | some x =>
    cases hy : us[k]? with
    | none => rw [hx, hy] at h; cases h
    | some y => rw [hx, hy] at h; exact ⟨x, y, rfl, rfl, (Option.some.inj h).symm⟩
theorem mem_val {z : Int} {l : List Int} (h : z ∈ l) : ∃ k : Nat, l[k]? = some z := List.mem_iff_getElem?.mp h
theorem Va.mul (S : Va n c f ts b) (T : Va n d g us e) : Va n (c + d) (fun k => f k * g k) (List.zipWith (fun x y => x * y) ts us) (b * e) := by
  refine ⟨by rw [List.length_zipWith, S.len, T.len, Nat.min_self], Int.mul_pos S.pos T.pos, le_mul S.bot T.bot, fun z hz => ?_, fun k z hz => ?_⟩
  · obtain ⟨k, hk⟩ := mem_val hz
    obtain ⟨x, y, h1, h2, rfl⟩ := zip_val hk
    exact ((S.tops x (List.mem_of_getElem? h1)).mul (T.tops y (List.mem_of_getElem? h2))).mono (by omega)
  · obtain ⟨x, y, h1, h2, rfl⟩ := zip_val hz
    have v1 := S.val k x h1
    have v2 := T.val k y h2
    rw [Rat.intCast_mul, Rat.intCast_mul, v1, v2]
    grind
theorem Va.add (S : Va n c f ts b) (T : Va n d g us e) : Va n (c + d + 1) (fun k => f k + g k) (List.zipWith (fun x y => x * e + y * b) ts us) (b * e) := by
  refine ⟨by rw [List.length_zipWith, S.len, T.len, Nat.min_self], Int.mul_pos S.pos T.pos, le_mono (le_mul S.bot T.bot) (by omega), fun z hz => ?_, fun k z hz => ?_⟩
  · obtain ⟨k, hk⟩ := mem_val hz
    obtain ⟨x, y, h1, h2, rfl⟩ := zip_val hk
    have z1 := ((S.tops x (List.mem_of_getElem? h1)).mul (le_bn T.bot)).mono (m := 8 * (c + d) + 1) (by omega)
    have z2 := ((T.tops y (List.mem_of_getElem? h2)).mul (le_bn S.bot)).mono (m := 8 * (c + d) + 1) (by omega)
    exact (z1.add z2).mono (by omega)
  · obtain ⟨x, y, h1, h2, rfl⟩ := zip_val hz
    have v1 := S.val k x h1
    have v2 := T.val k y h2
    rw [Rat.intCast_add, Rat.intCast_mul, Rat.intCast_mul, Rat.intCast_mul, v1, v2]
    grind
theorem Va.many {p q : Int} (hq : 0 < q) (hp : Bn 200 p) (hq' : q.natAbs ≤ 2 ^ 20) (S : Va n c f ts b) : Va n (c + 61) (fun k => f k * ((p : Rat) / (q : Rat))) (M11.manyR p q ts b).1 (M11.manyR p q ts b).2 := by
  obtain ⟨m1, m2, m3, m4⟩ := M11.manyR_spec (a := p) (ts := ts) hq S.pos
  obtain ⟨h1, h2, h3⟩ := M11.foldG_spec ts q hq
  have p1 : 0 < M11.G p b := Int.ofNat_lt.mpr (Int.gcd_pos_of_ne_zero_right p (by have := S.pos; omega))
  refine ⟨by rw [M11.manyR_len]; exact S.len, m1, ?_, fun x hx => ?_, fun k x hx => ?_⟩
  · have h5 : (M11.manyR p q ts b).2.natAbs ≤ (q * b).natAbs := by omega
    refine Nat.le_trans h5 ?_
    rw [Int.natAbs_mul]
    refine Nat.le_trans (Nat.mul_le_mul hq' S.bot) ?_
    rw [← Nat.pow_add]
    exact Nat.pow_le_pow_right (by decide) (by omega)
  · obtain ⟨t, ht, hl⟩ := m4 x hx
    exact (Bn.le (hp.mul (S.tops t ht)) hl).mono (by omega)
  · unfold M11.manyR at hx
    rw [List.getElem?_map] at hx
    obtain ⟨t, et, rfl⟩ := Option.map_eq_some_iff.mp hx
    obtain ⟨p', ea, fa⟩ := M11.fdiv_of_dvd p1 (Int.gcd_dvd_left p b)
    obtain ⟨b', eb, fb⟩ := M11.fdiv_of_dvd p1 (Int.gcd_dvd_right p b)
    obtain ⟨q', ec, fc⟩ := M11.fdiv_of_dvd h1 h2
    obtain ⟨t', ed, fd⟩ := M11.fdiv_of_dvd h1 (h3 t (List.mem_of_getElem? et))
    have v := S.val k t et
    have n1 := cast_ne h1
    have n2 := cast_ne p1
    have n3 := cast_ne hq
    have n4 := cast_ne S.pos
    show ((p.fdiv (M11.G p b) * t.fdiv (M11.foldG q ts) : Int) : Rat) = f k * (p / q) * ((q.fdiv (M11.foldG q ts) * b.fdiv (M11.G p b) : Int) : Rat)
    rw [fa, fb, fc, fd, Rat.intCast_mul, Rat.intCast_mul]
    clear fa fb fc fd hx m1 m2 m3 m4 h2 h3 et hp hq'
    generalize M11.G p b = D at *
    generalize M11.foldG q ts = E at *
    have ea' : (p : Rat) = D * p' := by rw [ea, Rat.intCast_mul]
    have eb' : (b : Rat) = D * b' := by rw [eb, Rat.intCast_mul]
    have ec' : (q : Rat) = E * q' := by rw [ec, Rat.intCast_mul]
    have ed' : (t : Rat) = E * t' := by rw [ed, Rat.intCast_mul]
    clear ea eb ec ed
    have n5 : (q' : Rat) ≠ 0 := by rw [ec'] at n3; grind
    have n6 : (b' : Rat) ≠ 0 := by rw [eb'] at n4; grind
    rw [ed', eb'] at v
    rw [ea', ec']
    clear ea' eb' ec' ed' n3 n4
    have w : (t' : Rat) = f k * D * b' / E := by grind
    rw [w]
    grind
theorem Va.lst {F : Nat → Int} (hb : 0 < b) (hb' : b.natAbs ≤ 2 ^ (20 * (c / 61))) (hl : ts.length = n) (ht : ∀ (k : Nat) (x : Int), ts[k]? = some x → x = F k ∧ Bn (8 * c) x ∧ ((F k : Int) : Rat) = f k * (b : Rat)) : Va n c f ts b :=
  ⟨hl, hb, hb', fun x hx => by
    obtain ⟨k, hk⟩ := mem_val hx
    exact (ht k x hk).2.1, fun k x hk => by
    obtain ⟨rfl, _, h⟩ := ht k x hk
    exact h⟩
theorem Va.diag {us : List Int} (S : Va n c f ts b) (hl : us.length = n * n) (hu : ∀ (i j : Nat) (x : Int), i < n → j < n → us[i * n + j]? = some x → if i = j then ts[i]? = some x else x = 0) : Va (n * n) c (fun k => if k / n = k % n then f (k / n) else 0) us b := by
  have key : ∀ (k : Nat) (x : Int), us[k]? = some x → k / n < n ∧ k % n < n ∧ (if k / n = k % n then ts[k / n]? = some x else x = 0) := fun k x h => by
    have hk : k < n * n := by rw [← hl]; exact (List.getElem?_eq_some_iff.mp h).1
    have n0 : 0 < n := by
      rcases Nat.eq_zero_or_pos n with z | z
      · subst z; omega
      · exact z
    have h1 : k / n < n := Nat.div_lt_of_lt_mul hk
    have h2 : k % n < n := Nat.mod_lt _ n0
    refine ⟨h1, h2, hu (k / n) (k % n) x h1 h2 ?_⟩
    rw [Nat.mul_comm, Nat.div_add_mod]
    exact h
  refine ⟨hl, S.pos, S.bot, fun x hx => ?_, fun k x hk => ?_⟩
  · obtain ⟨k, hk⟩ := mem_val hx
    obtain ⟨_, _, h⟩ := key k x hk
    split at h
    · exact S.tops x (List.mem_of_getElem? h)
    · subst h; exact Nat.pow_pos (by decide)
  · obtain ⟨_, _, h⟩ := key k x hk
    split at h
    · rename_i z
      rw [if_pos z]
      exact S.val _ x h
    · rename_i z
      rw [if_neg z, h]
      show ((0 : Int) : Rat) = 0 * _
      grind
theorem Va.turn {us : List Int} (S : Va (n * n) c f ts b) (hl : us.length = n * n) (hu : ∀ (i j : Nat) (x : Int), i < n → j < n → us[i * n + j]? = some x → ts[j * n + i]? = some x) : Va (n * n) c (fun k => f (k % n * n + k / n)) us b := by
  have key : ∀ (k : Nat) (x : Int), us[k]? = some x → ts[k % n * n + k / n]? = some x := fun k x h => by
    have hk : k < n * n := by rw [← hl]; exact (List.getElem?_eq_some_iff.mp h).1
    have n0 : 0 < n := by
      rcases Nat.eq_zero_or_pos n with z | z
      · subst z; omega
      · exact z
    refine hu (k / n) (k % n) x (Nat.div_lt_of_lt_mul hk) (Nat.mod_lt _ n0) ?_
    rw [Nat.mul_comm, Nat.div_add_mod]
    exact h
  refine ⟨hl, S.pos, S.bot, fun x hx => ?_, fun k x hk => S.val _ x (key k x hk)⟩
  obtain ⟨k, hk⟩ := mem_val hx
  exact S.tops x (List.mem_of_getElem? (key k x hk))
theorem dot_val {ws rs : List Int} {F G : Nat → Rat} {q : Rat} (hl : ws.length = rs.length) (h1 : ∀ (k : Nat) (x : Int), ws[k]? = some x → (x : Rat) = F k) (h2 : ∀ (k : Nat) (x : Int), rs[k]? = some x → (x : Rat) = G k * q) :
    (((List.zipWith (fun a b => a * b) ws rs).sum : Int) : Rat) = sm (fun k => F k * G k) ws.length * q := by
  rw [sm_mul, sm_list _ (fun k => F k * G k * q) fun k z hz => ?_, List.length_zipWith, ← hl, Nat.min_self]
  obtain ⟨x, y, e1, e2, rfl⟩ := zip_val hz
  rw [Rat.intCast_mul, h1 k x e1, h2 k y e2]
  grind
theorem dot_bn {ws rs : List Int} {u v : Nat} (hl : ws.length ≤ 16) (h1 : ∀ x ∈ ws, Bn u x) (h2 : ∀ x ∈ rs, Bn v x) : Bn (u + v + 5) (List.zipWith (fun a b => a * b) ws rs).sum := by
  refine M11.bn_sum (n := u + v) 4 _ (by rw [List.length_zipWith]; show _ ≤ 16; omega) fun z hz => ?_
  obtain ⟨k, hk⟩ := mem_val hz
  obtain ⟨x, y, e1, e2, rfl⟩ := zip_val hk
  exact (h1 x (List.mem_of_getElem? e1)).mul (h2 y (List.mem_of_getElem? e2))
theorem Va.near {M : List (List Int)} (S : Va n c f ts b) (hn : n ≤ 16) (hM : M.length = n) (hr : ∀ x ∈ M, x.length = n ∧ ∀ z ∈ x, z.natAbs ≤ 10 ^ 60) :
    Va n (c + 61) (fun k => sm (fun v => (((M.getD k []).getD v 0 : Int) : Rat) * f v) n) (M.map fun w => (List.zipWith (fun a b => a * b) w ts).sum) b := by
  refine ⟨by rw [List.length_map]; exact hM, S.pos, le_mono S.bot (by omega), fun x hx => ?_, fun k x hx => ?_⟩
  · obtain ⟨w, hw, rfl⟩ := List.mem_map.mp hx
    refine (dot_bn (u := 200) (by rw [(hr w hw).1]; exact hn) (fun z hz => Nat.lt_of_le_of_lt ((hr w hw).2 z hz) (by decide)) S.tops).mono (by omega)
  · rw [List.getElem?_map] at hx
    obtain ⟨w, ew, rfl⟩ := Option.map_eq_some_iff.mp hx
    have lw := (hr w (List.mem_of_getElem? ew)).1
    have eM : M.getD k [] = w := by rw [List.getD_eq_getElem?_getD, ew]; rfl
    rw [dot_val (ws := w) (rs := ts) (F := fun v => ((w.getD v 0 : Int) : Rat)) (G := f) (by rw [lw, S.len]) (fun v y e => by rw [List.getD_eq_getElem?_getD, e]; rfl) S.val, lw, eM]
theorem Va.rows {us : List Int} (S : Va (n * n) c f ts b) (hn : n ≤ 16) (hl : us.length = n) (hu : ∀ (i : Nat) (x : Int), us[i]? = some x → x = ((ts.drop (n * i)).take n).sum) :
    Va n (c + 1) (fun k => sm (fun j => f (k * n + j)) n) us b := by
  refine ⟨hl, S.pos, le_mono S.bot (by omega), fun x hx => ?_, fun k x hx => ?_⟩
  · obtain ⟨k, hk⟩ := mem_val hx
    rw [hu k x hk]
    exact (M11.bn_sum (n := 8 * c) 4 _ (by rw [List.length_take]; show _ ≤ 16; omega) fun z hz => S.tops z (List.mem_of_mem_drop (List.mem_of_mem_take hz))).mono (by omega)
  · have hk : k < n := by rw [← hl]; exact (List.getElem?_eq_some_iff.mp hx).1
    have le : n * k + n ≤ n * n := by
      have := Nat.mul_le_mul_left n (show k + 1 ≤ n from hk)
      rw [Nat.mul_succ] at this
      exact this
    rw [hu k x hx, sm_mul, sm_list _ (fun j => f (k * n + j) * (b : Rat)) fun j y e => ?_]
    · rw [List.length_take, List.length_drop, S.len, Nat.min_eq_left (by omega)]
    · refine S.val _ y ?_
      have hj : j < n := by
        have := (List.getElem?_eq_some_iff.mp e).1
        rw [List.length_take] at this
        omega
      rw [List.getElem?_take_of_lt hj, List.getElem?_drop] at e
      rw [Nat.mul_comm k n]
      exact e
theorem Va.thn {vs : List Int} {rw' cl : Nat → List Int} (S : Va (n * n) c f ts b) (T : Va (n * n) d g us e) (hn : n ≤ 16) (hl : vs.length = n * n) (hr : ∀ i, i < n → (rw' i).length = n ∧ ∀ (v : Nat) (x : Int), (rw' i)[v]? = some x → ts[i * n + v]? = some x) (hc : ∀ j, j < n → (cl j).length = n ∧ ∀ (v : Nat) (x : Int), (cl j)[v]? = some x → us[v * n + j]? = some x)
    (hv : ∀ (i j : Nat) (x : Int), i < n → j < n → vs[i * n + j]? = some x → x = (List.zipWith (fun a b => a * b) (cl j) (rw' i)).sum) : Va (n * n) (c + d + 1) (fun k => sm (fun v => f (k / n * n + v) * g (v * n + k % n)) n) vs (b * e) := by
  have key : ∀ (k : Nat) (x : Int), vs[k]? = some x → k / n < n ∧ k % n < n ∧ x = (List.zipWith (fun a b => a * b) (cl (k % n)) (rw' (k / n))).sum := fun k x h => by
    have hk : k < n * n := by rw [← hl]; exact (List.getElem?_eq_some_iff.mp h).1
    have n0 : 0 < n := by
      rcases Nat.eq_zero_or_pos n with z | z
      · subst z; omega
      · exact z
    have h1 : k / n < n := Nat.div_lt_of_lt_mul hk
    have h2 : k % n < n := Nat.mod_lt _ n0
    refine ⟨h1, h2, hv (k / n) (k % n) x h1 h2 ?_⟩
    rw [Nat.mul_comm, Nat.div_add_mod]
    exact h
  refine ⟨hl, Int.mul_pos S.pos T.pos, le_mono (le_mul S.bot T.bot) (by omega), fun x hx => ?_, fun k x hx => ?_⟩
  · obtain ⟨k, hk⟩ := mem_val hx
    obtain ⟨h1, h2, rfl⟩ := key k x hk
    obtain ⟨l1, m1⟩ := hr _ h1
    obtain ⟨l2, m2⟩ := hc _ h2
    refine (dot_bn (u := 8 * d) (v := 8 * c) (by omega) (fun z hz => ?_) fun z hz => ?_).mono (by omega)
    · obtain ⟨v, ev⟩ := mem_val hz
      exact T.tops z (List.mem_of_getElem? (m2 v z ev))
    · obtain ⟨v, ev⟩ := mem_val hz
      exact S.tops z (List.mem_of_getElem? (m1 v z ev))
  · obtain ⟨h1, h2, rfl⟩ := key k x hx
    obtain ⟨l1, m1⟩ := hr _ h1
    obtain ⟨l2, m2⟩ := hc _ h2
    rw [dot_val (F := fun v => g (v * n + k % n) * (e : Rat)) (G := fun v => f (k / n * n + v)) (q := (b : Rat)) (by rw [l1, l2]) (fun v x ev => T.val _ x (m2 v x ev)) (fun v x ev => S.val _ x (m1 v x ev)), l2, Rat.intCast_mul, sm_mul, sm_mul]
    refine sm_congr n fun v _ => ?_
    grind
structure IsFr (q : Rat) (p : Int × Int) : Prop where
  pos : 0 < p.2
  cop : Int.gcd p.1 p.2 = 1
  val : (p.1 : Rat) = q * (p.2 : Rat)
theorem IsFr.uniq {q : Rat} {p p' : Int × Int} (h : IsFr q p) (h' : IsFr q p') : p = p' := by
  have e : p.1 * p'.2 = p'.1 * p.2 := by
    refine Rat.intCast_inj.mp ?_
    rw [Rat.intCast_mul, Rat.intCast_mul, h.val, h'.val]
    grind
  have n1 : p.2 ≠ 0 := by have := h.pos; omega
  have n2 : p'.2 ≠ 0 := by have := h'.pos; omega
  have := M11.low_eq n1 n2 e
  rw [M11.low_self h.pos h.cop, M11.low_self h'.pos h'.cop] at this
  exact this
theorem isFr_low {q : Rat} {t b : Int} (hb : b ≠ 0) (hq : (t : Rat) = q * (b : Rat)) : IsFr q (M11.low t b) := by
  refine ⟨M11.low_pos hb, M11.low_cop hb, ?_⟩
  have e := congrArg (fun z : Int => (z : Rat)) (M11.low_cross (t := t) hb)
  rw [Rat.intCast_mul, Rat.intCast_mul, hq] at e
  have nb : (b : Rat) ≠ 0 := fun z => hb (Rat.intCast_inj.mp (by rw [z]; rfl))
  grind
theorem IsFr.plus {q r : Rat} {p s : Int × Int} (h : IsFr q p) (h' : IsFr r s) : IsFr (q + r) (M11.low (p.1 * s.2 + s.1 * p.2) (p.2 * s.2)) := by
  refine isFr_low (Int.ne_of_gt (Int.mul_pos h.pos h'.pos)) ?_
  rw [Rat.intCast_add, Rat.intCast_mul, Rat.intCast_mul, Rat.intCast_mul, h.val, h'.val]
  grind
theorem IsFr.times {q r : Rat} {p s : Int × Int} (h : IsFr q p) (h' : IsFr r s) : IsFr (q * r) (M11.low (p.1 * s.1) (p.2 * s.2)) := by
  refine isFr_low (Int.ne_of_gt (Int.mul_pos h.pos h'.pos)) ?_
  rw [Rat.intCast_mul, Rat.intCast_mul, h.val, h'.val]
  grind
theorem isFr_int (x : Int) : IsFr (x : Rat) (x, 1) := ⟨by show (0 : Int) < 1; decide, by show Int.gcd x 1 = 1; exact Int.gcd_one_right x, by show (x : Rat) = x * ((1 : Int) : Rat); rw [Rat.intCast_one]; grind⟩
theorem Va.fr (S : Va n c f ts b) {k : Nat} {x : Int} (h : ts[k]? = some x) : IsFr (f k) (M11.low x b) := isFr_low (by have := S.pos; omega) (S.val k x h)
theorem Va.total (S : Va n c f ts b) : IsFr (sm f n) (M11.low ts.sum b) := by
  refine isFr_low (by have := S.pos; omega) ?_
  rw [sm_mul, sm_list ts _ fun k x e => S.val k x e, S.len]
end Q6
namespace TM
open PySem L2
abbrev Rw := List Int × Int
def dot (w r : List Int) : Int := (List.zipWith (fun a b => a * b) w r).sum
inductive Lf where
  | one
  | hue (c : Int)
  | same
  | tie
  | all
inductive Un where
  | near
  | rows
  | on
  | turned
  | many (a b : Int)
inductive Bi where
  | both
  | thn
  | meet
  | plus
inductive Te where
  | lf (k : Lf)
  | un (k : Un) (t : Te)
  | bi (k : Bi) (t u : Te)
def Lf.word : Lf → Str
  | .one => "one"
  | .hue _ => "hue"
  | .same => "same"
  | .tie => "tie"
  | .all => "all"
def Lf.rest : Lf → List PyData
  | .hue c => [.int c]
  | _ => []
def Un.word : Un → Str
  | .near => "near"
  | .rows => "rows"
  | .on => "on"
  | .turned => "turned"
  | .many _ _ => "many"
def Un.rest : Un → List PyData
  | .many a b => [.tuple [.int a, .int b]]
  | _ => []
def Bi.word : Bi → Str
  | .both => "both"
  | .thn => "then"
  | .meet => "meet"
  | .plus => "plus"
def Te.word : Te → Str
  | .lf k => k.word
  | .un k _ => k.word
  | .bi k _ _ => k.word
def Te.rest : Te → List PyData
  | .lf k => k.rest
  | .un k _ => k.rest
  | .bi _ _ _ => []
def Te.dat : Te → PyData
  | .lf k => .tuple (.str k.word :: k.rest)
  | .un k t => .tuple (.str k.word :: (k.rest ++ [t.dat]))
  | .bi k t u => .tuple [.str k.word, t.dat, u.dat]
def Te.size : Te → Nat
  | .lf _ => 1
  | .un _ t => t.size + 1
  | .bi _ t u => t.size + u.size + 1
def Te.pre : Te → List Te
  | .lf k => [.lf k]
  | .un k t => .un k t :: t.pre
  | .bi k t u => .bi k t u :: (u.pre ++ t.pre)
structure FrOk (a b : Int) : Prop where
  top : a.natAbs ≤ 10 ^ 60
  pos : 0 < b
  bot : b ≤ 2 ^ 20
  cop : Int.gcd a b = 1
def Lf.tab : Lf → Bool
  | .one => false
  | .hue _ => false
  | _ => true
def Te.ok : Te → Bool → Prop
  | .lf k, s => k.tab = s
  | .un .near t, s => s = false ∧ t.ok false
  | .un .rows t, s => s = false ∧ t.ok true
  | .un .on t, s => s = true ∧ t.ok false
  | .un .turned t, s => s = true ∧ t.ok true
  | .un (.many a b) t, s => FrOk a b ∧ t.ok s
  | .bi .both t u, s => s = false ∧ t.ok false ∧ u.ok false
  | .bi .thn t u, s => s = true ∧ t.ok true ∧ u.ok true
  | .bi .meet t u, s => s = true ∧ t.ok true ∧ u.ok true
  | .bi .plus t u, s => t.ok s ∧ u.ok s
open Q6 (sm)
def mean (hs : List Int) (M : List (List Int)) : Te → Nat → Rat
  | .lf .one => fun _ => 1
  | .lf (.hue c) => fun k => if hs.getD k 0 = c then 1 else 0
  | .lf .same => fun k => if k / hs.length = k % hs.length then 1 else 0
  | .lf .tie => fun k => (((M.getD (k / hs.length) []).getD (k % hs.length) 0 : Int) : Rat)
  | .lf .all => fun _ => 1
  | .un .near t => fun k => sm (fun v => (((M.getD k []).getD v 0 : Int) : Rat) * mean hs M t v) hs.length
  | .un .rows t => fun k => sm (fun j => mean hs M t (k * hs.length + j)) hs.length
  | .un .on t => fun k => if k / hs.length = k % hs.length then mean hs M t (k / hs.length) else 0
  | .un .turned t => fun k => mean hs M t (k % hs.length * hs.length + k / hs.length)
  | .un (.many a b) t => fun k => mean hs M t k * ((a : Rat) / (b : Rat))
  | .bi .both t u => fun k => mean hs M t k * mean hs M u k
  | .bi .thn t u => fun k => sm (fun x => mean hs M t (k / hs.length * hs.length + x) * mean hs M u (x * hs.length + k % hs.length)) hs.length
  | .bi .meet t u => fun k => mean hs M t k * mean hs M u k
  | .bi .plus t u => fun k => mean hs M t k + mean hs M u k
def many (n : Nat) (s : Bool) : Nat := if s = true then n * n else n
structure MOk (n : Nat) (hs : List Int) (M : List (List Int)) : Prop where
  hl : hs.length = n
  ml : M.length = n
  row : ∀ x ∈ M, x.length = n ∧ ∀ z ∈ x, z.natAbs ≤ 10 ^ 60
  few : n ≤ 16
theorem bn200 {z : Int} (h : z.natAbs ≤ 10 ^ 60) : M11.Bn 200 z := Nat.lt_of_le_of_lt h (by decide)
end TM
namespace My
open PySem L2 PyProof.Rows
def top (i : Nat) : Stmt := PySem.Challenge.pw_evenkin_k62_steps_reckoned.main.body.getD i (.Pass ⟨0, 0, 0, 0⟩)
abbrev sCol : Stmt := top 4
abbrev sCols : Stmt := top 5
abbrev sDot : Stmt := top 6
abbrev sEach : Stmt := top 7
abbrev sProd : Stmt := top 8
abbrev sInOne : Stmt := top 9
abbrev sInSq : Stmt := top 10
abbrev sGd : Stmt := top 12
abbrev sFr : Stmt := top 13
abbrev sInner : Stmt := top 16
abbrev sAll : Stmt := top 17
abbrev sLowered : Stmt := top 18
abbrev sBothRow : Stmt := top 19
abbrev sPlusRow : Stmt := top 20
abbrev sManyRow : Stmt := top 21
abbrev sThen : Stmt := top 22
abbrev sWhereSame : Stmt := top 23
abbrev sLeaf : Stmt := top 24
abbrev sFromOne : Stmt := top 25
abbrev sFromTwo : Stmt := top 26
abbrev sByKind : Stmt := top 27
abbrev sAny : Stmt := top 28
abbrev sFrv : Stmt := top 29
abbrev sTov : Stmt := top 30
abbrev sNamed : Stmt := top 32
abbrev sLook : Stmt := top 33
abbrev sValStep : Stmt := top 34
abbrev sVals : Stmt := top 35
abbrev sTables : Stmt := top 36
abbrev sTotal : Stmt := top 37
abbrev sWhole : Stmt := top 40
abbrev sMix : Stmt := top 41
abbrev sBegun : Stmt := top 42
abbrev sTake : Stmt := top 43
abbrev sWeight : Stmt := top 44
abbrev sWeb : Stmt := top 45
abbrev sDiv : Stmt := top 46
abbrev sIsF : Stmt := top 47
abbrev sLow : Stmt := top 48
abbrev sPlus : Stmt := top 49
abbrev sTimes : Stmt := top 50
abbrev sFrac : Stmt := top 51
abbrev sStep : Stmt := top 52
abbrev sSteps : Stmt := top 53
abbrev sEntry : Stmt := top 54
abbrev sLSum : Stmt := top 55
abbrev sHolds : Stmt := top 56
abbrev sLaw : Stmt := top 57
section
variable {P : Program} {w : World} {K : PySem.W.Frag} {mg : Str → Option Value} {base : Heap}
def Drw (H : Hp) (p : Addr) (n : Nat) : Prop := ∃ a b c : Int, H p = some (.lst [.int a, .int b, .int c]) ∧ 0 ≤ b ∧ b ≤ (n : Int)
def But (p : Addr) (H H' : Hp) : Prop := ∀ b o, b ≠ p → H b = some o → H' b = some o
theorem But.trans {p : Addr} {H H1 H2 : Hp} (a : But p H H1) (b : But p H1 H2) : But p H H2 := fun c o n h => b c o n (a c o n h)
theorem But.upd {p : Addr} {H : Hp} {o : HO} : But p H (upd H p o) := fun b u n h => by rw [upd_ne n]; exact h
theorem But.new {p q : Addr} {H : Hp} {o : HO} (h : H q = none) : But p H (L2.upd H q o) := fun b u _ e => by rw [upd_ne (ne_of_none e h)]; exact e
theorem Drw.new {p q : Addr} {H : Hp} {o : HO} {n : Nat} (d : Drw H p n) (h : H q = none) : Drw (L2.upd H q o) p n := by
  obtain ⟨a, b, c, e, r⟩ := d
  exact ⟨a, b, c, by rw [upd_ne (ne_of_none e h)]; exact e, r⟩
theorem Drw.mono {p : Addr} {H : Hp} {n m : Nat} (d : Drw H p n) (h : n ≤ m) : Drw H p m := by
  obtain ⟨a, b, c, e, r1, r2⟩ := d
  exact ⟨a, b, c, e, r1, by omega⟩
def spMix : Sp := fun vs H Q _ => ∃ c k : Int, vs = [.int c, .int k] ∧ 0 ≤ k ∧ k < 2 ^ 40 ∧ ∀ r : Int, Q (.int r) H
def spBegun : Sp := fun vs H Q _ => ∃ c : Int, vs = [.int c] ∧ ∀ p H', H p = none → Same H H' → Drw H' p 1 → Q (.ref p) H'
def spTake : Sp := fun vs H Q _ => ∃ (p : Addr) (m : Int) (n : Nat), vs = [.ref p, .int m] ∧ 0 < m ∧ m < 1073741824 ∧ Drw H p n ∧ n ≤ 1000000 ∧ ∀ (r : Int) H', 0 ≤ r → r < m → But p H H' → Drw H' p (n + 2) → Q (.int r) H'
theorem cmul_l {x y : Int} (h1 : -(2 ^ 64) < x) (h2 : x < 2 ^ 64) : CMul x y := .inl ⟨h1, h2⟩
theorem cmul_r {x y : Int} (h1 : -(2 ^ 64) < y) (h2 : y < 2 ^ 64) : CMul x y := .inr ⟨h1, h2⟩
theorem scMix : FnScope ["_law_cell", "_law_k", "_law_x"] ["_law_cell", "_law_k"] (defScope sMix) := ⟨rfl, rfl, rfl, by decide +kernel, rfl, by decide +kernel, by decide +kernel⟩
theorem ok_mix {f : Addr} {fd : FuncData} (F : Fun K "_law_mix" "_law_mix" sMix f fd) : FnOk P w K mg base CX0 1 f fd ["_law_cell", "_law_k"] spMix := by
  refine F.ok scMix (fun vs H Q E h => ?_) (fun cdv A outer s H vs Q E hr h => ?_)
  · obtain ⟨a, b, rfl, _⟩ := h
    rfl
  · obtain ⟨c, k, rfl, h0, h1, q⟩ := h
    refine ⟨_, pss_cons (ps_set (i := 2) scMix.nd rfl (Or.inl rfl) (pe_op op_mod (pe_op op_add (pe_op op_mod (pv 0) pe_int) (pe_op op_mul pe_int (pv 1))) pe_int))
      (pss_cons (ps_set (i := 2) scMix.nd rfl (Or.inl rfl) (pe_op op_mod (pe_op op_add (pe_op op_add (pe_op op_add (pe_op op_mul (pv 2) (pv 2)) (pe_op op_mul pe_int (pv 2))) (pe_op op_mul (pe_op op_mul (pv 1) (pv 1)) (pv 1))) pe_int) pe_int))
      (pss_one (ps_ret (pe_op op_mod (pe_op op_mul (pv 2) (pv 2)) pe_int)))), ?_⟩
    refine ⟨_, rfl, _, _, rfl, rfl, (by show (0 : Int) < 2147483647; decide), _, rfl, _, _, rfl, rfl, cmul_l (by decide) (by decide), _, _, rfl, rfl, _, _, rfl, rfl, (by show (0 : Int) < 2147483629; decide), ?_⟩
    have b1 := Int.emod_nonneg (c % 2147483647 + 31 * k) (b := 2147483629) (by decide)
    have b2 := Int.emod_lt_of_pos (c % 2147483647 + 31 * k) (b := 2147483629) (by decide)
    generalize (c % 2147483647 + 31 * k) % 2147483629 = x at b1 b2 ⊢
    refine ⟨_, rfl, _, rfl, _, _, rfl, rfl, cmul_l (by omega) (by omega), _, rfl, _, _, rfl, rfl, cmul_l (by decide) (by decide), _, _, rfl, rfl, _, rfl, _, rfl, _, _, rfl, rfl, cmul_l (by omega) (by omega), _, rfl, _, _, rfl, rfl, cmul_r (by omega) (by omega), _, _, rfl, rfl, _, _, rfl, rfl, _, _, rfl, rfl, (by show (0 : Int) < 2147483629; decide), ?_⟩
    have c1 := Int.emod_nonneg (x * x + 16807 * x + k * k * k + 7) (b := 2147483629) (by decide)
    have c2 := Int.emod_lt_of_pos (x * x + 16807 * x + k * k * k + 7) (b := 2147483629) (by decide)
    generalize (x * x + 16807 * x + k * k * k + 7) % 2147483629 = y at c1 c2 ⊢
    refine ⟨_, rfl, _, rfl, _, _, rfl, rfl, cmul_l (by omega) (by omega), _, _, rfl, rfl, (by show (0 : Int) < 2147483587; decide), q _⟩
theorem scBegun : FnScope ["_law_cell"] ["_law_cell"] (defScope sBegun) := ⟨rfl, rfl, rfl, by decide +kernel, rfl, by decide +kernel, by decide +kernel⟩
theorem ok_begun {f : Addr} {fd : FuncData} (F : Fun K "_law_begun" "_law_begun" sBegun f fd) : FnOk P w K mg base CX0 1 f fd ["_law_cell"] spBegun := by
  refine F.ok scBegun (fun vs H Q E h => ?_) (fun cdv A outer s H vs Q E hr h => ?_)
  · obtain ⟨a, rfl, _⟩ := h
    rfl
  · obtain ⟨c, rfl, q⟩ := h
    refine ⟨_, pss_one (ps_ret (pe_lst (pa_cons (pe_op op_fdiv (pv 0) pe_int) (pa_cons (pe_op op_mod (pv 0) pe_int) (pa_cons (pv 0) pa_nil))))), ?_⟩
    refine ⟨_, rfl, _, _, rfl, rfl, ⟨by decide, by decide⟩, _, rfl, _, _, rfl, rfl, (by show (0 : Int) < 2; decide), _, rfl, (by show 3 ≤ sizeLine; decide), fun p hp => ?_⟩
    have b1 := Int.emod_nonneg c (b := 2) (by decide)
    have b2 := Int.emod_lt_of_pos c (b := 2) (by decide)
    exact q p _ hp (Same.upd hp) ⟨_, _, _, upd_same, b1, by omega⟩
theorem ix0 (a b c : V) : atI [a, b, c] 0 = some a := rfl
theorem ix1 (a b c : V) : atI [a, b, c] 1 = some b := rfl
theorem ix2 (a b c : V) : atI [a, b, c] 2 = some c := rfl
theorem scTake : FnScope ["_law_draw", "_law_most", "_law_found"] ["_law_draw", "_law_most"] (defScope sTake) := ⟨rfl, rfl, rfl, by decide +kernel, rfl, by decide +kernel, by decide +kernel⟩
theorem ok_take {f fM : Addr} {fd fdM : FuncData} (F : Fun K "_law_take" "_law_take" sTake f fd) (DM : Dn K mg "_law_mix" sMix ["_law_cell", "_law_k"] fM fdM) : FnOk P w K mg base CX0 2 f fd ["_law_draw", "_law_most"] spTake := by
  have GM : FnOk P w K mg base CX0 1 fM fdM ["_law_cell", "_law_k"] spMix := ok_mix DM.fn
  refine F.ok scTake (fun vs H Q E h => ?_) (fun cdv A outer s H vs Q E hr h => ?_)
  · obtain ⟨p, m, n, rfl, _⟩ := h
    rfl
  · obtain ⟨p, m, n, rfl, hm0, hm1, ⟨a, b, c, hp, hb0, hb1⟩, hn, q⟩ := h
    refine ⟨_, pss_cons (ps_if (PW.pt (pw_and (pt_cmpR op_eq (pe_ix ix_list (pv 0) pe_int (fun _ _ => rfl)) pe_int (nomark _)) (pw_and1 (pt_cmpR op_in_seq (pe_ix ix_list (pv 0) pe_int (fun _ _ => rfl)) (pe_lst (pa_cons pe_int (pa_cons (pe_un un_neg pe_int) pa_nil))) rfl))))
        (pss_cons (ps_asg pe_int (pg_sub (pv 0) pe_int set_list)) (pss_one (ps_asg (pe_ix ix_list (pv 0) pe_int (fun _ _ => rfl)) (pg_sub (pv 0) pe_int set_list)))) pss_nil)
      (pss_cons (ps_if (pt_cmpR op_eq (pe_ix ix_list (pv 0) pe_int (fun _ _ => rfl)) pe_int (nomark _))
        (pss_cons (ps_set (i := 2) scTake.nd rfl (Or.inl rfl) (pe_op op_mod (pe_ix ix_list (pv 0) pe_int (fun _ _ => rfl)) (pv 1)))
        (pss_cons (ps_asg (pe_op op_fdiv (pe_ix ix_list (pv 0) pe_int (fun _ _ => rfl)) (pv 1)) (pg_sub (pv 0) pe_int set_list))
        (pss_one (ps_ret (pv 2))))) pss_nil)
      (pss_cons (ps_asg (pe_op op_add (pe_ix ix_list (pv 0) pe_int (fun _ _ => rfl)) pe_int) (pg_sub (pv 0) pe_int set_list))
      (pss_one (ps_ret (pe_op op_mod (pe_fn DM GM hr rfl (pa_cons (pe_ix ix_list (pv 0) pe_int (fun _ _ => rfl)) (pa_cons (pe_ix ix_list (pv 0) pe_int (fun _ _ => rfl)) pa_nil))) (pv 1)))))), ?_⟩
    have hc0 : ∀ (H1 : Hp) (a1 b1 : Int), But p H H1 → H1 p = some (.lst [.int a1, .int b1, .int c]) → 0 ≤ b1 → b1 ≤ (n : Int) + 1 → b1 = 0 → ∀ z : Int, But p H (upd H1 p (.lst [.int z, .int b1, .int c])) ∧ Drw (upd H1 p (.lst [.int z, .int b1, .int c])) p (n + 2) := fun H1 a1 b1 hB h1 h2 h3 _ z =>
      ⟨hB.trans But.upd, z, b1, c, upd_same, h2, by omega⟩
    refine ⟨_, rfl, p, _, _, _, rfl, rfl, SqL.of hp, ix1 _ _ _, rfl, _, rfl, ?_⟩
    by_cases hb : b = 0
    · refine itDP (by rw [hb]) ?_
      refine ⟨_, rfl, p, _, _, _, rfl, rfl, SqL.of hp, ix0 _ _ _, 1, rfl, (by show 2 ≤ sizeLine; decide), fun l hl => ⟨l, _, rfl, .inl (SqL.of upd_same), rfl, rfl, _, rfl, ?_⟩⟩
      have npl : p ≠ l := ne_of_none hp hl
      have hp1 : upd H l (.lst [.int 0, .int (-1)]) p = some (.lst [.int a, .int b, .int c]) := by rw [upd_ne npl]; exact hp
      have hB1 : But p H (upd H l (.lst [.int 0, .int (-1)])) := But.new hl
      generalize upd H l (.lst [.int 0, .int (-1)]) = H1 at hp1 hB1 ⊢
      generalize inV (V.int a) [V.int 0, V.int (-1)] = t
      cases t with
      | true =>
        refine iteT ?_
        refine ⟨_, rfl, p, _, 1, 1, rfl, rfl, hp1, rfl, ?_⟩
        refine ⟨_, rfl, p, _, _, _, rfl, rfl, SqL.of upd_same, ix2 _ _ _, _, rfl, p, _, 0, 0, rfl, rfl, upd_same, rfl, ?_⟩
        rw [upd_upd]
        have hp2 : upd H1 p (.lst [.int c, .int 1, .int c]) p = some (.lst [.int c, .int 1, .int c]) := upd_same
        have hB2 : But p H (upd H1 p (.lst [.int c, .int 1, .int c])) := hB1.trans But.upd
        refine ⟨_, rfl, p, _, _, _, rfl, rfl, SqL.of hp2, ix1 _ _ _, rfl, _, rfl, ?_⟩
        refine itDN (by intro z; cases z) ?_
        refine ⟨_, rfl, p, _, _, _, rfl, rfl, SqL.of hp2, ix1 _ _ _, _, _, rfl, rfl, _, rfl, p, _, 1, 1, rfl, rfl, hp2, rfl, ?_⟩
        rw [upd_upd]
        refine ⟨_, rfl, p, _, _, _, rfl, rfl, SqL.of upd_same, ix0 _ _ _, _, rfl, p, _, _, _, rfl, rfl, SqL.of upd_same, ix1 _ _ _, _, _, rfl, (by decide), (by decide), fun r => ?_⟩
        refine ⟨_, rfl, _, _, rfl, rfl, hm0, ?_⟩
        exact q _ _ (Int.emod_nonneg _ (Int.ne_of_gt hm0)) (Int.emod_lt_of_pos _ hm0) (hB1.trans But.upd) ⟨c, 1 + 1, c, upd_same, by decide, by omega⟩
      | false =>
        refine iteF ?_
        refine ⟨_, rfl, p, _, _, _, rfl, rfl, SqL.of hp1, ix1 _ _ _, rfl, _, rfl, ?_⟩
        refine itDP (by rw [hb]) ?_
        refine ⟨_, rfl, p, _, _, _, rfl, rfl, SqL.of hp1, ix0 _ _ _, _, rfl, _, _, rfl, rfl, hm0, ?_⟩
        refine ⟨_, rfl, p, _, _, _, rfl, rfl, SqL.of hp1, ix0 _ _ _, _, rfl, _, _, rfl, rfl, ⟨hm0, hm1⟩, _, rfl, p, _, 0, 0, rfl, rfl, hp1, rfl, ?_⟩
        refine ⟨_, rfl, ?_⟩
        exact q _ _ (Int.emod_nonneg _ (Int.ne_of_gt hm0)) (Int.emod_lt_of_pos _ hm0) (hB1.trans But.upd) ⟨_, b, c, upd_same, hb0, by omega⟩
    · refine itDN (fun z => hb (V.int.inj z)) ?_
      refine iteF ?_
      refine ⟨_, rfl, p, _, _, _, rfl, rfl, SqL.of hp, ix1 _ _ _, rfl, _, rfl, ?_⟩
      refine itDN (fun z => hb (V.int.inj z)) ?_
      refine ⟨_, rfl, p, _, _, _, rfl, rfl, SqL.of hp, ix1 _ _ _, _, _, rfl, rfl, _, rfl, p, _, 1, 1, rfl, rfl, hp, rfl, ?_⟩
      refine ⟨_, rfl, p, _, _, _, rfl, rfl, SqL.of upd_same, ix0 _ _ _, _, rfl, p, _, _, _, rfl, rfl, SqL.of upd_same, ix1 _ _ _, _, _, rfl, (by omega), (by omega), fun r => ?_⟩
      refine ⟨_, rfl, _, _, rfl, rfl, hm0, ?_⟩
      exact q _ _ (Int.emod_nonneg _ (Int.ne_of_gt hm0)) (Int.emod_lt_of_pos _ hm0) But.upd ⟨a, b + 1, c, upd_same, by omega, by omega⟩
def wMax : Nat := 10 ^ 60
def spWeight : Sp := fun vs H Q _ => ∃ (p : Addr) (y : Int) (n : Nat), vs = [.ref p, .int y] ∧ Drw H p n ∧ n ≤ 900000 ∧ ∀ (r : Int) H', r.natAbs ≤ wMax → But p H H' → Drw H' p (n + 2) → Q (.int r) H'
theorem p59 : (10 : Int) ^ (59 : Int).toNat = 100000000000000000000000000000000000000000000000000000000000 := by decide
theorem p60' : (10 : Int) ^ (60 : Int).toNat = 1000000000000000000000000000000000000000000000000000000000000 := by decide
theorem pow59 : CPow 10 59 := ⟨by decide, by decide, by decide⟩
theorem pow60 : CPow 10 60 := ⟨by decide, by decide, by decide⟩
theorem scWeight : FnScope ["_law_draw", "_law_way"] ["_law_draw", "_law_way"] (defScope sWeight) := ⟨rfl, rfl, rfl, by decide +kernel, rfl, by decide +kernel, by decide +kernel⟩
theorem ok_weight {f fT : Addr} {fd fdT : FuncData} (F : Fun K "_law_weight" "_law_weight" sWeight f fd) (DT : Dn K mg "_law_take" sTake ["_law_draw", "_law_most"] fT fdT) (GT : FnOk P w K mg base CX0 2 fT fdT ["_law_draw", "_law_most"] spTake) : FnOk P w K mg base CX0 3 f fd ["_law_draw", "_law_way"] spWeight := by
  refine F.ok scWeight (fun vs H Q E h => ?_) (fun cdv A outer s H vs Q E hr h => ?_)
  · obtain ⟨p, y, n, rfl, _⟩ := h
    rfl
  · obtain ⟨p, y, n, rfl, hd, hn, q⟩ := h
    refine ⟨_, pss_cons (ps_if (pt_cmpR op_eq (pv 1) pe_int (nomark _)) (pss_one (ps_ret (pe_fn DT GT hr rfl (pa_cons (pv 0) (pa_cons pe_int pa_nil))))) pss_nil)
      (pss_cons (ps_if (pt_cmpR op_eq (pv 1) pe_int (nomark _)) (pss_one (ps_ret (pe_op op_sub (pe_fn DT GT hr rfl (pa_cons (pv 0) (pa_cons pe_int pa_nil))) pe_int))) pss_nil)
      (pss_one (ps_ret (pe_ix ix_list (pe_lst (pa_cons pe_int (pa_cons pe_int (pa_cons (pe_un un_neg pe_int) (pa_cons pe_int (pa_cons (pe_op op_add (pe_op op_pow pe_int pe_int) pe_int) (pa_cons (pe_un un_neg (pe_op op_sub (pe_op op_pow pe_int pe_int) pe_int)) (pa_cons pe_int (pa_cons (pe_un un_neg pe_int) pa_nil)))))))))
        (pe_fn DT GT hr rfl (pa_cons (pv 0) (pa_cons pe_int pa_nil))) (fun _ _ => rfl))))), ?_⟩
    refine ⟨_, rfl, rfl, _, rfl, ?_⟩
    refine ite2 (fun _ => ?_) (fun _ => ?_)
    · exact ⟨_, rfl, p, 2, n, rfl, by decide, by decide, hd, by omega, fun r H' h0 h1 hB hD => q r H' (by unfold wMax; omega) hB hD⟩
    · refine ⟨_, rfl, rfl, _, rfl, ?_⟩
      refine ite2 (fun _ => ?_) (fun _ => ?_)
      · exact ⟨_, rfl, p, 5, n, rfl, by decide, by decide, hd, by omega, fun r H' h0 h1 hB hD => ⟨_, _, rfl, rfl, q _ H' (by unfold wMax; omega) hB hD⟩⟩
      · refine ⟨1, rfl, _, _, rfl, rfl, pow59, _, _, rfl, rfl, _, _, rfl, rfl, pow60, _, _, rfl, rfl, _, rfl, 3, rfl, (by show 8 ≤ sizeLine; decide), fun l hl => ?_⟩
        refine ⟨_, rfl, p, 8, n, rfl, by decide, by decide, hd.new hl, by omega, fun r H' h0 h1 hB hD => ?_⟩
        have hl' : H' l = some (.lst [.int 0, .int 1, .int (-1), .int 7, .int (10 ^ (59 : Int).toNat + 3), .int (-(10 ^ (60 : Int).toNat - 1)), .int 2, .int (-3)]) := hB l _ (by
          obtain ⟨a, b, c, e, _⟩ := hd
          exact (ne_of_none e hl).symm) upd_same
        obtain ⟨j, rfl⟩ := Int.eq_ofNat_of_zero_le h0
        have hj : j < 8 := by omega
        obtain ⟨v, hv, hw⟩ : ∃ v : Int, [V.int 0, .int 1, .int (-1), .int 7, .int (10 ^ (59 : Int).toNat + 3), .int (-(10 ^ (60 : Int).toNat - 1)), .int 2, .int (-3)][j]? = some (.int v) ∧ v.natAbs ≤ wMax := by
          rw [p59, p60']
          unfold wMax
          match j, hj with
          | 0, _ => exact ⟨_, rfl, by decide⟩
          | 1, _ => exact ⟨_, rfl, by decide⟩
          | 2, _ => exact ⟨_, rfl, by decide⟩
          | 3, _ => exact ⟨_, rfl, by decide⟩
          | 4, _ => exact ⟨_, rfl, by decide⟩
          | 5, _ => exact ⟨_, rfl, by decide⟩
          | 6, _ => exact ⟨_, rfl, by decide⟩
          | 7, _ => exact ⟨_, rfl, by decide⟩
        refine ⟨l, _, _, .int v, rfl, rfl, SqL.of hl', atI_nat hv, ?_⟩
        exact q v H' hw ((But.new hl).trans hB) hD
end
section
variable {P : Program} {w : World} {K : PySem.W.Frag} {mg : Str → Option Value} {base : Heap}
structure RowsAt (H : Hp) (rs : List Addr) (M : List (List Int)) : Prop where
  len : rs.length = M.length
  row : ∀ (i : Nat) (r : Addr) (x : List Int), rs[i]? = some r → M[i]? = some x → H r = some (.lst (x.map V.int))
  nd : rs.Nodup
def ent (M : List (List Int)) (i j : Nat) : Int := ((M[i]?.getD [])[j]?).getD 0
structure Sq (n : Nat) (M : List (List Int)) : Prop where
  len : M.length = n
  row : ∀ (i : Nat) (x : List Int), M[i]? = some x → x.length = n ∧ ∀ z ∈ x, z.natAbs ≤ wMax
  sym : ∀ i j : Nat, i < n → j < n → ent M i j = ent M j i
def put (M : List (List Int)) (i j : Nat) (z : Int) : List (List Int) := M.set i ((M[i]?.getD []).set j z)
theorem ent_put (M : List (List Int)) (n i j a b : Nat) (z : Int) (hl : M.length = n) (hr : ∀ (i : Nat) (x : List Int), M[i]? = some x → x.length = n) (hi : i < n) (hj : j < n) : ent (put M i j z) a b = if a = i ∧ b = j then z else ent M a b := by
  unfold ent put
  by_cases ha : a = i
  · subst ha
    rw [List.getElem?_set_self (by omega)]
    have hx : ∃ x, M[a]? = some x := ⟨M[a]'(by omega), by simp [hl, hi]⟩
    obtain ⟨x, hx⟩ := hx
    have lx := hr a x hx
    rw [hx]
    simp only [Option.getD_some]
    by_cases hb : b = j
    · subst hb
      rw [List.getElem?_set_self (by omega)]
      simp
    · rw [List.getElem?_set_ne (Ne.symm hb), if_neg (fun z => hb z.2)]
  · rw [List.getElem?_set_ne (Ne.symm ha), if_neg (fun z => ha z.1)]
theorem put_row {M : List (List Int)} {n i j : Nat} {z : Int} (hl : M.length = n) (hz : z.natAbs ≤ wMax) (hr : ∀ (i : Nat) (x : List Int), M[i]? = some x → x.length = n ∧ ∀ z ∈ x, z.natAbs ≤ wMax) :
    (put M i j z).length = n ∧ ∀ (k : Nat) (x : List Int), (put M i j z)[k]? = some x → x.length = n ∧ ∀ z ∈ x, z.natAbs ≤ wMax := by
  unfold put
  refine ⟨by rw [List.length_set]; exact hl, fun k x hx => ?_⟩
  by_cases hk : k = i
  · subst hk
    by_cases hlt : k < M.length
    · rw [List.getElem?_set_self hlt] at hx
      have hx := Option.some.inj hx
      have hy : M[k]? = some M[k] := by simp [hlt]
      have hh := hr k _ hy
      subst hx
      rw [hy]
      simp only [Option.getD_some, List.length_set]
      refine ⟨hh.1, fun y hy' => ?_⟩
      rcases List.mem_or_eq_of_mem_set hy' with q | q
      · exact hh.2 y q
      · rw [q]; exact hz
    · rw [List.getElem?_eq_none (by rw [List.length_set]; omega)] at hx
      cases hx
  · rw [List.getElem?_set_ne (Ne.symm hk)] at hx
    exact hr k x hx
theorem Sq.put {n : Nat} {M : List (List Int)} (S : Sq n M) {i j : Nat} {z : Int} (hi : i < n) (hj : j < n) (hz : z.natAbs ≤ wMax) : Sq n (put (put M i j z) j i z) := by
  obtain ⟨l1, r1⟩ := put_row (i := i) (j := j) S.len hz S.row
  obtain ⟨l2, r2⟩ := put_row (i := j) (j := i) l1 hz r1
  refine ⟨l2, r2, fun a b ha hb => ?_⟩
  have hr := fun (i : Nat) (x : List Int) h => (S.row i x h).1
  have hr1 := fun (k : Nat) (x : List Int) h => (r1 k x h).1
  rw [ent_put _ n j i a b z l1 hr1 hj hi, ent_put _ n j i b a z l1 hr1 hj hi, ent_put _ n i j a b z S.len hr hi hj, ent_put _ n i j b a z S.len hr hi hj]
  have := S.sym a b ha hb
  by_cases h1 : a = j ∧ b = i
  · rw [if_pos h1]
    by_cases h2 : b = j ∧ a = i
    · rw [if_pos h2]
    · rw [if_neg h2, if_pos ⟨h1.2, h1.1⟩]
  · rw [if_neg h1]
    by_cases h2 : a = i ∧ b = j
    · rw [if_pos h2, if_pos ⟨h2.2, h2.1⟩]
    · rw [if_neg h2, if_neg (fun q => h2 ⟨q.2, q.1⟩), if_neg (fun q => h1 ⟨q.2, q.1⟩)]
      exact this
theorem RowsAt.put {H : Hp} {rs : List Addr} {M : List (List Int)} (R : RowsAt H rs M) {i : Nat} {r : Addr} {x : List Int} {j : Nat} {z : Int} (hr : rs[i]? = some r) (hx : M[i]? = some x) :
    RowsAt (upd H r (.lst ((x.set j z).map V.int))) rs (put M i j z) := by
  unfold My.put
  refine ⟨by rw [List.length_set]; exact R.len, fun k r' x' h1 h2 => ?_, R.nd⟩
  by_cases hk : k = i
  · subst hk
    rw [hr] at h1; cases h1
    rw [List.getElem?_set_self (List.getElem?_eq_some_iff.mp hx).1, hx] at h2
    cases h2
    exact upd_same
  · rw [List.getElem?_set_ne (Ne.symm hk)] at h2
    have ne : r' ≠ r := fun e => by
      subst e
      obtain ⟨p1, q1⟩ := List.getElem?_eq_some_iff.mp h1
      obtain ⟨p2, q2⟩ := List.getElem?_eq_some_iff.mp hr
      exact hk ((List.getElem_inj R.nd).mp (q1.trans q2.symm))
    rw [upd_ne ne]
    exact R.row k r' x' h1 h2
theorem RowsAt.keep {H H' : Hp} {rs : List Addr} {M : List (List Int)} (R : RowsAt H rs M) (k : ∀ r ∈ rs, ∀ o, H r = some o → H' r = some o) : RowsAt H' rs M :=
  ⟨R.len, fun i r x h1 h2 => k r (List.mem_of_getElem? h1) _ (R.row i r x h1 h2), R.nd⟩
theorem But.updN {d a : Addr} {H H' : Hp} {o : HO} (c : But d H H') (h : H a = none) : But d H (L2.upd H' a o) := fun b u n e => by
  rw [upd_ne (ne_of_none e h)]
  exact c b u n e
theorem Drw.updN {d a : Addr} {H : Hp} {o : HO} {n : Nat} (D : Drw H d n) (h : a ≠ d) : Drw (L2.upd H a o) d n := by
  obtain ⟨x, y, z, e, r⟩ := D
  exact ⟨x, y, z, by rw [upd_ne h.symm]; exact e, r⟩
theorem RowsAt.snoc {H H' : Hp} {rs : List Addr} {M : List (List Int)} {l : Addr} {x : List Int} (R : RowsAt H rs M) (k : ∀ r ∈ rs, ∀ o, H r = some o → H' r = some o) (hl : H' l = some (.lst (x.map V.int))) (hn : l ∉ rs) : RowsAt H' (rs ++ [l]) (M ++ [x]) := by
  refine ⟨by rw [List.length_append, List.length_append, R.len]; rfl, fun i r y h1 h2 => ?_, ?_⟩
  · by_cases hi : i < rs.length
    · rw [List.getElem?_append_left hi] at h1
      rw [List.getElem?_append_left (by rw [← R.len]; exact hi)] at h2
      exact k r (List.mem_of_getElem? h1) _ (R.row i r y h1 h2)
    · rw [List.getElem?_append_right (by omega)] at h1
      rw [List.getElem?_append_right (by rw [← R.len]; omega), ← R.len] at h2
      cases e : i - rs.length with
      | zero => rw [e] at h1 h2; cases h1; cases h2; exact hl
      | succ j => rw [e] at h1; cases h1
  · rw [List.nodup_append]
    refine ⟨R.nd, by simp, fun a ha b hb e => ?_⟩
    rw [List.mem_singleton.mp hb] at e
    exact hn (e ▸ ha)
theorem RowsAt.get {H : Hp} {rs : List Addr} {M : List (List Int)} (R : RowsAt H rs M) {i : Nat} (h : i < rs.length) : ∃ r x, rs[i]? = some r ∧ M[i]? = some x ∧ H r = some (.lst (x.map V.int)) := by
  have h1 : rs[i]? = some rs[i] := by simp [h]
  have h' : i < M.length := by rw [← R.len]; exact h
  have h2 : M[i]? = some M[i] := by simp [h']
  exact ⟨_, _, h1, h2, R.row i _ _ h1 h2⟩
theorem ixN_nat {n j : Nat} (h : j < n) : ixN n (j : Int) = some j := by
  unfold ixN
  rw [if_pos (by omega), if_pos (by omega)]
  simp
structure WebAt (H : Hp) (p hA rA : Addr) (rs : List Addr) (n : Nat) (hs : List Int) (M : List (List Int)) : Prop where
  tup : H p = some (.tup [.ref hA, .ref rA])
  hue : H hA = some (.lst (hs.map V.int))
  rws : H rA = some (.lst (rs.map V.ref))
  row : RowsAt H rs M
  len : hs.length = n
  pos : ∀ z ∈ hs, 0 ≤ z ∧ z.natAbs ≤ wMax
  sq : Sq n M
def spWeb : Sp := fun vs H Q _ => ∃ (d : Addr) (m : Int) (n : Nat), vs = [.ref d, .int m] ∧ 0 ≤ m ∧ m ≤ 8 ∧ Drw H d n ∧ n ≤ 800000 ∧
  ∀ (H' : Hp) (p hA rA : Addr) (rs : List Addr) (k : Nat) (hs : List Int) (M : List (List Int)), (k : Int) ≤ m → But d H H' → Drw H' d (n + 200) → WebAt H' p hA rA rs k hs M → (∀ a ∈ p :: hA :: rA :: rs, H a = none ∧ a ≠ d) → hA ≠ rA → hA ∉ rs → rA ∉ rs → Q (.ref p) H'
def bodyAt (s : Stmt) (i : Nat) : Stmt := (defBody s).getD i (.Pass ⟨0, 0, 0, 0⟩)
def asgVal (s : Stmt) : Expr := match s with
  | .Assign _ v _ => v
  | .Return (some v) _ => v
  | _ => .Constant .none 0 ⟨0, 0, 0, 0⟩
def lcScope (e : Expr) : Scope := match e with
  | .ListComp _ _ sc _ => sc
  | _ => { kind := .function, names := [], isGenerator := false, isCoroutine := false }
structure BltW (mg : Str → Option Value) : Prop where
  range : mg "range" = none
  int : mg "int" = none
abbrev nWeb : List Str := ["_law_draw", "_law_most", "_law_many", "_law_way", "_law_hues", "_law_u", "_law_rows", "_law_v", "_law_weight_here"]
theorem scWeb : FnScope nWeb ["_law_draw", "_law_most"] (defScope sWeb) := ⟨rfl, rfl, rfl, by decide +kernel, rfl, by decide +kernel, by decide +kernel⟩
theorem lcWeb : LcScopes (defScope sWeb) nWeb (lcScope (asgVal (bodyAt sWeb 4))) ["_law_u"] := ⟨by decide +kernel, rfl, by decide +kernel, by decide +kernel, by decide +kernel, by decide +kernel, by decide +kernel, by decide +kernel, by decide +kernel, by decide +kernel⟩
theorem zeros_map (k : Nat) : (List.replicate k [V.int 0]).flatten = (List.replicate k (0 : Int)).map V.int := by
  induction k with
  | zero => rfl
  | succ k ih => rw [List.replicate_succ, List.flatten_cons, ih, List.replicate_succ, List.map_cons]; rfl
theorem sq_zero (n : Nat) : Sq n (List.replicate n (List.replicate n 0)) := by
  refine ⟨List.length_replicate, fun i x hx => ?_, fun i j hi hj => ?_⟩
  · rw [List.getElem?_replicate] at hx
    split at hx
    · cases hx
      refine ⟨List.length_replicate, fun z hz => ?_⟩
      rw [List.eq_of_mem_replicate hz]
      exact Nat.zero_le _
    · cases hx
  · unfold ent
    rw [List.getElem?_replicate, List.getElem?_replicate, if_pos hi, if_pos hj]
    simp only [Option.getD_some, List.getElem?_replicate, if_pos hi, if_pos hj]
theorem hues4 (r : Nat) (h : r < 4) : ∃ v : Int, [V.int 0, .int 1, .int 7, .int (10 ^ (60 : Int).toNat - 1)][r]? = some (.int v) ∧ 0 ≤ v ∧ v.natAbs ≤ wMax := by
  rw [p60']
  unfold wMax
  match r, h with
  | 0, _ => exact ⟨_, rfl, by decide, by decide⟩
  | 1, _ => exact ⟨_, rfl, by decide, by decide⟩
  | 2, _ => exact ⟨_, rfl, by decide, by decide⟩
  | 3, _ => exact ⟨_, rfl, by decide, by decide⟩
theorem ok_web {f fT fW : Addr} {fd fdT fdW : FuncData} (B : BltW mg) (F : Fun K "_law_web" "_law_web" sWeb f fd) (DT : Dn K mg "_law_take" sTake ["_law_draw", "_law_most"] fT fdT) (GT : FnOk P w K mg base CX0 2 fT fdT ["_law_draw", "_law_most"] spTake)
    (DW : Dn K mg "_law_weight" sWeight ["_law_draw", "_law_way"] fW fdW) (GW : FnOk P w K mg base CX0 3 fW fdW ["_law_draw", "_law_way"] spWeight) : FnOk P w K mg base CX0 4 f fd ["_law_draw", "_law_most"] spWeb := by
  refine F.ok scWeb (fun vs H Q E h => ?_) (fun cdv A outer s H vs Q E hr h => ?_)
  · obtain ⟨d, m, n, rfl, _⟩ := h
    rfl
  · obtain ⟨d, m, n, rfl, hm0, hm1, hd, hn, q⟩ := h
    refine ⟨_, pss_cons (ps_set (i := 2) scWeb.nd rfl (Or.inr rfl) (pe_fn DT GT (hr.mono (by decide)) rfl (pa_cons (pv 0) (pa_cons (pe_op op_add (pv 1) pe_int) pa_nil))))
      (pss_cons (ps_set (i := 3) scWeb.nd rfl (Or.inl rfl) (pe_fn DT GT (hr.mono (by decide)) rfl (pa_cons (pv 0) (pa_cons pe_int pa_nil))))
      (pss_cons (ps_set (i := 4) scWeb.nd rfl (Or.inl rfl) (pe_lst pa_nil))
      (pss_cons (ps_for PassesOwn.never rfl (pi_range1 rfl B.range (pa_cons (pv 2) pa_nil)) (pg_name (i := 5) scWeb.nd rfl (Or.inl rfl))
        (pss_one (ps_expr (pe_bm PySem.F.plainAttrs_list PySem.F.slot_list_append PySem.F.type_list_append mt_append (pv 4) (pa_cons (pe_ix ix_list (pe_lst (pa_cons pe_int (pa_cons pe_int (pa_cons pe_int (pa_cons (pe_op op_sub (pe_op op_pow pe_int pe_int) pe_int) pa_nil)))))
          (pe_fn DT GT (hr.mono (by decide)) rfl (pa_cons (pv 0) (pa_cons (pe_op op_add pe_int (pe_op op_mul pe_int (pe_callTy call_int1 (by rfl) B.int boot_int (pa_cons (pe_cmpR op_eq (pv 3) pe_int (nomark _)) pa_nil)))) pa_nil))) (fun _ _ => rfl)) pa_nil)))))
      (pss_cons (ps_setLc1 (i := 6) scWeb.nd rfl (Or.inl rfl) rfl lcWeb rfl (pi_range1 rfl B.range (pa_cons (pv 2) pa_nil)) (fun _ _ _ => pe_op op_rep (pe_lst (pa_cons pe_int pa_nil)) (pv 2)))
      (pss_cons (ps_for PassesOwn.never rfl (pi_range1 rfl B.range (pa_cons (pv 2) pa_nil)) (pg_name (i := 5) scWeb.nd rfl (Or.inl rfl))
        (pss_one (ps_for PassesOwn.never rfl (pi_range1 rfl B.range (pa_cons (pe_op op_add (pv 5) pe_int) pa_nil)) (pg_name (i := 7) scWeb.nd rfl (Or.inl rfl))
          (pss_cons (ps_set (i := 8) scWeb.nd rfl (Or.inl rfl) (pe_fn DW GW hr rfl (pa_cons (pv 0) (pa_cons (pv 3) pa_nil))))
          (pss_cons (ps_asg (pv 8) (pg_sub (pe_ix ix_list (pv 6) (pv 5) (fun _ _ => rfl)) (pv 7) set_list))
          (pss_one (ps_asg (pv 8) (pg_sub (pe_ix ix_list (pv 6) (pv 7) (fun _ _ => rfl)) (pv 5) set_list))))))))
      (pss_one (ps_ret (pe_tup (pa_cons (pv 4) (pa_cons (pv 6) pa_nil)))))))))), ?_⟩
    refine ⟨_, rfl, _, rfl, _, _, rfl, rfl, d, m + 1, n, rfl, by omega, by omega, hd, by omega, fun k H1 k0 k1 hB1 hD1 => ?_⟩
    refine ⟨_, rfl, d, 3, n + 2, rfl, by decide, by decide, hD1, by omega, fun y H2 y0 y1 hB2 hD2 => ?_⟩
    obtain ⟨k, rfl⟩ := Int.eq_ofNat_of_zero_le k0
    have hk : (k : Int) ≤ m := by omega
    refine ⟨Nat.zero_le _, fun hA hhA => ?_⟩
    have c2 := hB1.trans hB2
    have nd1 : ∀ {a : Addr} {Hx : Hp} {j : Nat}, Drw Hx d j → Hx a = none → a ≠ d := fun {a Hx j} D h e => by
      obtain ⟨_, _, _, e', _⟩ := D
      rw [e, e'] at h
      cases h
    have old : ∀ {a : Addr} {Hx : Hp}, But d H Hx → a ≠ d → Hx a = none → H a = none := fun {a Hx} hB hne h => by
      cases e : H a with
      | none => rfl
      | some o => rw [hB a o hne e] at h; cases h
    have hAd := nd1 hD2 hhA
    have hA0 := old c2 hAd hhA
    refine ⟨_, rfl, (k : Int), rfl, by omega, by omega, for_range (n := k) (fun i σ H' => ∃ (o5 : Option V) (hs : List Int), σ = [some (.ref d), some (.int m), some (.int (k : Int)), some (.int y), some (.ref hA), o5, none, none, none] ∧ But d H H' ∧ Drw H' d (n + 4 + 2 * i) ∧
      H' hA = some (.lst (hs.map V.int)) ∧ hs.length = i ∧ ∀ z ∈ hs, 0 ≤ z ∧ z.natAbs ≤ wMax) ⟨none, [], rfl, c2.trans (But.new hhA), hD2.new hhA, upd_same, rfl, fun z hz => by cases hz⟩ ?_ ?_⟩
    · rintro i σ H3 hi ⟨o5, hs, rfl, c3, hD3, e3, l3, p3⟩
      refine ⟨_, rfl, .inl ⟨rfl, _, SqL.of e3⟩, _, _, rfl, rfl, pow60, _, _, rfl, rfl, (by show 4 ≤ sizeLine; decide), fun l hl => ?_⟩
      have nld := nd1 hD3 hl
      have nlA : hA ≠ l := ne_of_none e3 hl
      refine ⟨_, rfl, _, rfl, rfl, .inr ⟨_, rfl, _, _, rfl, rfl, cmul_l (by decide) (by decide), _, _, rfl, rfl, d, _, n + 4 + 2 * i, rfl, by split <;> decide, by split <;> decide, hD3.new hl, by omega, fun r H4 r0 r1 hB4 hD4 => ?_⟩⟩
      obtain ⟨r, rfl⟩ := Int.eq_ofNat_of_zero_le r0
      have hr4 : r < 4 := by
        have : (r : Int) < 4 := Int.lt_of_lt_of_le r1 (by split <;> decide)
        omega
      obtain ⟨v, hv, v0, v1⟩ := hues4 r hr4
      have el : H4 l = some (.lst [V.int 0, .int 1, .int 7, .int (10 ^ (60 : Int).toNat - 1)]) := hB4 l _ nld upd_same
      have eA : H4 hA = some (.lst (hs.map V.int)) := hB4 hA _ hAd (by rw [upd_ne nlA]; exact e3)
      refine ⟨l, _, _, .int v, rfl, rfl, SqL.of el, atI_nat hv, ?_⟩
      refine ⟨hA, _, _, rfl, rfl, eA, small1000 (by rw [List.length_map]; omega), ?_⟩
      refine ⟨_, hs ++ [v], rfl, (c3.trans ((But.new hl).trans hB4)).updN hA0, (hD4.mono (by omega)).updN hAd, by rw [List.map_append]; exact upd_same, by rw [List.length_append, l3]; rfl, fun z hz => ?_⟩
      rcases List.mem_append.mp hz with z1 | z1
      · exact p3 z z1
      · rw [List.mem_singleton.mp z1]; exact ⟨v0, v1⟩
    · rintro σ H3 ⟨o5, hs, rfl, c3, hD3, e3, l3, p3⟩
      refine ⟨_, rfl, (k : Int), rfl, by omega, by omega, fun D hDn => ?_⟩
      have hDd := nd1 hD3 hDn
      have hD0 := old c3 hDd hDn
      have nDA : hA ≠ D := ne_of_none e3 hDn
      refine ⟨fun i mm ys H' => mm = k - i ∧ i ≤ k ∧ ∃ rs : List Addr, ys = rs.map V.ref ∧ rs.length = i ∧ But d H H' ∧ Drw H' d (n + 4 + 2 * k) ∧ H' hA = some (.lst (hs.map V.int)) ∧ H' D = some (.lst ys) ∧
        RowsAt H' rs (List.replicate i (List.replicate k 0)) ∧ ∀ r ∈ rs, H r = none ∧ r ≠ d ∧ r ≠ hA ∧ r ≠ D, ⟨k, by simp, Nat.zero_le _, [], rfl, rfl, c3.updN hD0, hD3.updN hDd, by rw [upd_ne nDA]; exact e3, upd_same, ⟨rfl, (fun i r x h _ => by cases h), List.nodup_nil⟩, (fun r hr => by cases hr)⟩, ?_⟩
      rintro i mm ys H4 ⟨rfl, hi, rs, rfl, l4, c4, hD4, e4, eD, R4, o4⟩
      refine ⟨eD, ?_⟩
      by_cases hlt : i < k
      · refine .inr ⟨hlt, ?_⟩
        rintro z H5 ⟨eH, rfl⟩
        have eH := eH.symm
        subst eH
        refine ⟨(by show 1 ≤ sizeLine; decide), fun l1 hl1 => ?_⟩
        refine ⟨_, rfl, l1, (k : Int), _, rfl, rfl, upd_same, by omega, by omega, Nat.le_of_lt (small1000 (by show 1 * (k : Int).toNat ≤ 1000; omega)), fun l2 hl2 => ?_⟩
        have n21 : l2 ≠ l1 := (ne_of_none upd_same hl2).symm
        have hl2' : H4 l2 = none := by rw [upd_ne n21] at hl2; exact hl2
        have sm : Same H4 (upd (upd H4 l1 (.lst [.int 0])) l2 (.lst (List.replicate (k : Int).toNat [V.int 0]).flatten)) := (Same.upd hl1).trans (Same.upd hl2)
        have el : upd (upd H4 l1 (.lst [.int 0])) l2 (.lst (List.replicate (k : Int).toNat [V.int 0]).flatten) l2 = some (.lst ((List.replicate k (0 : Int)).map V.int)) := by
          rw [upd_same, Int.toNat_natCast, zeros_map]
        have cx : But d H (upd (upd H4 l1 (.lst [.int 0])) l2 (.lst (List.replicate (k : Int).toNat [V.int 0]).flatten)) := fun b o nb e => sm b o (c4 b o nb e)
        have dx : Drw (upd (upd H4 l1 (.lst [.int 0])) l2 (.lst (List.replicate (k : Int).toNat [V.int 0]).flatten)) d (n + 4 + 2 * k) := (hD4.new hl1).new hl2
        generalize upd (upd H4 l1 (.lst [.int 0])) l2 (.lst (List.replicate (k : Int).toNat [V.int 0]).flatten) = H5 at sm el cx dx ⊢
        have l2d : l2 ≠ d := nd1 hD4 hl2'
        have l2A : l2 ≠ hA := (ne_of_none e4 hl2').symm
        have l2D : l2 ≠ D := (ne_of_none eD hl2').symm
        have l2r : l2 ∉ rs := fun hm => by
          obtain ⟨j, hj, e⟩ := List.getElem_of_mem hm
          obtain ⟨r, x, g1, g2, g3⟩ := R4.get hj
          have : rs[j]? = some l2 := by rw [List.getElem?_eq_getElem hj, e]
          rw [g1] at this
          cases this
          rw [g3] at hl2'
          cases hl2'
        refine ⟨sm _ _ eD, small1000 (by rw [List.length_map]; omega), k - (i + 1), by omega, rfl, hlt, rs ++ [l2], by rw [List.map_append]; rfl, by rw [List.length_append, l4]; rfl, cx.updN hD0, dx.updN hDd, by rw [upd_ne nDA]; exact sm _ _ e4, upd_same, ?_, ?_⟩
        · have R5 : RowsAt H5 (rs ++ [l2]) (List.replicate i (List.replicate k 0) ++ [List.replicate k 0]) := R4.snoc (fun r _ o e => sm r o e) el l2r
          rw [← List.replicate_succ'] at R5
          refine R5.keep fun r hr o e => ?_
          have : r ≠ D := by
            rcases List.mem_append.mp hr with z | z
            · exact (o4 r z).2.2.2
            · rw [List.mem_singleton.mp z]; exact l2D
          rw [upd_ne this]
          exact e
        · intro r hr
          rcases List.mem_append.mp hr with z | z
          · exact o4 r z
          · rw [List.mem_singleton.mp z]
            exact ⟨old c4 l2d hl2', l2d, l2A, l2D⟩
      · have : i = k := by omega
        subst this
        refine .inl ⟨Nat.le_refl _, ?_⟩
        refine ⟨_, rfl, (i : Int), rfl, by omega, by omega, for_range (n := i) (fun u σ H' => ∃ (o5 o7 o8 : Option V) (M : List (List Int)), σ = [some (.ref d), some (.int m), some (.int (i : Int)), some (.int y), some (.ref hA), o5, some (.ref D), o7, o8] ∧ But d H H' ∧ Drw H' d (n + 4 + 2 * i + 18 * u) ∧
          H' hA = some (.lst (hs.map V.int)) ∧ H' D = some (.lst (rs.map V.ref)) ∧ RowsAt H' rs M ∧ Sq i M) ⟨_, _, _, _, rfl, c4, hD4, e4, eD, R4, sq_zero i⟩ ?_ ?_⟩
        · rintro u σ H5 hu ⟨o5, o7, o8, M, rfl, c5, hD5, e5, eD5, R5, S5⟩
          refine ⟨_, rfl, _, _, rfl, rfl, (0 + (u : Nat) : Int) + 1, rfl, by omega, by omega, ?_⟩
          have eu : ((0 + (u : Nat) : Int) + 1).toNat = u + 1 := by omega
          rw [eu]
          refine for_range (n := u + 1) (fun v σ H' => ∃ (o7 o8 : Option V) (M : List (List Int)), σ = [some (.ref d), some (.int m), some (.int (i : Int)), some (.int y), some (.ref hA), some (.int (0 + (u : Nat))), some (.ref D), o7, o8] ∧ But d H H' ∧ Drw H' d (n + 4 + 2 * i + 18 * u + 2 * v) ∧
            H' hA = some (.lst (hs.map V.int)) ∧ H' D = some (.lst (rs.map V.ref)) ∧ RowsAt H' rs M ∧ Sq i M) ⟨_, _, M, rfl, c5, hD5, e5, eD5, R5, S5⟩ ?_ ?_
          · rintro v σ H6 hv ⟨o7, o8, M, rfl, c6, hD6, e6, eD6, R6, S6⟩
            refine ⟨_, rfl, _, rfl, d, y, _, rfl, hD6, by omega, fun z H7 hz hB7 hD7 => ?_⟩
            have c7 := c6.trans hB7
            have e7 := hB7 hA _ hAd e6
            have eD7 := hB7 D _ hDd eD6
            have R7 : RowsAt H7 rs M := R6.keep fun r hr o e => hB7 r o (o4 r hr).2.1 e
            obtain ⟨ru, xu, g1, g2, g3⟩ := R7.get (i := u) (by omega)
            have hru := o4 ru (List.mem_of_getElem? g1)
            have lxu := (S6.row u xu g2).1
            have a1 : atI (rs.map V.ref) (0 + (u : Nat) : Int) = some (.ref ru) := by rw [Int.zero_add]; exact atI_nat (by rw [List.getElem?_map, g1]; rfl)
            refine ⟨_, rfl, _, rfl, _, rfl, D, _, _, _, rfl, rfl, SqL.of eD7, a1, _, rfl, ru, _, _, v, rfl, rfl, g3, by rw [Int.zero_add, List.length_map]; exact ixN_nat (by omega), ?_⟩
            rw [← List.map_set]
            have R8 := R7.put (j := v) (z := z) g1 g2
            have c8 : But d H (upd H7 ru (.lst ((xu.set v z).map V.int))) := c7.updN hru.1
            have hD8 : Drw (upd H7 ru (.lst ((xu.set v z).map V.int))) d _ := hD7.updN hru.2.1
            have e8 : upd H7 ru (.lst ((xu.set v z).map V.int)) hA = _ := (upd_ne hru.2.2.1.symm).trans e7
            have eD8 : upd H7 ru (.lst ((xu.set v z).map V.int)) D = _ := (upd_ne hru.2.2.2.symm).trans eD7
            generalize upd H7 ru (.lst ((xu.set v z).map V.int)) = H8 at R8 c8 hD8 e8 eD8 ⊢
            obtain ⟨rv, xv, k1, k2, k3⟩ := R8.get (i := v) (by omega)
            have hrv := o4 rv (List.mem_of_getElem? k1)
            have lxv := ((put_row (i := u) (j := v) S6.len hz S6.row).2 v xv k2).1
            have a2 : atI (rs.map V.ref) (0 + (v : Nat) : Int) = some (.ref rv) := by rw [Int.zero_add]; exact atI_nat (by rw [List.getElem?_map, k1]; rfl)
            refine ⟨_, rfl, _, rfl, _, rfl, D, _, _, _, rfl, rfl, SqL.of eD8, a2, _, rfl, rv, _, _, u, rfl, rfl, k3, by rw [Int.zero_add, List.length_map]; exact ixN_nat (by omega), ?_⟩
            rw [← List.map_set]
            exact ⟨_, _, _, rfl, c8.updN hrv.1, (hD8.mono (by omega)).updN hrv.2.1, (upd_ne hrv.2.2.1.symm).trans e8, (upd_ne hrv.2.2.2.symm).trans eD8, R8.put (j := u) (z := z) k1 k2, S6.put (by omega) (by omega) hz⟩
          · rintro σ H6 ⟨o7, o8, M, rfl, c6, hD6, e6, eD6, R6, S6⟩
            exact ⟨_, _, _, M, rfl, c6, hD6.mono (by omega), e6, eD6, R6, S6⟩
        · rintro σ H5 ⟨o5, o7, o8, M, rfl, c5, hD5, e5, eD5, R5, S5⟩
          refine ⟨_, rfl, _, rfl, (by show 2 ≤ sizeLine; decide), fun p hp => ?_⟩
          have npd := nd1 hD5 hp
          have np := fun {a : Addr} {o : HO} (e : H5 a = some o) => ne_of_none e hp
          have R6 : RowsAt (upd H5 p (.tup [.ref hA, .ref D])) rs M := R5.keep fun r hr o e => by rw [upd_ne (np e)]; exact e
          refine q _ p hA D rs i hs M hk (c5.trans (But.new hp)) ((hD5.new hp).mono (by omega)) ⟨upd_same, by rw [upd_ne (np e5)]; exact e5, by rw [upd_ne (np eD5)]; exact eD5, R6, l3, p3, S5⟩ ?_ nDA (fun z => (o4 _ z).2.2.1 rfl) (fun z => (o4 _ z).2.2.2 rfl)
          intro a ha
          rcases List.mem_cons.mp ha with rfl | ha
          · exact ⟨old c5 npd hp, npd⟩
          · rcases List.mem_cons.mp ha with rfl | ha
            · exact ⟨hA0, hAd⟩
            · rcases List.mem_cons.mp ha with rfl | ha
              · exact ⟨hD0, hDd⟩
              · exact ⟨(o4 a ha).1, (o4 a ha).2.1⟩
end
section
variable {P : Program} {w : World} {K : PySem.W.Frag} {mg : Str → Option Value} {base : Heap}
def dI (ns : List Int) : PyData := .list (ns.map .int)
theorem lay_ints : ∀ ns : List Int, PyData.canLayAll0 (ns.map .int) = true ∧ PyData.depthAll (ns.map .int) = 0
  | [] => ⟨rfl, rfl⟩
  | n :: ns => by
    obtain ⟨h1, h2⟩ := lay_ints ns
    refine ⟨?_, ?_⟩
    · rw [List.map_cons]
      simp only [PyData.canLayAll0, PyData.canLay0, h1, Bool.and_self]
    · rw [List.map_cons]
      simp only [PyData.depthAll, PyData.depth, h2, Nat.max_self]
theorem lay_dI (ns : List Int) : (dI ns).canLay0 = true ∧ (dI ns).depth ≤ 1 := by
  obtain ⟨h1, h2⟩ := lay_ints ns
  unfold dI
  exact ⟨by simp only [PyData.canLay0, h1], by simp only [PyData.depth, h2]; exact Nat.le_refl _⟩
theorem das_ints {ok : Addr → Prop} {H : Hp} : ∀ ns : List Int, DAs K ok H (ns.map V.int) (ns.map .int)
  | [] => .nil
  | n :: ns => .cons (.int n) (das_ints ns)
theorem daI {ok : Addr → Prop} {H : Hp} {a : Addr} {ns : List Int} (n : ok a) (h : SqL K H a (ns.map V.int)) : DA K ok H (.ref a) (dI ns) := .lst n h (das_ints ns)
structure WR (H : Hp) (p : Addr) (hs : List Int) (M : List (List Int)) : Prop where
  ex : ∃ hA rA rs, H p = some (.tup [.ref hA, .ref rA]) ∧ H hA = some (.lst (hs.map V.int)) ∧ H rA = some (.lst (rs.map V.ref)) ∧ RowsAt H rs M
theorem WR.mono {H H' : Hp} {p : Addr} {hs : List Int} {M : List (List Int)} (W : WR H p hs M) (e : Same H H') : WR H' p hs M := by
  obtain ⟨hA, rA, rs, h1, h2, h3, R⟩ := W.ex
  exact ⟨hA, rA, rs, e _ _ h1, e _ _ h2, e _ _ h3, R.keep fun r _ o z => e r o z⟩
theorem ix_listK {K : PySem.W.Frag} {X : Cx} (h : X.K = K := by rfl) : IxR X (rIxL K) := by subst h; exact ix_list
theorem ix_tupK {K : PySem.W.Frag} {X : Cx} (h : X.K = K := by rfl) : IxR X (rIxT K) := by subst h; exact ix_tup
theorem take_snoc {α : Type} {xs : List α} {i : Nat} {x : α} (h : xs[i]? = some x) : xs.take (i + 1) = xs.take i ++ [x] := by
  rw [List.take_succ, h]
  rfl
def tupAt (e : Expr) (i : Nat) : Expr := match e with
  | .Tuple es _ _ => es.getD i (.Constant .none 0 ⟨0, 0, 0, 0⟩)
  | _ => .Constant .none 0 ⟨0, 0, 0, 0⟩
theorem at_ref {rs : List Addr} {j : Nat} {r : Addr} (h : rs[j]? = some r) : atI (rs.map V.ref) (j : Int) = some (.ref r) := atI_nat (by rw [List.getElem?_map, h]; rfl)
theorem rows_some {H : Hp} {rs : List Addr} {M : List (List Int)} (R : RowsAt H rs M) {r : Addr} (h : r ∈ rs) : ∃ o, H r = some o := by
  obtain ⟨j, hj, e⟩ := List.getElem_of_mem h
  obtain ⟨r', x', h1, h2, h3⟩ := R.get hj
  have : rs[j]? = some r := by rw [List.getElem?_eq_getElem hj, e]
  rw [h1] at this
  cases this
  exact ⟨_, h3⟩
theorem rows_out {H : Hp} {rs : List Addr} {M : List (List Int)} (R : RowsAt H rs M) {a : Addr} (h : H a = none) : a ∉ rs := fun hm => by
  obtain ⟨o, e⟩ := rows_some R hm
  rw [h] at e
  cases e
theorem Same.sq {H H' : Hp} {a : Addr} {xs : List V} (e : Same H H') (h : SqL K H a xs) : SqL K H' a xs := (Same.keep (ok := any) e).seq trivial h
theorem lc_rows {a : Addr} {xs : List V} {te : TE} {Q : Hp → Prop} {σ : L2.St} {H1 : Hp} {D : Addr} (M : List (List Int)) (hlen : M.length = xs.length) (hm : xs.length ≤ 900) (hD : H1 D = none) (hxs : SqL K H1 a xs)
    (hs : ∀ (i : Nat) (x : V) (row : List Int) (H' : Hp), xs[i]? = some x → M[i]? = some row → Same H1 H' → te (σ ++ [some x]) H' fun v H3 => ∃ r, v = .ref r ∧ Same H' H3 ∧ H' r = none ∧ H3 r = some (.lst (row.map V.int)))
    (hd : ∀ rs H', Same H1 H' → H' D = some (.lst (rs.map V.ref)) → RowsAt H' rs M → (∀ r ∈ rs, H1 r = none ∧ r ≠ D) → Q H')
    (mono : ∀ σ H Q Q', (∀ v H1, Q v H1 → Q' v H1) → te σ H Q → te σ H Q') :
    ∃ W : Nat → Nat → List V → Hp → Prop, (∃ m, W 0 m [] (upd H1 D (.lst []))) ∧
      ∀ i m ys H', W i m ys H' → H' D = some (.lst ys) ∧ (((Itl K a).stop i H' ∧ Q H') ∨ ((Itl K a).go i H' ∧ ∀ z H2, (Itl K a).yld i H' z H2 → te (σ ++ [some z]) H2 fun v H3 => H3 D = some (.lst ys) ∧ ys.length < sizeLine ∧ ∃ m', m' < m ∧ W (i + 1) m' (ys ++ [v]) (upd H3 D (.lst (ys ++ [v]))))) := by
  refine lc_list (xs := xs) (fun i ys H' => ∃ rs' : List Addr, ys = rs'.map V.ref ∧ rs'.length = i ∧ Same H1 H' ∧ H' D = some (.lst ys) ∧ RowsAt H' rs' (M.take i) ∧ ∀ r ∈ rs', H1 r = none ∧ r ≠ D) ⟨[], rfl, rfl, Same.upd hD, upd_same, ⟨rfl, (fun i r x h _ => by cases h), List.nodup_nil⟩, (fun r hr => by cases hr)⟩ (fun i ys H' _ ⟨_, _, _, sm, eD, _⟩ => ⟨Same.sq sm hxs, eD⟩) ?_ ?_ mono
  · rintro i x ys H4 hx ⟨rs', rfl, l4, s4, eD, R4, o4⟩
    have hi : i < M.length := by rw [hlen]; exact (List.getElem?_eq_some_iff.mp hx).1
    have hrow : M[i]? = some M[i] := List.getElem?_eq_getElem hi
    refine mono _ _ _ _ ?_ (hs i x M[i] H4 hx hrow s4)
    rintro v H5 ⟨r, rfl, s5, hr, er⟩
    have nDr : r ≠ D := (ne_of_none eD hr).symm
    have nR := rows_out R4 hr
    have R5 : RowsAt H5 (rs' ++ [r]) (M.take i ++ [M[i]]) := R4.snoc (fun r' _ o' z => s5 r' o' z) er nR
    refine ⟨s5 _ _ eD, small1000 (by rw [List.length_map]; omega), rs' ++ [r], by rw [List.map_append]; rfl, by rw [List.length_append, l4]; rfl, fun b u e => ?_, upd_same, ?_, ?_⟩
    · have : b ≠ D := fun z => by subst z; rw [hD] at e; cases e
      rw [upd_ne this]
      exact s5 _ _ (s4 _ _ e)
    · rw [take_snoc hrow]
      refine R5.keep fun r' hr' o' e => ?_
      have : r' ≠ D := by
        rcases List.mem_append.mp hr' with z | z
        · exact (o4 r' z).2
        · rw [List.mem_singleton.mp z]; exact nDr
      rw [upd_ne this]
      exact e
    · intro r' hr'
      rcases List.mem_append.mp hr' with z | z
      · exact o4 r' z
      · rw [List.mem_singleton.mp z]
        exact ⟨s4.free hr, nDr⟩
  · rintro ys H4 ⟨rs', rfl, l4, s4, eD, R4, o4⟩
    rw [← hlen, List.take_length] at R4
    exact hd rs' H4 s4 eD R4 o4
theorem map_get {α β : Type} {f : α → β} {xs : List α} {i : Nat} {y : β} (h : (xs.map f)[i]? = some y) : ∃ x, xs[i]? = some x ∧ y = f x := by
  rw [List.getElem?_map] at h
  obtain ⟨x, h1, h2⟩ := Option.map_eq_some_iff.mp h
  exact ⟨x, h1, h2.symm⟩
def rLO (K : PySem.W.Frag) : List V → Hp → VK → Prop := fun xs H Q => ∃ p ys, xs = [.ref p] ∧ (SqL K H p ys ∨ SqT K H p ys) ∧ ∀ l, H l = none → Q (.ref l) (upd H l (.lst ys))
theorem call_list_ofK {X : Cx} (h : X.K = K := by rfl) : CallR X (.type "list") (rLO K) := by subst h; exact call_list_of
theorem pi_listK {X : Cx} {tg l : Expr} {tl : TE} (hl : PE X l tl) (h : X.K = K := by rfl) : PI X tg l (iList K tl) := by subst h; exact pi_list hl
theorem lay_rows : ∀ M : List (List Int), PyData.canLayAll0 (M.map dI) = true ∧ PyData.depthAll (M.map dI) ≤ 1
  | [] => ⟨rfl, Nat.zero_le _⟩
  | x :: M => by
    obtain ⟨h1, h2⟩ := lay_rows M
    obtain ⟨a1, a2⟩ := lay_dI x
    rw [List.map_cons]
    simp only [PyData.canLayAll0, PyData.depthAll, h1, a1, Bool.and_self, true_and]
    omega
theorem das_rows {H : Hp} : ∀ {rs : List Addr} {M : List (List Int)}, rs.length = M.length → (∀ (i : Nat) (r : Addr) (x : List Int), rs[i]? = some r → M[i]? = some x → H r = some (.lst (x.map V.int))) → DAs K any H (rs.map V.ref) (M.map dI)
  | [], [], _, _ => .nil
  | r :: rs, x :: M, l, h => .cons (daI trivial (SqL.of (h 0 r x rfl rfl))) (das_rows (by simpa using l) fun i r' x' h1 h2 => h (i + 1) r' x' h1 h2)
end
section
variable {P : Program} {w : World} {K : PySem.W.Frag} {mg : Str → Option Value} {base : Heap}
structure BltR (mg : Str → Option Value) : Prop where
  abs : mg "abs" = none
  len : mg "len" = none
  sum : mg "sum" = none
  zip : mg "zip" = none
  range : mg "range" = none
  enum : mg "enumerate" = none
def CMulN (i j : Int) : Prop := ∃ n, n ≤ 1000000 ∧ M11.Bn n i ∧ M11.Bn n j
theorem op_mulN {X : Cx} : OpR X (binaryOp .Mult) (rI CMulN fun i j => .int (i * j)) :=
  opI fun _ _ _ _ _ _ _ hc q => mul_int q (by
    obtain ⟨n, h, a, b⟩ := hc
    have e : (2 : Nat) ^ 20 = 1048576 := by decide
    exact IntMulOk.of_bits (Nat.le_trans (bits_le a) (by omega)) (Nat.le_trans (bits_le b) (by omega)))
def tupF (l : Int × Int) : HO := .tup [.int l.1, .int l.2]
def spG : Sp := fun vs H Q _ => ∃ a b : Int, vs = [.int a, .int b] ∧ Q (.int (M11.G a b)) H
def spF : Sp := fun vs H Q _ => ∃ t b : Int, vs = [.int t, .int b] ∧ b ≠ 0 ∧ b.natAbs < 2 ^ 1000 ∧ ∀ p, H p = none → Q (.ref p) (upd H p (tupF (M11.low t b)))
theorem scGd : FnScope ["number", "other", "rest"] ["number", "other"] (defScope sGd) := ⟨rfl, rfl, rfl, by decide +kernel, rfl, by decide +kernel, by decide +kernel⟩
theorem ok_gd {f : Addr} {fd : FuncData} (B : BltR mg) (F : Fun K "greatest_divisor" "greatest_divisor" sGd f fd) : FnOk P w K mg base CX0 1 f fd ["number", "other"] spG := by
  refine F.ok scGd (fun vs H Q E h => ?_) (fun cdv A outer s H vs Q E hr h => ?_)
  · obtain ⟨a, b, rfl, _⟩ := h
    rfl
  · obtain ⟨a, b, rfl, k⟩ := h
    refine ⟨_, pss_cons (ps_while PassesOwn.never (pt_cmpR op_ne (pv 1) pe_int (nomark _))
        (pss_cons (ps_set (i := 2) scGd.nd rfl (Or.inl rfl) (pe_op op_modN (pv 0) (pv 1)))
        (pss_cons (ps_set (i := 0) scGd.nd rfl (Or.inl rfl) (pv 1))
        (pss_one (ps_set (i := 1) scGd.nd rfl (Or.inl rfl) (pv 2))))))
      (pss_one (ps_ret (pe_callB call_abs (by rfl) B.abs boot_abs (pa_cons (pv 0) pa_nil)))), ?_⟩
    refine while_by (fun σ H' => ∃ (x y : Int) (r : Option V), σ = [some (.int x), some (.int y), r] ∧ H' = H ∧ Int.gcd x y = Int.gcd a b)
      (fun σ _ => match σ with | [_, some (.int y), _] => y.natAbs | _ => 0) ⟨a, b, none, rfl, rfl, rfl⟩ ?_ ?_
    · rintro σ H' ⟨x, y, r, rfl, rfl, hg⟩
      refine ⟨_, rfl, rfl, _, rfl, ?_⟩
      by_cases hy : y = 0
      · subst hy
        refine iteNS rfl ?_
        refine ⟨_, rfl, x, rfl, ?_⟩
        have e : (if x < 0 then -x else x) = M11.G a b := by
          rw [M11.gcd_end]
          show ((Int.gcd x 0 : Nat) : Int) = ((Int.gcd a b : Nat) : Int)
          rw [hg]
        rw [e]
        exact k
      · refine iteNP (fun z => hy (V.int.inj z)) ?_
        refine ⟨_, rfl, _, rfl, x, y, rfl, rfl, hy, _, rfl, _, rfl, ?_⟩
        exact ⟨⟨y, x.fmod y, _, rfl, rfl, by rw [M11.gcd_step]; exact hg⟩, M11.fmod_small x y hy⟩
    · rintro σ H' Q1 Q2 hq ⟨v, e, sc, c, ec, q⟩
      exact ⟨v, e, sc, c, ec, hq _ _ q⟩
theorem scFr : FnScope ["top", "bottom", "divisor"] ["top", "bottom"] (defScope sFr) := ⟨rfl, rfl, rfl, by decide +kernel, rfl, by decide +kernel, by decide +kernel⟩
theorem cdivB {t b : Int} (h : b ≠ 0) (hb : b.natAbs < 2 ^ 1000) (u d : Int) (e : d = M11.sgn t b) : CDivB u d := by
  subst e
  exact ⟨M11.sgn_ne h, Nat.lt_of_le_of_lt (M11.sgn_le h) hb⟩
theorem ok_fr {f fG : Addr} {fd fdG : FuncData} (B : BltR mg) (F : Fun K "fraction_of" "fraction_of" sFr f fd) (DG : Dn K mg "greatest_divisor" sGd ["number", "other"] fG fdG) (GG : FnOk P w K mg base CX0 1 fG fdG ["number", "other"] spG) : FnOk P w K mg base CX0 2 f fd ["top", "bottom"] spF := by
  refine F.ok scFr (fun vs H Q E h => ?_) (fun cdv A outer s H vs Q E hr h => ?_)
  · obtain ⟨a, b, rfl, _⟩ := h
    rfl
  · obtain ⟨t, b, rfl, hb, hz, k⟩ := h
    refine ⟨_, pss_cons (ps_set (i := 2) scFr.nd rfl (Or.inl rfl) (pe_fn DG GG hr rfl (pa_cons (pv 0) (pa_cons (pv 1) pa_nil))))
      (pss_cons (ps_if (pt_cmpR op_lt (pv 1) pe_int (nomark _)) (pss_one (ps_set (i := 2) scFr.nd rfl (Or.inl rfl) (pe_un un_neg (pv 2)))) pss_nil)
      (pss_one (ps_ret (pe_tup (pa_cons (pe_op op_fdivB (pv 0) (pv 2)) (pa_cons (pe_op op_fdivB (pv 1) (pv 2)) pa_nil)))))), ?_⟩
    refine ⟨_, rfl, _, rfl, t, b, rfl, ?_⟩
    refine ⟨_, rfl, _, _, rfl, rfl, _, rfl, ?_⟩
    by_cases hn : b < 0
    · refine itDP hn ?_
      have e : -(M11.G t b) = M11.sgn t b := (if_pos hn).symm
      refine ⟨_, rfl, _, rfl, ?_⟩
      refine ⟨_, rfl, _, rfl, _, _, rfl, rfl, cdivB hb hz _ _ e, _, rfl, _, rfl, _, _, rfl, rfl, cdivB hb hz _ _ e, (by show 2 ≤ sizeLine; decide), fun p hp => ?_⟩
      have q := k p hp
      unfold M11.low at q
      rw [← e] at q
      exact q
    · refine itDN hn ?_
      have e : M11.G t b = M11.sgn t b := (if_neg hn).symm
      refine ⟨_, rfl, _, rfl, _, _, rfl, rfl, cdivB hb hz _ _ e, _, rfl, _, rfl, _, _, rfl, rfl, cdivB hb hz _ _ e, (by show 2 ≤ sizeLine; decide), fun p hp => ?_⟩
      have q := k p hp
      unfold M11.low at q
      rw [← e] at q
      exact q
theorem das_split {ok : Addr → Prop} {H : Hp} : ∀ {a b : List PyData} {vs : List V}, DAs K ok H vs (a ++ b) → ∃ x y, vs = x ++ y ∧ DAs K ok H x a ∧ DAs K ok H y b
  | [], b, vs, h => ⟨[], vs, rfl, .nil, h⟩
  | d :: a, b, vs, h => by
    cases h with
    | cons h1 h2 =>
      obtain ⟨x, y, rfl, h3, h4⟩ := das_split h2
      exact ⟨_ :: x, y, rfl, .cons h1 h3, h4⟩
theorem das_len {ok : Addr → Prop} {H : Hp} : ∀ {a : List PyData} {vs : List V}, DAs K ok H vs a → vs.length = a.length
  | [], vs, h => by cases h; rfl
  | d :: a, vs, h => by
    cases h with
    | cons h1 h2 => rw [List.length_cons, List.length_cons, das_len h2]
theorem das_int {ok : Addr → Prop} {H : Hp} {pre : List V} {c : Int} (h : DAs K ok H pre [.int c]) : pre = [.int c] := by
  cases h with
  | cons r1 r => cases r; cases r1; rfl
theorem das_fr {ok : Addr → Prop} {H : Hp} {pre : List V} {a b : Int} (h : DAs K ok H pre [.tuple [.int a, .int b]]) : ∃ f, pre = [.ref f] ∧ SqT K H f [.int a, .int b] := by
  cases h with
  | cons r1 r =>
    cases r
    cases r1 with
    | tup _ hf rf =>
      cases rf with
      | cons q1 rf =>
        obtain rfl := das_int rf
        cases q1
        exact ⟨_, rfl, hf⟩
def inTab : List (Str × Int) := [("one", 0), ("hue", 0), ("near", 1), ("both", 2), ("rows", 1), ("same", 0), ("tie", 0), ("all", 0), ("on", 1), ("turned", 1), ("then", 2), ("meet", 2), ("plus", 2), ("many", 1)]
theorem td_one : PyProof.Rows.KTD.datumAt ("one" : Str) inTab = some 0 := by decide +kernel
theorem td_hue : PyProof.Rows.KTD.datumAt ("hue" : Str) inTab = some 0 := by decide +kernel
theorem td_both : PyProof.Rows.KTD.datumAt ("both" : Str) inTab = some 2 := by decide +kernel
theorem td_same : PyProof.Rows.KTD.datumAt ("same" : Str) inTab = some 0 := by decide +kernel
theorem td_tie : PyProof.Rows.KTD.datumAt ("tie" : Str) inTab = some 0 := by decide +kernel
theorem td_all : PyProof.Rows.KTD.datumAt ("all" : Str) inTab = some 0 := by decide +kernel
theorem td_turned : PyProof.Rows.KTD.datumAt ("turned" : Str) inTab = some 1 := by decide +kernel
theorem td_then : PyProof.Rows.KTD.datumAt ("then" : Str) inTab = some 2 := by decide +kernel
theorem td_meet : PyProof.Rows.KTD.datumAt ("meet" : Str) inTab = some 2 := by decide +kernel
theorem td_plus : PyProof.Rows.KTD.datumAt ("plus" : Str) inTab = some 2 := by decide +kernel
theorem td_many : PyProof.Rows.KTD.datumAt ("many" : Str) inTab = some 1 := by decide +kernel
theorem cut_behind (pre ks : List V) : cutV (pre ++ ks) (some ((pre.length : Nat) : Int)) none = ks := by
  unfold cutV
  rw [HT.sIx_nat, HT.sIx_none, List.length_append, Nat.min_eq_left (by omega), List.drop_left]
  exact List.take_of_length_le (by omega)
theorem cut_ahead (pre ks : List V) : cutV (pre ++ ks) none (some ((pre.length : Nat) : Int)) = pre := by
  unfold cutV
  rw [HT.sIx_nat, HT.sIx_none, List.length_append, Nat.min_eq_left (by omega), List.drop_zero, Nat.sub_zero, List.take_left]
theorem at_hd (x : V) (xs : List V) : atI (x :: xs) 0 = some x := atI_nat (xs := x :: xs) (j := 0) rfl
theorem at_snd (x y : V) (xs : List V) : atI (x :: y :: xs) 1 = some y := atI_nat (xs := x :: y :: xs) (j := 1) rfl
theorem scInner : FnScope ["term"] ["term"] (defScope sInner) := ⟨rfl, rfl, rfl, by decide +kernel, rfl, by decide +kernel, by decide +kernel⟩
end
section
variable {P : Program} {w : World} {K : PySem.W.Frag} {mg : Str → Option Value} {base : Heap}
theorem lc_vals {a : Addr} {xs : List V} {te : TE} {Q : Hp → Prop} {σ : L2.St} {H1 : Hp} {D : Addr} (vs : List V) (hlen : vs.length = xs.length) (hm : xs.length ≤ 900) (hD : H1 D = none) (hxs : SqL K H1 a xs)
    (hs : ∀ (i : Nat) (x v : V) (H' : Hp), xs[i]? = some x → vs[i]? = some v → Same H1 H' → te (σ ++ [some x]) H' fun u H3 => u = v ∧ Same H' H3)
    (hd : ∀ H', Same H1 H' → H' D = some (.lst vs) → Q H')
    (mono : ∀ σ H Q Q', (∀ v H1, Q v H1 → Q' v H1) → te σ H Q → te σ H Q') :
    ∃ W : Nat → Nat → List V → Hp → Prop, (∃ m, W 0 m [] (upd H1 D (.lst []))) ∧
      ∀ i m ys H', W i m ys H' → H' D = some (.lst ys) ∧ (((Itl K a).stop i H' ∧ Q H') ∨ ((Itl K a).go i H' ∧ ∀ z H2, (Itl K a).yld i H' z H2 → te (σ ++ [some z]) H2 fun v H3 => H3 D = some (.lst ys) ∧ ys.length < sizeLine ∧ ∃ m', m' < m ∧ W (i + 1) m' (ys ++ [v]) (upd H3 D (.lst (ys ++ [v]))))) := by
  refine lc_list (xs := xs) (fun i ys H' => ys = vs.take i ∧ Same H1 H' ∧ H' D = some (.lst ys)) ⟨by rw [List.take_zero], Same.upd hD, upd_same⟩ (fun i ys H' _ ⟨_, sm, eD⟩ => ⟨Same.sq sm hxs, eD⟩) ?_ ?_ mono
  · rintro i x ys H4 hx ⟨rfl, s4, eD⟩
    have hi : i < vs.length := by rw [hlen]; exact (List.getElem?_eq_some_iff.mp hx).1
    have hv : vs[i]? = some vs[i] := List.getElem?_eq_getElem hi
    refine mono _ _ _ _ ?_ (hs i x vs[i] H4 hx hv s4)
    rintro u H5 ⟨rfl, s5⟩
    refine ⟨s5 _ _ eD, small1000 (by rw [List.length_take]; omega), by rw [take_snoc hv], fun b o e => ?_, upd_same⟩
    rw [upd_ne (ne_of_none e hD)]
    exact s5 _ _ (s4 _ _ e)
  · rintro ys H4 ⟨rfl, s4, eD⟩
    rw [← hlen, List.take_length] at eD
    exact hd H4 s4 eD
theorem set2 (σ : L2.St) (a b : Option V) (x y : V) : ((σ ++ [a, b]).set σ.length (some x)).set (σ.length + 1) (some y) = σ ++ [some x, some y] := by
  rw [List.set_append_right _ _ (Nat.le_refl _), Nat.sub_self, List.set_append_right _ _ (Nat.le_succ _)]
  have : σ.length + 1 - σ.length = 1 := by omega
  rw [this]
  rfl
theorem lc_zip {a b : Addr} {xs ys : List V} {te : TE} {Q : VK} {σ : L2.St} {n : Nat} {H1 : Hp} (vs : List V) (hn : σ.length = n) (hx : SqL K H1 a xs) (hy : SqL K H1 b ys) (hlx : xs.length = vs.length) (hly : ys.length = vs.length) (hm : vs.length ≤ 900)
    (hs : ∀ (i : Nat) (x y v : V) (H' : Hp), xs[i]? = some x → ys[i]? = some y → vs[i]? = some v → Same H1 H' → te (σ ++ [some x, some y]) H' fun u H3 => u = v ∧ Same H' H3)
    (hd : ∀ D H', Same H1 H' → H' D = some (.lst vs) → Q (.ref D) H')
    (mono : ∀ σ H Q Q', (∀ v H1, Q v H1 → Q' v H1) → te σ H Q → te σ H Q') : LcW 2 (Itz K a b) (g2 K n) tYes te σ H1 Q := by
  subst hn
  intro D hD
  refine ⟨fun i m zs H' => m = vs.length - i ∧ i ≤ vs.length ∧ zs = vs.take i ∧ Same H1 H' ∧ H' D = some (.lst zs), ⟨vs.length, by simp, Nat.zero_le _, by rw [List.take_zero], Same.upd hD, upd_same⟩, ?_⟩
  rintro i m zs H2 ⟨rfl, hi, rfl, s2, eD⟩
  refine ⟨eD, ?_⟩
  by_cases hlt : i < vs.length
  · have ex : xs[i]? = some xs[i] := List.getElem?_eq_getElem (by omega)
    have ey : ys[i]? = some ys[i] := List.getElem?_eq_getElem (by omega)
    have ev : vs[i]? = some vs[i] := List.getElem?_eq_getElem hlt
    refine .inr ⟨⟨xs, ys, _, _, Same.sq s2 hx, Same.sq s2 hy, ex, ey⟩, ?_⟩
    rintro z H3 ⟨t, x, y, rfl, ht, rfl, hx', hy'⟩ os los
    have hx1 := hx' xs (Same.sq s2 hx)
    have hy1 := hy' ys (Same.sq s2 hy)
    match os, los with
    | [o1, o2], _ =>
      have s3 : Same H2 (L2.upd H2 t (.tup [x, y])) := Same.upd ht
      refine ⟨t, [x, y], rfl, SqT.of upd_same, rfl, x, [y], rfl, y, [], rfl, rfl, ⟨[some x, some y], set2 σ o1 o2 x y, rfl⟩, ?_⟩
      dsimp only [tYes]
      rw [if_pos rfl, set2 σ o1 o2 x y]
      refine mono _ _ _ _ ?_ (hs i x y vs[i] _ hx1 hy1 ev (s2.trans s3))
      rintro u H5 ⟨rfl, s5⟩
      refine ⟨s5 _ _ (s3 _ _ eD), small1000 (by rw [List.length_take]; omega), vs.length - (i + 1), by omega, rfl, hlt, by rw [take_snoc ev], fun c o e => ?_, upd_same⟩
      rw [upd_ne (ne_of_none e hD)]
      exact s5 _ _ (s3 _ _ (s2 _ _ e))
  · have : i = vs.length := by omega
    subst this
    rw [List.take_length] at eD ⊢
    exact .inl ⟨⟨xs, ys, Same.sq s2 hx, Same.sq s2 hy, .inl (by omega)⟩, hd D H2 s2 eD⟩
def RwAt (H : Hp) (v : V) (r : TM.Rw) : Prop := ∃ p l, v = .ref p ∧ H p = some (.tup [.ref l, .int r.2]) ∧ H l = some (.lst (r.1.map V.int))
theorem RwAt.mono {H H' : Hp} {v : V} {r : TM.Rw} (h : RwAt H v r) (s : Same H H') : RwAt H' v r := by
  obtain ⟨p, l, rfl, h1, h2⟩ := h
  exact ⟨p, l, rfl, s _ _ h1, s _ _ h2⟩
theorem foldG_app (b : Int) (a c : List Int) : M11.foldG b (a ++ c) = M11.foldG (M11.foldG b a) c := by
  unfold M11.foldG
  rw [List.foldl_append]
theorem foldG_le {b : Int} (h : 0 < b) (ts : List Int) : (M11.foldG b ts).natAbs ≤ b.natAbs := by
  obtain ⟨h1, h2, _⟩ := M11.foldG_spec ts b h
  have := Int.le_of_dvd h h2
  omega
def spAll : Sp := fun vs H Q _ => ∃ (l : Addr) (ts : List Int) (b : Int), vs = [.int b, .ref l] ∧ H l = some (.lst (ts.map V.int)) ∧ Q (.int (M11.foldG b ts)) H
theorem scAll : FnScope ["divisor", "tops", "top"] ["divisor", "tops"] (defScope sAll) := ⟨rfl, rfl, rfl, by decide +kernel, rfl, by decide +kernel, by decide +kernel⟩
theorem ok_all {f fG : Addr} {fd fdG : FuncData} (F : Fun K "shared_by_all" "shared_by_all" sAll f fd) (DG : Dn K mg "greatest_divisor" sGd ["number", "other"] fG fdG) (GG : FnOk P w K mg base CX0 1 fG fdG ["number", "other"] spG) : FnOk P w K mg base CX0 2 f fd ["divisor", "tops"] spAll := by
  refine F.ok scAll (fun vs H Q E h => ?_) (fun cdv A outer s H vs Q E hr h => ?_)
  · obtain ⟨l, ts, b, rfl, _⟩ := h
    rfl
  · obtain ⟨l, ts, b, rfl, hl, q⟩ := h
    refine ⟨_, pss_cons (ps_for PassesOwn.never rfl (pi_list (pv 1)) (pg_name (i := 2) scAll.nd rfl (Or.inl rfl))
        (pss_cons (ps_if (pt_cmpR op_eq (pv 0) pe_int (nomark _)) (pss_one (ps_ret pe_int)) pss_nil)
        (pss_one (ps_set (i := 0) scAll.nd rfl (Or.inl rfl) (pe_fn DG GG hr rfl (pa_cons (pv 0) (pa_cons (pv 2) pa_nil)))))))
      (pss_one (ps_ret (pv 0))), ?_⟩
    refine ⟨_, rfl, l, rfl, ⟨_, SqL.of hl⟩, for_list (xs := ts.map V.int) (fun i σ H' => ∃ (ot : Option V), σ = [some (.int (M11.foldG b (ts.take i))), some (.ref l), ot] ∧ H' = H) ⟨none, rfl, rfl⟩ (fun i σ H' _ ⟨_, _, e⟩ => by subst e; exact SqL.of hl) ?_ ?_⟩
    · rintro i x σ H1 hx ⟨ot, rfl, rfl⟩
      obtain ⟨t, ht, rfl⟩ := map_get hx
      refine ⟨_, rfl, rfl, _, rfl, ?_⟩
      by_cases h1 : M11.foldG b (ts.take i) = 1
      · refine itDP (by rw [h1]) ?_
        have e : M11.foldG b ts = 1 := by
          rw [← List.take_append_drop i ts, foldG_app, h1, M11.foldG_one]
        rw [e] at q
        exact q
      · refine itDN (fun z => h1 (V.int.inj z)) ?_
        refine ⟨_, rfl, _, rfl, _, t, rfl, ⟨some (.int t), ?_, rfl⟩⟩
        rw [take_snoc ht, foldG_app]
        rfl
    · rintro σ H1 ⟨ot, rfl, rfl⟩
      have et : ts.take (ts.map V.int).length = ts := by rw [List.length_map, List.take_length]
      rw [et]
      exact ⟨_, rfl, q⟩
def spLowered : Sp := fun vs H Q _ => ∃ (l : Addr) (ts : List Int) (b : Int), vs = [.ref l, .int b] ∧ H l = some (.lst (ts.map V.int)) ∧ 0 < b ∧ b.natAbs < 2 ^ 1000 ∧ ts.length ≤ 900 ∧ ∀ v H', Same H H' → RwAt H' v (M11.lowerR ts b) → Q v H'
abbrev nLowered : List Str := ["tops", "bottom", "divisor"]
theorem scLowered : FnScope nLowered ["tops", "bottom"] (defScope sLowered) := ⟨rfl, rfl, rfl, by decide +kernel, rfl, by decide +kernel, by decide +kernel⟩
theorem lcLowered : LcScopes (defScope sLowered) nLowered (lcScope (tupAt (asgVal (bodyAt sLowered 2)) 0)) ["top"] := ⟨by decide +kernel, rfl, by decide +kernel, by decide +kernel, by decide +kernel, by decide +kernel, by decide +kernel, by decide +kernel, by decide +kernel, by decide +kernel⟩
theorem ok_lowered {f fA : Addr} {fd fdA : FuncData} (F : Fun K "lowered" "lowered" sLowered f fd) (DA' : Dn K mg "shared_by_all" sAll ["divisor", "tops"] fA fdA) (GA : FnOk P w K mg base CX0 2 fA fdA ["divisor", "tops"] spAll) : FnOk P w K mg base CX0 3 f fd ["tops", "bottom"] spLowered := by
  refine F.ok scLowered (fun vs H Q E h => ?_) (fun cdv A outer s H vs Q E hr h => ?_)
  · obtain ⟨l, ts, b, rfl, _⟩ := h
    rfl
  · obtain ⟨l, ts, b, rfl, hl, hb, hz, hm, q⟩ := h
    refine ⟨_, pss_cons (ps_set (i := 2) scLowered.nd rfl (Or.inr rfl) (pe_fn DA' GA hr rfl (pa_cons (pv 1) (pa_cons (pv 0) pa_nil))))
      (pss_cons (ps_if (pt_cmpR op_eq (pv 2) pe_int (nomark _)) (pss_one (ps_ret (pe_tup (pa_cons (pv 0) (pa_cons (pv 1) pa_nil))))) pss_nil)
      (pss_one (ps_ret (pe_tup (pa_cons (pe_lc1 rfl lcLowered rfl (pi_list (pv 0)) (fun _ _ _ => pe_op op_fdivB (pv 3) (pv 2))) (pa_cons (pe_op op_fdivB (pv 1) (pv 2)) pa_nil)))))), ?_⟩
    refine ⟨_, rfl, _, rfl, l, ts, b, rfl, hl, ?_⟩
    refine ⟨_, rfl, rfl, _, rfl, ?_⟩
    by_cases h1 : M11.foldG b ts = 1
    · refine itDP (by rw [h1]) ?_
      exact ⟨_, rfl, _, rfl, (by show 2 ≤ sizeLine; decide), fun p hp => q _ _ (Same.upd hp) (by rw [M11.lowerR_one h1]; exact ⟨p, l, rfl, upd_same, by rw [upd_ne (ne_of_none hl hp)]; exact hl⟩)⟩
    · refine itDN (fun z => h1 (V.int.inj z)) ?_
      obtain ⟨g1, g2, g3⟩ := M11.foldG_spec ts b hb
      have g4 := foldG_le hb ts
      have cd : ∀ u, CDivB u (M11.foldG b ts) := fun u => ⟨by omega, Nat.lt_of_le_of_lt g4 hz⟩
      refine ⟨_, rfl, l, rfl, ⟨_, SqL.of hl⟩, fun D hD => ?_⟩
      refine lc_vals (ts.map fun t => V.int (t.fdiv (M11.foldG b ts))) (by rw [List.length_map, List.length_map]) (by rw [List.length_map]; exact hm) hD (SqL.of hl) ?_ ?_ ?_
      · intro i x v H' hx hv s'
        obtain ⟨t, ht, rfl⟩ := map_get hx
        obtain ⟨t', ht', rfl⟩ := map_get hv
        rw [ht] at ht'
        cases ht'
        exact ⟨_, rfl, _, rfl, _, _, rfl, rfl, cd _, rfl, Same.refl _⟩
      · intro H' s' eD
        refine ⟨_, rfl, _, rfl, _, _, rfl, rfl, cd _, (by show 2 ≤ sizeLine; decide), fun p hp => ?_⟩
        refine q _ _ (s'.trans (Same.upd hp)) ⟨p, D, rfl, upd_same, ?_⟩
        rw [upd_ne (ne_of_none eD hp), eD]
        unfold M11.lowerR
        rw [List.map_map]
        rfl
      · rintro σ H' Q1 Q2 hq ⟨v, e, v', e', i, j, a1, a2, a3, g⟩
        exact ⟨v, e, v', e', i, j, a1, a2, a3, hq _ _ g⟩
end
section
variable {P : Program} {w : World} {K : PySem.W.Frag} {mg : Str → Option Value} {base : Heap}
open TM in
def spDot : Sp := fun vs H Q _ => ∃ (a b : Addr) (ws rs : List Int) (n : Nat), vs = [.ref a, .ref b] ∧ H a = some (.lst (ws.map V.int)) ∧ H b = some (.lst (rs.map V.int)) ∧ ws.length = rs.length ∧ ws.length ≤ 900 ∧ n ≤ 1000000 ∧ (∀ x ∈ ws, M11.Bn n x) ∧ (∀ x ∈ rs, M11.Bn n x) ∧ ∀ H', Same H H' → Q (.int (dot ws rs)) H'
theorem scDot : FnScope ["numbers", "others"] ["numbers", "others"] (defScope sDot) := ⟨rfl, rfl, rfl, by decide +kernel, rfl, by decide +kernel, by decide +kernel⟩
def argAt (e : Expr) (i : Nat) : Expr := match e with
  | .Call _ es _ _ => es.getD i (.Constant .none 0 ⟨0, 0, 0, 0⟩)
  | .BinOp _ _ b _ => b
  | _ => .Constant .none 0 ⟨0, 0, 0, 0⟩
theorem lcDot : LcScopes (defScope sDot) ["numbers", "others"] (lcScope (argAt (asgVal (bodyAt sDot 0)) 0)) ["number", "other"] := ⟨by decide +kernel, rfl, by decide +kernel, by decide +kernel, by decide +kernel, by decide +kernel, by decide +kernel, by decide +kernel, by decide +kernel, by decide +kernel⟩
theorem boot_sum : bootBuiltins "sum" = some (.builtin "sum") := by decide +kernel
theorem zip_get {f : Int → Int → Int} {a b : List Int} {i : Nat} {x y : Int} (hx : a[i]? = some x) (hy : b[i]? = some y) : (List.zipWith f a b)[i]? = some (f x y) := by
  rw [List.getElem?_zipWith, hx, hy]
theorem ok_dot {f : Addr} {fd : FuncData} (B : BltR mg) (F : Fun K "sum_of_products" "sum_of_products" sDot f fd) : FnOk P w K mg base CX0 1 f fd ["numbers", "others"] spDot := by
  refine F.ok scDot (fun vs H Q E h => ?_) (fun cdv A outer s H vs Q E hr h => ?_)
  · obtain ⟨a, b, ws, rs, n, rfl, _⟩ := h
    rfl
  · obtain ⟨a, b, ws, rs, n, rfl, ha, hb, hl, hm, hn, hw, hr', q⟩ := h
    refine ⟨_, pss_one (ps_ret (pe_callB (call_sum rfl) (by rfl) B.sum boot_sum (pa_cons (pe_lcs rfl lcDot rfl (pi_zip rfl B.zip (pa_cons (pv 0) (pa_cons (pv 1) pa_nil))) (pg_two rfl lcDot) (fun _ _ _ => pts_nil) (fun _ _ _ => pe_op op_mulN (pv 2) (pv 3))) pa_nil))), ?_⟩
    refine ⟨_, rfl, _, rfl, a, b, rfl, ⟨_, SqL.of ha⟩, ⟨_, SqL.of hb⟩, ?_⟩
    refine lc_zip ((List.zipWith (fun x y => x * y) ws rs).map V.int) rfl (SqL.of ha) (SqL.of hb) (by rw [List.length_map, List.length_map, List.length_zipWith]; omega) (by rw [List.length_map, List.length_map, List.length_zipWith]; omega) (by rw [List.length_map, List.length_zipWith]; omega) ?_ ?_ ?_
    · intro i x y v H' hx hy hv s'
      obtain ⟨x, ex, rfl⟩ := map_get hx
      obtain ⟨y, ey, rfl⟩ := map_get hy
      obtain ⟨z, ez, rfl⟩ := map_get hv
      rw [zip_get ex ey] at ez
      cases ez
      exact ⟨_, rfl, _, rfl, _, _, rfl, rfl, ⟨n, hn, hw x (List.mem_of_getElem? ex), hr' y (List.mem_of_getElem? ey)⟩, rfl, Same.refl _⟩
    · intro D H' s' eD
      exact ⟨D, _, rfl, SqL.of eD, q H' s'⟩
    · rintro σ H' Q1 Q2 hq ⟨v, e, v', e', i, j, a1, a2, a3, g⟩
      exact ⟨v, e, v', e', i, j, a1, a2, a3, hq _ _ g⟩
theorem dot_comm : ∀ a b : List Int, TM.dot a b = TM.dot b a := by
  intro a b
  unfold TM.dot
  rw [List.zipWith_comm]
  congr 1
  funext
  simp only [Int.mul_comm]
theorem scEach : FnScope ["numbers", "rows"] ["numbers", "rows"] (defScope sEach) := ⟨rfl, rfl, rfl, by decide +kernel, rfl, by decide +kernel, by decide +kernel⟩
theorem lcEach : LcScopes (defScope sEach) ["numbers", "rows"] (lcScope (asgVal (bodyAt sEach 0))) ["row"] := ⟨by decide +kernel, rfl, by decide +kernel, by decide +kernel, by decide +kernel, by decide +kernel, by decide +kernel, by decide +kernel, by decide +kernel, by decide +kernel⟩
open TM in
def sp2R (g : Rw → Rw → Rw) : Sp := fun vs H Q _ => ∃ (v u : V) (r1 r2 : Rw) (k n : Nat), vs = [v, u] ∧ RwAt H v r1 ∧ RwAt H u r2 ∧ r1.1.length = n ∧ r2.1.length = n ∧ n ≤ 900 ∧ k ≤ 1000000 ∧ (∀ x ∈ r1.1, M11.Bn k x) ∧ (∀ x ∈ r2.1, M11.Bn k x) ∧
  (0 < r1.2 ∧ 0 < r2.2 ∧ M11.Bn 499 r1.2 ∧ M11.Bn 499 r2.2 ∧ 499 ≤ k) ∧ ∀ z H', Same H H' → RwAt H' z (g r1 r2) → Q z H'
open TM in
def gBoth (r1 r2 : Rw) : Rw := M11.lowerR (List.zipWith (fun a b => a * b) r1.1 r2.1) (r1.2 * r2.2)
open TM in
def gPlus (r1 r2 : Rw) : Rw := M11.lowerR (List.zipWith (fun a b => a * r2.2 + b * r1.2) r1.1 r2.1) (r1.2 * r2.2)
theorem bot1000 {x y : Int} (hx : M11.Bn 499 x) (hy : M11.Bn 499 y) : (x * y).natAbs < 2 ^ 1000 := (hx.mul hy).mono (m := 1000) (by decide)
abbrev n2R : List Str := ["value", "other", "tops"]
theorem scBoth : FnScope n2R ["value", "other"] (defScope sBothRow) := ⟨rfl, rfl, rfl, by decide +kernel, rfl, by decide +kernel, by decide +kernel⟩
theorem lcBoth : LcScopes (defScope sBothRow) n2R (lcScope (asgVal (bodyAt sBothRow 0))) ["top", "other_top"] := ⟨by decide +kernel, rfl, by decide +kernel, by decide +kernel, by decide +kernel, by decide +kernel, by decide +kernel, by decide +kernel, by decide +kernel, by decide +kernel⟩
theorem ok_both {f fL : Addr} {fd fdL : FuncData} (B : BltR mg) (F : Fun K "one_by_one_product" "one_by_one_product" sBothRow f fd) (DL : Dn K mg "lowered" sLowered ["tops", "bottom"] fL fdL) (GL : FnOk P w K mg base CX0 3 fL fdL ["tops", "bottom"] spLowered) : FnOk P w K mg base CX0 4 f fd ["value", "other"] (sp2R gBoth) := by
  refine F.ok scBoth (fun vs H Q E h => ?_) (fun cdv A outer s H vs Q E hr h => ?_)
  · obtain ⟨v, u, r1, r2, k, n, rfl, _⟩ := h
    rfl
  · obtain ⟨v, u, r1, r2, k, n, rfl, ⟨p, l, rfl, hp, hl⟩, ⟨p', l', rfl, hp', hl'⟩, n1, n2, hn, hk, k1, k2, ⟨b1, b2, b3, b4, b5⟩, q⟩ := h
    refine ⟨_, pss_cons (ps_setLcs (i := 2) scBoth.nd rfl (Or.inl rfl) rfl lcBoth rfl (pi_zip rfl B.zip (pa_cons (pe_ix ix_tup (pv 0) pe_int (fun _ _ => rfl)) (pa_cons (pe_ix ix_tup (pv 1) pe_int (fun _ _ => rfl)) pa_nil))) (pg_two rfl lcBoth) (fun _ _ _ => pts_nil) (fun _ _ _ => pe_op op_mulN (pv 3) (pv 4)))
      (pss_one (ps_ret (pe_fn DL GL hr rfl (pa_cons (pv 2) (pa_cons (pe_op op_mulN (pe_ix ix_tup (pv 0) pe_int (fun _ _ => rfl)) (pe_ix ix_tup (pv 1) pe_int (fun _ _ => rfl))) pa_nil))))), ?_⟩
    refine ⟨_, rfl, p, _, _, _, rfl, rfl, SqT.of hp, rfl, _, rfl, p', _, _, _, rfl, rfl, SqT.of hp', rfl, l, l', rfl, ⟨_, SqL.of hl⟩, ⟨_, SqL.of hl'⟩, ?_⟩
    refine lc_zip ((List.zipWith (fun x y => x * y) r1.1 r2.1).map V.int) rfl (SqL.of hl) (SqL.of hl') (by rw [List.length_map, List.length_map, List.length_zipWith]; omega) (by rw [List.length_map, List.length_map, List.length_zipWith]; omega) (by rw [List.length_map, List.length_zipWith]; omega) ?_ ?_ ?_
    · intro i x y v H' hx hy hv s'
      obtain ⟨x, ex, rfl⟩ := map_get hx
      obtain ⟨y, ey, rfl⟩ := map_get hy
      obtain ⟨z, ez, rfl⟩ := map_get hv
      rw [zip_get ex ey] at ez
      cases ez
      exact ⟨_, rfl, _, rfl, _, _, rfl, rfl, ⟨k, hk, k1 x (List.mem_of_getElem? ex), k2 y (List.mem_of_getElem? ey)⟩, rfl, Same.refl _⟩
    · intro D H' s' eD
      refine ⟨_, rfl, _, rfl, p, _, _, _, rfl, rfl, SqT.of (s' _ _ hp), rfl, _, rfl, p', _, _, _, rfl, rfl, SqT.of (s' _ _ hp'), rfl, _, _, rfl, rfl, ⟨499, by decide, b3, b4⟩, D, _, _, rfl, eD, Int.mul_pos b1 b2, bot1000 b3 b4, by rw [List.length_zipWith]; omega, fun z H'' s'' rz => q z H'' (s'.trans s'') rz⟩
    · rintro σ H' Q1 Q2 hq ⟨v, e, v', e', i, j, a1, a2, a3, g⟩
      exact ⟨v, e, v', e', i, j, a1, a2, a3, hq _ _ g⟩
theorem scPlusR : FnScope n2R ["value", "other"] (defScope sPlusRow) := ⟨rfl, rfl, rfl, by decide +kernel, rfl, by decide +kernel, by decide +kernel⟩
theorem lcPlusR : LcScopes (defScope sPlusRow) n2R (lcScope (asgVal (bodyAt sPlusRow 0))) ["top", "other_top"] := ⟨by decide +kernel, rfl, by decide +kernel, by decide +kernel, by decide +kernel, by decide +kernel, by decide +kernel, by decide +kernel, by decide +kernel, by decide +kernel⟩
theorem ok_plusR {f fL : Addr} {fd fdL : FuncData} (B : BltR mg) (F : Fun K "one_by_one_sum" "one_by_one_sum" sPlusRow f fd) (DL : Dn K mg "lowered" sLowered ["tops", "bottom"] fL fdL) (GL : FnOk P w K mg base CX0 3 fL fdL ["tops", "bottom"] spLowered) : FnOk P w K mg base CX0 4 f fd ["value", "other"] (sp2R gPlus) := by
  refine F.ok scPlusR (fun vs H Q E h => ?_) (fun cdv A outer s H vs Q E hr h => ?_)
  · obtain ⟨v, u, r1, r2, k, n, rfl, _⟩ := h
    rfl
  · obtain ⟨v, u, r1, r2, k, n, rfl, ⟨p, l, rfl, hp, hl⟩, ⟨p', l', rfl, hp', hl'⟩, n1, n2, hn, hk, k1, k2, ⟨b1, b2, b3, b4, b5⟩, q⟩ := h
    refine ⟨_, pss_cons (ps_setLcs (i := 2) scPlusR.nd rfl (Or.inl rfl) rfl lcPlusR rfl (pi_zip rfl B.zip (pa_cons (pe_ix ix_tup (pv 0) pe_int (fun _ _ => rfl)) (pa_cons (pe_ix ix_tup (pv 1) pe_int (fun _ _ => rfl)) pa_nil))) (pg_two rfl lcPlusR) (fun _ _ _ => pts_nil)
        (fun _ _ _ => pe_op op_add (pe_op op_mulN (pv 3) (pe_ix (ix_tupK (K := K)) (pv 1) pe_int (fun _ _ => rfl))) (pe_op op_mulN (pv 4) (pe_ix (ix_tupK (K := K)) (pv 0) pe_int (fun _ _ => rfl)))))
      (pss_one (ps_ret (pe_fn DL GL hr rfl (pa_cons (pv 2) (pa_cons (pe_op op_mulN (pe_ix ix_tup (pv 0) pe_int (fun _ _ => rfl)) (pe_ix ix_tup (pv 1) pe_int (fun _ _ => rfl))) pa_nil))))), ?_⟩
    refine ⟨_, rfl, p, _, _, _, rfl, rfl, SqT.of hp, rfl, _, rfl, p', _, _, _, rfl, rfl, SqT.of hp', rfl, l, l', rfl, ⟨_, SqL.of hl⟩, ⟨_, SqL.of hl'⟩, ?_⟩
    refine lc_zip ((List.zipWith (fun x y => x * r2.2 + y * r1.2) r1.1 r2.1).map V.int) rfl (SqL.of hl) (SqL.of hl') (by rw [List.length_map, List.length_map, List.length_zipWith]; omega) (by rw [List.length_map, List.length_map, List.length_zipWith]; omega) (by rw [List.length_map, List.length_zipWith]; omega) ?_ ?_ ?_
    · intro i x y v H' hx hy hv s'
      obtain ⟨x, ex, rfl⟩ := map_get hx
      obtain ⟨y, ey, rfl⟩ := map_get hy
      obtain ⟨z, ez, rfl⟩ := map_get hv
      rw [zip_get ex ey] at ez
      cases ez
      refine ⟨_, rfl, _, rfl, p', _, _, _, rfl, rfl, SqT.of (s' _ _ hp'), rfl, _, _, rfl, rfl, ⟨k, hk, k1 x (List.mem_of_getElem? ex), b4.mono b5⟩, ?_⟩
      exact ⟨_, rfl, _, rfl, p, _, _, _, rfl, rfl, SqT.of (s' _ _ hp), rfl, _, _, rfl, rfl, ⟨k, hk, k2 y (List.mem_of_getElem? ey), b3.mono b5⟩, _, _, rfl, rfl, rfl, Same.refl _⟩
    · intro D H' s' eD
      refine ⟨_, rfl, _, rfl, p, _, _, _, rfl, rfl, SqT.of (s' _ _ hp), rfl, _, rfl, p', _, _, _, rfl, rfl, SqT.of (s' _ _ hp'), rfl, _, _, rfl, rfl, ⟨499, by decide, b3, b4⟩, D, _, _, rfl, eD, Int.mul_pos b1 b2, bot1000 b3 b4, by rw [List.length_zipWith]; omega, fun z H'' s'' rz => q z H'' (s'.trans s'') rz⟩
    · rintro σ H' Q1 Q2 hq ⟨v, e, v1, e1, a1, a2, a3, a4, a5, a6, a7, a8, i, j, a9, a10, a11, v2, e2, v3, e3, c1, c2, c3, c4, c5, c6, c7, c8, i', j', c9, c10, c11, i2, j2, d1, d2, g⟩
      exact ⟨v, e, v1, e1, a1, a2, a3, a4, a5, a6, a7, a8, i, j, a9, a10, a11, v2, e2, v3, e3, c1, c2, c3, c4, c5, c6, c7, c8, i', j', c9, c10, c11, i2, j2, d1, d2, hq _ _ g⟩
open TM in
def spMany (K : PySem.W.Frag) : Sp := fun vs H Q _ => ∃ (fa : Addr) (v : V) (a b : Int) (r : Rw) (k : Nat), vs = [.ref fa, v] ∧ SqT K H fa [.int a, .int b] ∧ RwAt H v r ∧ r.1.length ≤ 900 ∧ k ≤ 1000000 ∧ M11.Bn k a ∧ (∀ x ∈ r.1, M11.Bn k x) ∧ 0 < b ∧ 0 < r.2 ∧ M11.Bn 499 b ∧ M11.Bn 499 r.2 ∧
  ∀ z H', Same H H' → RwAt H' z (M11.manyR a b r.1 r.2) → Q z H'
abbrev nMany : List Str := ["f", "value", "from_top", "from_bottom", "top", "bottom"]
theorem scMany : FnScope nMany ["f", "value"] (defScope sManyRow) := ⟨rfl, rfl, rfl, by decide +kernel, rfl, by decide +kernel, by decide +kernel⟩
theorem lcMany : LcScopes (defScope sManyRow) nMany (lcScope (tupAt (asgVal (bodyAt sManyRow 4)) 0)) ["number"] := ⟨by decide +kernel, rfl, by decide +kernel, by decide +kernel, by decide +kernel, by decide +kernel, by decide +kernel, by decide +kernel, by decide +kernel, by decide +kernel⟩
theorem fdiv_le {g t : Int} (hg : 0 < g) (h : g ∣ t) : (t.fdiv g).natAbs ≤ t.natAbs := by
  obtain ⟨q, e1, e2⟩ := M11.fdiv_of_dvd hg h
  rw [e2, e1]
  exact M11.natAbs_le_of_mul (by omega)
theorem ok_many {f fG fA : Addr} {fd fdG fdA : FuncData} (F : Fun K "many_times" "many_times" sManyRow f fd) (DG : Dn K mg "greatest_divisor" sGd ["number", "other"] fG fdG) (GG : FnOk P w K mg base CX0 1 fG fdG ["number", "other"] spG)
    (DA' : Dn K mg "shared_by_all" sAll ["divisor", "tops"] fA fdA) (GA : FnOk P w K mg base CX0 2 fA fdA ["divisor", "tops"] spAll) : FnOk P w K mg base CX0 3 f fd ["f", "value"] (spMany K) := by
  refine F.ok scMany (fun vs H Q E h => ?_) (fun cdv A outer s H vs Q E hr h => ?_)
  · obtain ⟨fa, v, a, b, r, k, rfl, _⟩ := h
    rfl
  · obtain ⟨fa, v, a, c, r, k, rfl, hf, ⟨p, l, rfl, hp, hl⟩, hn, hk, ka, kr, b1, b2, b3, b4, q⟩ := h
    have r1 := hr.mono (j := 1) (by decide)
    refine ⟨_, pss_cons (ps_set (i := 2) scMany.nd rfl (Or.inl rfl) (pe_fn DG GG r1 rfl (pa_cons (pe_ix ix_tup (pv 0) pe_int (fun _ _ => rfl)) (pa_cons (pe_ix ix_tup (pv 1) pe_int (fun _ _ => rfl)) pa_nil))))
      (pss_cons (ps_set (i := 3) scMany.nd rfl (Or.inr rfl) (pe_fn DA' GA hr rfl (pa_cons (pe_ix ix_tup (pv 0) pe_int (fun _ _ => rfl)) (pa_cons (pe_ix ix_tup (pv 1) pe_int (fun _ _ => rfl)) pa_nil))))
      (pss_cons (ps_set (i := 4) scMany.nd rfl (Or.inr rfl) (pe_op op_fdivB (pe_ix ix_tup (pv 0) pe_int (fun _ _ => rfl)) (pv 2)))
      (pss_cons (ps_set (i := 5) scMany.nd rfl (Or.inl rfl) (pe_op op_mulN (pe_op op_fdivB (pe_ix ix_tup (pv 0) pe_int (fun _ _ => rfl)) (pv 3)) (pe_op op_fdivB (pe_ix ix_tup (pv 1) pe_int (fun _ _ => rfl)) (pv 2))))
      (pss_one (ps_ret (pe_tup (pa_cons (pe_lc1 rfl lcMany rfl (pi_list (pe_ix ix_tup (pv 1) pe_int (fun _ _ => rfl))) (fun _ _ _ => pe_op op_mulN (pv 4) (pe_op op_fdivB (pv 6) (pv 3)))) (pa_cons (pv 5) pa_nil)))))))), ?_⟩
    obtain ⟨g1, g2, g3⟩ := M11.foldG_spec r.1 c b1
    have g4 := foldG_le b1 r.1
    have p1 : 0 < M11.G a r.2 := Int.ofNat_lt.mpr (Int.gcd_pos_of_ne_zero_right a (by omega))
    have p2 : M11.G a r.2 ≤ r.2 := Int.le_of_dvd b2 (Int.gcd_dvd_right a r.2)
    have z3 : c.natAbs < 2 ^ 1000 := b3.mono (m := 1000) (by decide)
    have z4 : r.2.natAbs < 2 ^ 1000 := b4.mono (m := 1000) (by decide)
    have d1 : ∀ u, CDivB u (M11.G a r.2) := fun u => ⟨by omega, Nat.lt_of_le_of_lt (show (M11.G a r.2).natAbs ≤ r.2.natAbs by omega) z4⟩
    have d2 : ∀ u, CDivB u (M11.foldG c r.1) := fun u => ⟨by omega, Nat.lt_of_le_of_lt g4 z3⟩
    clear z3 z4
    refine ⟨_, rfl, fa, _, _, _, rfl, rfl, hf, rfl, _, rfl, p, _, _, _, rfl, rfl, SqT.of hp, rfl, a, r.2, rfl, ?_⟩
    refine ⟨_, rfl, fa, _, _, _, rfl, rfl, hf, rfl, _, rfl, p, _, _, _, rfl, rfl, SqT.of hp, rfl, l, r.1, c, rfl, hl, ?_⟩
    refine ⟨_, rfl, fa, _, _, _, rfl, rfl, hf, rfl, _, rfl, _, _, rfl, rfl, d1 _, ?_⟩
    refine ⟨_, rfl, fa, _, _, _, rfl, rfl, hf, rfl, _, rfl, _, _, rfl, rfl, d2 _, _, rfl, p, _, _, _, rfl, rfl, SqT.of hp, rfl, _, rfl, _, _, rfl, rfl, d1 _, _, _, rfl, rfl, ⟨499, by decide, b3.le (fdiv_le g1 g2), b4.le (fdiv_le p1 (Int.gcd_dvd_right a r.2))⟩, ?_⟩
    refine ⟨_, rfl, p, _, _, _, rfl, rfl, SqT.of hp, rfl, l, rfl, ⟨_, SqL.of hl⟩, fun D hD => ?_⟩
    refine lc_vals (r.1.map fun t => V.int (a.fdiv (M11.G a r.2) * t.fdiv (M11.foldG c r.1))) (by rw [List.length_map, List.length_map]) (by rw [List.length_map]; exact hn) hD (SqL.of hl) ?_ ?_ ?_
    · intro i x v H' hx hv s'
      obtain ⟨t, ht, rfl⟩ := map_get hx
      obtain ⟨t', ht', rfl⟩ := map_get hv
      rw [ht] at ht'
      cases ht'
      exact ⟨_, rfl, _, rfl, _, rfl, _, _, rfl, rfl, d2 _, _, _, rfl, rfl, ⟨k, hk, ka.le (fdiv_le p1 (Int.gcd_dvd_left a r.2)), (kr t (List.mem_of_getElem? ht)).le (fdiv_le g1 (g3 t (List.mem_of_getElem? ht)))⟩, rfl, Same.refl _⟩
    · intro H' s' eD
      refine ⟨_, rfl, (by show 2 ≤ sizeLine; decide), fun p' hp' => ?_⟩
      refine q _ _ (s'.trans (Same.upd hp')) ⟨p', D, rfl, upd_same, ?_⟩
      rw [upd_ne (ne_of_none eD hp'), eD]
      unfold M11.manyR
      rw [List.map_map]
      rfl
    · rintro σ H' Q1 Q2 hq ⟨v, e, v', e', v2, e2, i, j, a1, a2, a3, i', j', c1, c2, c3, g⟩
      exact ⟨v, e, v', e', v2, e2, i, j, a1, a2, a3, i', j', c1, c2, c3, hq _ _ g⟩
end
section
variable {P : Program} {w : World} {K : PySem.W.Frag} {mg : Str → Option Value} {base : Heap}
theorem snoc_get {α : Type} {xs : List α} {x y : α} {i : Nat} (h : (xs ++ [x])[i]? = some y) : xs[i]? = some y ∨ (i = xs.length ∧ y = x) := by
  by_cases hi : i < xs.length
  · rw [List.getElem?_append_left hi] at h
    exact .inl h
  · rw [List.getElem?_append_right (by omega)] at h
    cases e : i - xs.length with
    | zero => rw [e] at h; cases h; exact .inr ⟨by omega, rfl⟩
    | succ j => rw [e] at h; cases h
theorem get_lt {α : Type} {l : List α} {i : Nat} (h : i < l.length) : ∃ x, l[i]? = some x := ⟨l[i], List.getElem?_eq_getElem h⟩
theorem lt_get {α : Type} {l : List α} {i : Nat} {x : α} (h : l[i]? = some x) : i < l.length := (List.getElem?_eq_some_iff.mp h).1
def tMid (t u : TS) : TS := fun D σ H => ∃ J : L2.St → Hp → Prop, t { D with nx := J } σ H ∧ ∀ σ' H', J σ' H' → u D σ' H'
theorem pss_mid {X : Cx} {st : Stmt} {rest : List Stmt} {t u : TS} (h1 : PS X st t) (h2 : PSs X rest u) : PSs X (st :: rest) (tMid t u) := by
  intro pins s σ H D I h
  obtain ⟨J, h, k⟩ := h
  refine wpAny_execs_cons (thn (h1 pins s σ H { D with nx := J } I h) fun f s1 q => ?_)
  cases f with
  | next =>
    obtain ⟨σ', H', I', q⟩ := q
    exact h2 pins s1 σ' H' D I' (k σ' H' q)
  | ret v => exact q
  | brk => exact q
  | cont => exact q
end
section
variable {P : Program} {w : World} {K : PySem.W.Frag} {mg : Str → Option Value} {base : Heap}
structure GrdV (H : Hp) (rs : List Addr) (X : List (List V)) : Prop where
  len : rs.length = X.length
  row : ∀ (i : Nat) (r : Addr) (x : List V), rs[i]? = some r → X[i]? = some x → H r = some (.lst x)
theorem GrdV.mono {H H' : Hp} {rs : List Addr} {X : List (List V)} (g : GrdV H rs X) (s : Same H H') : GrdV H' rs X := ⟨g.len, fun i r x h1 h2 => s _ _ (g.row i r x h1 h2)⟩
def GrdAt (H : Hp) (a : Addr) (X : List (List V)) : Prop := ∃ rs : List Addr, H a = some (.lst (rs.map V.ref)) ∧ GrdV H rs X
theorem GrdAt.mono {H H' : Hp} {a : Addr} {X : List (List V)} (g : GrdAt H a X) (s : Same H H') : GrdAt H' a X := by
  obtain ⟨rs, h, r⟩ := g
  exact ⟨rs, s _ _ h, r.mono s⟩
def NewR (H H' : Hp) (u : V) (x : List V) : Prop := ∃ p, u = .ref p ∧ H' p = some (.lst x) ∧ H p = none
def GrdI (H1 : Hp) (D : Addr) (X : List (List V)) (i : Nat) (ys : List V) (H' : Hp) : Prop := ∃ rs : List Addr, ys = rs.map V.ref ∧ rs.length = i ∧ Same H1 H' ∧ H' D = some (.lst ys) ∧ (∀ r ∈ rs, r ≠ D) ∧ (∀ (j : Nat) (r : Addr) (x : List V), rs[j]? = some r → X[j]? = some x → H' r = some (.lst x)) ∧ rs.Nodup ∧ ∀ r ∈ rs, H1 r = none
theorem GrdI.start {H1 : Hp} {D : Addr} {X : List (List V)} (hD : H1 D = none) : GrdI H1 D X 0 [] (upd H1 D (.lst [])) := ⟨[], rfl, rfl, Same.upd hD, upd_same, (fun r h => by cases h), (fun j r x h _ => by cases h), List.nodup_nil, (fun r h => by cases h)⟩
theorem GrdI.step {H1 H4 H5 : Hp} {D : Addr} {X : List (List V)} {i : Nat} {ys : List V} {u : V} {x : List V} (hD : H1 D = none) (g : GrdI H1 D X i ys H4) (hx : X[i]? = some x) (hu : NewR H4 H5 u x) (s5 : Same H4 H5) (hm : i < 900) :
    H5 D = some (.lst ys) ∧ ys.length < sizeLine ∧ GrdI H1 D X (i + 1) (ys ++ [u]) (upd H5 D (.lst (ys ++ [u]))) := by
  obtain ⟨rs, rfl, lr, s4, eD, nD, hr, nd, n1⟩ := g
  obtain ⟨p, rfl, hp, hn⟩ := hu
  have npD : p ≠ D := fun z => by rw [z, eD] at hn; cases hn
  refine ⟨s5 _ _ eD, small1000 (by rw [List.length_map]; omega), rs ++ [p], by rw [List.map_append]; rfl, by rw [List.length_append, lr]; rfl, fun b o e => ?_, upd_same, fun r h => ?_, fun j r y h1 h2 => ?_, ?_, fun r h => ?_⟩
  · rw [upd_ne (ne_of_none e hD)]
    exact s5 _ _ (s4 _ _ e)
  · rcases List.mem_append.mp h with z | z
    · exact nD r z
    · rw [List.mem_singleton.mp z]; exact npD
  · rcases snoc_get h1 with z | ⟨e, z⟩
    · rw [upd_ne (nD r (List.mem_of_getElem? z))]
      exact s5 _ _ (hr j r y z h2)
    · subst z
      rw [e, lr, hx] at h2
      cases h2
      rw [upd_ne npD]
      exact hp
  · refine List.nodup_append.mpr ⟨nd, List.nodup_cons.mpr ⟨List.not_mem_nil, List.nodup_nil⟩, fun a ha b hb e => ?_⟩
    rw [List.mem_singleton.mp hb] at e
    subst e
    obtain ⟨j, hj⟩ := List.mem_iff_getElem?.mp ha
    obtain ⟨y, ey⟩ := get_lt (l := X) (i := j) (by have := lt_get hj; have := lt_get hx; omega)
    rw [hr j a y hj ey] at hn
    cases hn
  · rcases List.mem_append.mp h with z | z
    · exact n1 r z
    · rw [List.mem_singleton.mp z]; exact s4.free hn
def GrdN (H H' : Hp) (D : Addr) (X : List (List V)) : Prop := ∃ rs : List Addr, H' D = some (.lst (rs.map V.ref)) ∧ GrdV H' rs X ∧ rs.Nodup ∧ ∀ r ∈ rs, H r = none ∧ r ≠ D
theorem GrdN.grd {H H' : Hp} {D : Addr} {X : List (List V)} (g : GrdN H H' D X) : GrdAt H' D X := let ⟨rs, h1, h2, _⟩ := g; ⟨rs, h1, h2⟩
theorem GrdI.fin {H1 H' : Hp} {D : Addr} {X : List (List V)} {ys : List V} (g : GrdI H1 D X X.length ys H') : Same H1 H' ∧ GrdN H1 H' D X := by
  obtain ⟨rs, rfl, lr, s4, eD, nD, hr, nd, n1⟩ := g
  exact ⟨s4, rs, eD, ⟨lr, hr⟩, nd, fun r h => ⟨n1 r h, nD r h⟩⟩
theorem GrdI.done {H1 H' : Hp} {D : Addr} {X : List (List V)} {ys : List V} (g : GrdI H1 D X X.length ys H') : Same H1 H' ∧ GrdAt H' D X := by
  obtain ⟨rs, rfl, lr, s4, eD, nD, hr, _⟩ := g
  exact ⟨s4, rs, eD, lr, hr⟩
def spCol : Sp := fun vs H Q _ => ∃ (a : Addr) (X : List (List V)) (j : Nat), vs = [.ref a, .int (j : Int)] ∧ GrdAt H a X ∧ X.length ≤ 900 ∧ (∀ x ∈ X, j < x.length) ∧ ∀ D H', Same H H' → H D = none → H' D = some (.lst (X.map fun x => (x[j]?).getD .non)) → Q (.ref D) H'
theorem scCol : FnScope ["rows", "place"] ["rows", "place"] (defScope sCol) := ⟨rfl, rfl, rfl, by decide +kernel, rfl, by decide +kernel, by decide +kernel⟩
theorem lcCol : LcScopes (defScope sCol) ["rows", "place"] (lcScope (asgVal (bodyAt sCol 0))) ["row"] := ⟨by decide +kernel, rfl, by decide +kernel, by decide +kernel, by decide +kernel, by decide +kernel, by decide +kernel, by decide +kernel, by decide +kernel, by decide +kernel⟩
theorem ok_col {f : Addr} {fd : FuncData} (F : Fun K "column_of" "column_of" sCol f fd) : FnOk P w K mg base CX0 1 f fd ["rows", "place"] spCol := by
  refine F.ok scCol (fun vs H Q E h => ?_) (fun cdv A outer s H vs Q E hr h => ?_)
  · obtain ⟨a, X, j, rfl, _⟩ := h
    rfl
  · obtain ⟨a, X, j, rfl, ⟨rs, ha, R⟩, hX, hj, q⟩ := h
    refine ⟨_, pss_one (ps_ret (pe_lc1 rfl lcCol rfl (pi_list (pv 0)) (fun _ _ _ => pe_ix (ix_listK (K := K)) (pv 2) (pv 1) (fun _ _ => rfl)))), ?_⟩
    refine ⟨_, rfl, a, rfl, ⟨_, SqL.of ha⟩, fun D hD => ?_⟩
    refine lc_vals (X.map fun x => (x[j]?).getD .non) (by rw [List.length_map, List.length_map, R.len]) (by rw [List.length_map, R.len]; exact hX) hD (SqL.of ha) ?_ ?_ ?_
    · intro i x v H' hx hv s'
      obtain ⟨r, hr, rfl⟩ := map_get hx
      obtain ⟨y, hy, rfl⟩ := map_get hv
      obtain ⟨z, hz⟩ := get_lt (hj y (List.mem_of_getElem? hy))
      refine ⟨_, rfl, _, rfl, r, _, _, z, rfl, rfl, SqL.of (s' _ _ (R.row i r y hr hy)), atI_nat hz, ?_, Same.refl _⟩
      rw [hz]
      rfl
    · intro H' s' eD
      exact q D H' s' hD eD
    · rintro σ H' Q1 Q2 hq ⟨v, e, v', e', a1, a2, a3, a4, a5, a6, a7, a8, g⟩
      exact ⟨v, e, v', e', a1, a2, a3, a4, a5, a6, a7, a8, hq _ _ g⟩
def colsV (X : List (List V)) (n : Nat) : List (List V) := (List.range n).map fun j => X.map fun x => (x[j]?).getD .non
def spCols : Sp := fun vs H Q _ => ∃ (a : Addr) (X : List (List V)) (n : Nat), vs = [.ref a] ∧ GrdAt H a X ∧ X.length ≤ 900 ∧ n ≤ 900 ∧ (∀ x ∈ X, x.length = n) ∧ (X = [] → n = 0) ∧ ∀ D H', Same H H' → H D = none → GrdAt H' D (colsV X n) → Q (.ref D) H'
theorem scCols : FnScope ["rows", "width"] ["rows"] (defScope sCols) := ⟨rfl, rfl, rfl, by decide +kernel, rfl, by decide +kernel, by decide +kernel⟩
theorem lcCols : LcScopes (defScope sCols) ["rows", "width"] (lcScope (asgVal (bodyAt sCols 1))) ["place"] := ⟨by decide +kernel, rfl, by decide +kernel, by decide +kernel, by decide +kernel, by decide +kernel, by decide +kernel, by decide +kernel, by decide +kernel, by decide +kernel⟩
theorem ok_cols {f fC : Addr} {fd fdC : FuncData} (B : BltR mg) (F : Fun K "columns_of" "columns_of" sCols f fd) (DC : Dn K mg "column_of" sCol ["rows", "place"] fC fdC) (GC : FnOk P w K mg base CX0 1 fC fdC ["rows", "place"] spCol) : FnOk P w K mg base CX0 2 f fd ["rows"] spCols := by
  refine F.ok scCols (fun vs H Q E h => ?_) (fun cdv A outer s H vs Q E hr h => ?_)
  · obtain ⟨a, X, n, rfl, _⟩ := h
    rfl
  · obtain ⟨a, X, n, rfl, ⟨rs, ha, R⟩, hX, hn, hw, h0, q⟩ := h
    refine ⟨_, pss_mid (ps_set (i := 1) scCols.nd rfl (Or.inl rfl) (pe_ifExp (pt_truth (pv 0) (fun _ => rfl)) (pe_callB call_len_seq (by rfl) B.len PySem.boot_len (pa_cons (pe_ix ix_list (pv 0) pe_int (fun _ _ => rfl)) pa_nil)) pe_int))
      (pss_one (ps_ret (pe_lc1 rfl lcCols rfl (pi_range1 rfl B.range (pa_cons (pv 1) pa_nil)) (fun _ _ _ => pe_fn DC GC hr rfl (pa_cons (pv 0) (pa_cons (pv 2) pa_nil)))))), ?_⟩
    refine ⟨fun σ H1 => σ = [some (.ref a), some (.int (n : Int))] ∧ H1 = H, ?_, ?_⟩
    · refine ⟨_, rfl, !(rs.map V.ref).isEmpty, .inl ⟨_, SqL.of ha, rfl⟩, ?_⟩
      have lr := R.len
      match rs, X, lr with
      | [], [], _ =>
        refine iteF ⟨?_, rfl⟩
        rw [h0 rfl]
        rfl
      | r :: rs, x :: X, _ =>
        refine iteT ?_
        refine ⟨_, rfl, a, _, _, .ref r, rfl, rfl, SqL.of ha, atI_nat (j := 0) rfl, r, _, rfl, .inl (SqL.of (R.row 0 r x rfl rfl)), ?_, rfl⟩
        rw [hw x List.mem_cons_self]
        rfl
    · rintro σ H1 ⟨rfl, rfl⟩
      refine ⟨_, rfl, (n : Int), rfl, by omega, by omega, fun D hD => ?_⟩
      rw [Int.toNat_natCast]
      have lc : (colsV X n).length = n := by unfold colsV; rw [List.length_map, List.length_range]
      refine lc_range (n := n) (GrdI H1 D (colsV X n)) (GrdI.start hD) (fun i ys H' _ ⟨_, _, _, _, eD, _⟩ => eD) ?_ ?_ ?_
      · rintro i ys H' hi g
        have e0 : ((0 : Int) + (i : Nat)) = (i : Int) := by omega
        rw [e0]
        have s' : Same H1 H' := let ⟨_, _, _, z, _⟩ := g; z
        refine ⟨_, rfl, _, rfl, a, X, i, rfl, ⟨rs, s' _ _ ha, R.mono s'⟩, hX, fun x hx => by rw [hw x hx]; exact hi, fun p H3 s3 np ep => ?_⟩
        refine g.step hD ?_ ⟨p, rfl, ep, np⟩ s3 (by omega)
        unfold colsV
        rw [List.getElem?_map, List.getElem?_range hi]
        rfl
      · intro ys H' g
        obtain ⟨s', gg⟩ := GrdI.done (X := colsV X n) (by rw [lc]; exact g)
        exact q D H' s' hD gg
      · rintro σ H' Q1 Q2 hq ⟨v, e, v', e', a1, a2, a3, a4, a5, a6, a7, g⟩
        exact ⟨v, e, v', e', a1, a2, a3, a4, a5, a6, a7, fun D H3 s3 n3 e3 => hq _ _ (g D H3 s3 n3 e3)⟩
def spInOne : Sp := fun vs H Q _ => ∃ (a : Addr) (X : List (List V)), vs = [.ref a] ∧ GrdAt H a X ∧ X.flatten.length ≤ 900 ∧ ∀ D H', Same H H' → H D = none → H' D = some (.lst X.flatten) → Q (.ref D) H'
theorem scInOne : FnScope ["rows", "things", "row"] ["rows"] (defScope sInOne) := ⟨rfl, rfl, rfl, by decide +kernel, rfl, by decide +kernel, by decide +kernel⟩
theorem flat_take {X : List (List V)} {i : Nat} {x : List V} (h : X[i]? = some x) : (X.take (i + 1)).flatten = (X.take i).flatten ++ x := by
  rw [take_snoc h, List.flatten_append]
  simp
theorem flat_le (X : List (List V)) (i : Nat) : (X.take i).flatten.length ≤ X.flatten.length := by
  have := congrArg (fun l => (List.flatten l).length) (List.take_append_drop i X)
  simp only [List.flatten_append, List.length_append] at this
  omega
theorem ok_inOne {f : Addr} {fd : FuncData} (F : Fun K "in_one_list" "in_one_list" sInOne f fd) : FnOk P w K mg base CX0 1 f fd ["rows"] spInOne := by
  refine F.ok scInOne (fun vs H Q E h => ?_) (fun cdv A outer s H vs Q E hr h => ?_)
  · obtain ⟨a, X, rfl, _⟩ := h
    rfl
  · obtain ⟨a, X, rfl, ⟨rs, ha, R⟩, hX, q⟩ := h
    refine ⟨_, pss_cons (ps_set (i := 1) scInOne.nd rfl (Or.inl rfl) (pe_lst pa_nil))
      (pss_cons (ps_for PassesOwn.never rfl (pi_list (pv 0)) (pg_name (i := 2) scInOne.nd rfl (Or.inl rfl))
        (pss_one (ps_expr (pe_bm PySem.F.plainAttrs_list PySem.F.slot_list_extend PySem.F.type_list_extend mt_extend (pv 1) (pa_cons (pv 2) pa_nil)))))
      (pss_one (ps_ret (pv 1)))), ?_⟩
    refine ⟨Nat.zero_le _, fun D hD => ?_⟩
    have aD : a ≠ D := ne_of_none ha hD
    refine ⟨_, rfl, a, rfl, ⟨_, SqL.of (by rw [upd_ne aD]; exact ha)⟩, for_list (xs := rs.map V.ref) (fun i σ H' => ∃ (o2 : Option V), σ = [some (.ref a), some (.ref D), o2] ∧ Same H H' ∧ H' D = some (.lst (X.take i).flatten)) ⟨none, rfl, Same.upd hD, by rw [upd_same]; rfl⟩ (fun i σ H' _ ⟨_, _, s', _⟩ => SqL.of (s' _ _ ha)) ?_ ?_⟩
    · rintro i x σ H1 hx ⟨o2, rfl, s1, e1⟩
      obtain ⟨r, hr, rfl⟩ := map_get hx
      obtain ⟨y, hy⟩ := get_lt (l := X) (i := i) (by rw [← R.len]; exact lt_get hr)
      have er := s1 _ _ (R.row i r y hr hy)
      have fl := flat_le X (i + 1)
      rw [flat_take hy, List.length_append] at fl
      refine ⟨_, rfl, .inl ⟨rfl, _, SqL.of e1⟩, _, rfl, ?_⟩
      refine ⟨D, r, _, _, rfl, rfl, e1, er, Nat.le_of_lt (small1000 (by omega)), ?_⟩
      refine ⟨_, rfl, fun b o e => ?_, ?_⟩
      · rw [upd_ne (ne_of_none e hD)]
        exact s1 _ _ e
      · rw [upd_same, flat_take hy]
    · rintro σ H1 ⟨o2, rfl, s1, e1⟩
      rw [List.length_map, R.len, List.take_length] at e1
      exact ⟨_, rfl, q D H1 s1 hD e1⟩
def squareV (xs : List V) (n : Nat) : List (List V) := (List.range n).map fun i => (xs.drop (n * i)).take n
def spInSq (K : PySem.W.Frag) : Sp := fun vs H Q _ => ∃ (a : Addr) (xs : List V) (n : Nat), vs = [.ref a, .int (n : Int)] ∧ SqL K H a xs ∧ xs.length = n * n ∧ n ≤ 16 ∧ ∀ D H', Same H H' → H D = none → GrdN H H' D (squareV xs n) → Q (.ref D) H'
theorem scInSq : FnScope ["things", "size"] ["things", "size"] (defScope sInSq) := ⟨rfl, rfl, rfl, by decide +kernel, rfl, by decide +kernel, by decide +kernel⟩
theorem lcInSq : LcScopes (defScope sInSq) ["things", "size"] (lcScope (asgVal (bodyAt sInSq 0))) ["place"] := ⟨by decide +kernel, rfl, by decide +kernel, by decide +kernel, by decide +kernel, by decide +kernel, by decide +kernel, by decide +kernel, by decide +kernel, by decide +kernel⟩
theorem cut_sq {xs : List V} {n i : Nat} (hx : xs.length = n * n) (hi : i < n) : cutV xs (some ((n : Int) * (i : Int))) (some ((n : Int) * ((i : Int) + 1))) = (xs.drop (n * i)).take n := by
  have h1 : n * (i + 1) ≤ n * n := Nat.mul_le_mul_left n hi
  have e1 : (n : Int) * (i : Int) = ((n * i : Nat) : Int) := by push_cast; rfl
  have e2 : (n : Int) * ((i : Int) + 1) = ((n * (i + 1) : Nat) : Int) := by push_cast; rfl
  have h2 : n * (i + 1) = n * i + n := Nat.mul_succ n i
  unfold cutV
  rw [e1, e2, HT.sIx_nat, HT.sIx_nat, hx, Nat.min_eq_left h1, Nat.min_eq_left (show n * i ≤ n * n by omega)]
  congr 1
  omega
theorem sl_listK {X : Cx} (h : X.K = K := by rfl) : SlR X (rSlL K) := by subst h; exact sl_list
theorem ok_inSq {f : Addr} {fd : FuncData} (B : BltR mg) (F : Fun K "in_square" "in_square" sInSq f fd) : FnOk P w K mg base CX0 1 f fd ["things", "size"] (spInSq K) := by
  refine F.ok scInSq (fun vs H Q E h => ?_) (fun cdv A outer s H vs Q E hr h => ?_)
  · obtain ⟨a, xs, n, rfl, _⟩ := h
    rfl
  · obtain ⟨a, xs, n, rfl, ha, hx, hn, q⟩ := h
    refine ⟨_, pss_one (ps_ret (pe_lc1 rfl lcInSq rfl (pi_range1 rfl B.range (pa_cons (pv 1) pa_nil)) (fun _ _ _ => pe_slice (sl_listK (K := K)) (pv 0) (po_some (pe_op op_mul (pv 1) (pv 2))) (po_some (pe_op op_mul (pv 1) (pe_op op_add (pv 2) pe_int)))))), ?_⟩
    refine ⟨_, rfl, (n : Int), rfl, by omega, by omega, fun D hD => ?_⟩
    rw [Int.toNat_natCast]
    have lc : (squareV xs n).length = n := by unfold squareV; rw [List.length_map, List.length_range]
    refine lc_range (n := n) (GrdI H D (squareV xs n)) (GrdI.start hD) (fun i ys H' _ ⟨_, _, _, _, eD, _⟩ => eD) ?_ ?_ ?_
    · rintro i ys H' hi g
      have e0 : ((0 : Int) + (i : Nat)) = (i : Int) := by omega
      rw [e0]
      have s' : Same H H' := let ⟨_, _, _, z, _⟩ := g; z
      refine ⟨_, rfl, _, rfl, _, rfl, _, _, rfl, rfl, cmul_l (by omega) (by omega), _, rfl, _, rfl, _, rfl, _, _, rfl, rfl, _, _, rfl, rfl, cmul_l (by omega) (by omega), _, rfl, a, xs, rfl, s'.seq ha, fun p hp => ?_⟩
      have st := g.step (u := .ref p) (x := (xs.drop (n * i)).take n) hD (by unfold squareV; rw [List.getElem?_map, List.getElem?_range hi]; rfl) ⟨p, rfl, upd_same, hp⟩ (Same.upd hp) (by omega)
      rw [← cut_sq hx hi] at st
      exact st
    · intro ys H' g
      obtain ⟨s', gg⟩ := GrdI.fin (X := squareV xs n) (by rw [lc]; exact g)
      exact q D H' s' hD gg
    · rintro σ H' Q1 Q2 hq ⟨v1, e1, v2, e2, v3, e3, i1, j1, f1, f2, c1, l1, e4, v5, e5, v6, e6, i2, j2, f3, f4, i3, j3, f5, f6, c2, h1, e7, a1, x1, e8, q1, g⟩
      exact ⟨v1, e1, v2, e2, v3, e3, i1, j1, f1, f2, c1, l1, e4, v5, e5, v6, e6, i2, j2, f3, f4, i3, j3, f5, f6, c2, h1, e7, a1, x1, e8, q1, fun p hp => hq _ _ (g p hp)⟩
end
section
variable {P : Program} {w : World} {K : PySem.W.Frag} {mg : Str → Option Value} {base : Heap}
def gI (M : List (List Int)) : List (List V) := M.map fun x => x.map V.int
theorem gI_get {M : List (List Int)} {i : Nat} {x : List Int} (h : M[i]? = some x) : (gI M)[i]? = some (x.map V.int) := by unfold gI; rw [List.getElem?_map, h]; rfl
theorem gI_len (M : List (List Int)) : (gI M).length = M.length := by unfold gI; rw [List.length_map]
open TM in
def spEachG : Sp := fun vs H Q _ => ∃ (a l : Addr) (M : List (List Int)) (r : List Int) (n : Nat), vs = [.ref l, .ref a] ∧ GrdAt H a (gI M) ∧ H l = some (.lst (r.map V.int)) ∧ M.length ≤ 900 ∧ r.length ≤ 900 ∧ n ≤ 1000000 ∧ (∀ x ∈ M, x.length = r.length ∧ ∀ z ∈ x, M11.Bn n z) ∧ (∀ x ∈ r, M11.Bn n x) ∧
  ∀ D H', Same H H' → H D = none → H' D = some (.lst ((M.map fun w => dot w r).map V.int)) → Q (.ref D) H'
theorem ok_eachG {f fD : Addr} {fd fdD : FuncData} (F : Fun K "sums_with_each" "sums_with_each" sEach f fd) (DD : Dn K mg "sum_of_products" sDot ["numbers", "others"] fD fdD) (GD : FnOk P w K mg base CX0 1 fD fdD ["numbers", "others"] spDot) : FnOk P w K mg base CX0 2 f fd ["numbers", "rows"] spEachG := by
  refine F.ok scEach (fun vs H Q E h => ?_) (fun cdv A outer s H vs Q E hr h => ?_)
  · obtain ⟨a, l, M, r, n, rfl, _⟩ := h
    rfl
  · obtain ⟨a, l, M, r, n, rfl, ⟨rs, ha, R⟩, hl, hM, hrl, hn, hw, hr', q⟩ := h
    have lr : rs.length = M.length := by rw [R.len, gI_len]
    refine ⟨_, pss_one (ps_ret (pe_lc1 rfl lcEach rfl (pi_list (pv 1)) (fun _ _ _ => pe_fn DD GD hr rfl (pa_cons (pv 0) (pa_cons (pv 2) pa_nil))))), ?_⟩
    refine ⟨_, rfl, a, rfl, ⟨_, SqL.of ha⟩, fun D hD => ?_⟩
    refine lc_vals ((M.map fun w => TM.dot w r).map V.int) (by rw [List.length_map, List.length_map, List.length_map, lr]) (by rw [List.length_map, lr]; omega) hD (SqL.of ha) ?_ ?_ ?_
    · intro i x v H' hx hv s'
      obtain ⟨ra, hra, rfl⟩ := map_get hx
      obtain ⟨z, hz, rfl⟩ := map_get hv
      obtain ⟨row, hrow, rfl⟩ := map_get hz
      have er := R.row i ra _ hra (gI_get hrow)
      obtain ⟨w1, w2⟩ := hw row (List.mem_of_getElem? hrow)
      rw [dot_comm row r]
      exact ⟨_, rfl, _, rfl, l, ra, r, row, n, rfl, s' _ _ hl, s' _ _ er, w1.symm, hrl, hn, hr', w2, fun H3 s3 => ⟨rfl, s3⟩⟩
    · intro H' s' eD
      exact q D H' s' hD eD
    · rintro σ H' Q1 Q2 hq ⟨v, e, v', e', a1, a2, a3, a4, a5, a6, a7, a8, a9, a10, a11, a12, a13, g⟩
      exact ⟨v, e, v', e', a1, a2, a3, a4, a5, a6, a7, a8, a9, a10, a11, a12, a13, fun H3 s3 => hq _ _ (g H3 s3)⟩
def colsI (N : List (List Int)) (n : Nat) : List (List Int) := (List.range n).map fun j => N.map fun x => (x[j]?).getD 0
theorem cols_gI {N : List (List Int)} {n : Nat} (h : ∀ x ∈ N, x.length = n) : colsV (gI N) n = gI (colsI N n) := by
  unfold colsV colsI
  show _ = List.map (fun x : List Int => x.map V.int) _
  rw [List.map_map]
  refine List.map_congr_left fun j hj => ?_
  show ((gI N).map fun x => (x[j]?).getD .non) = (N.map fun x => (x[j]?).getD 0).map V.int
  unfold gI
  rw [List.map_map, List.map_map]
  refine List.map_congr_left fun x hx => ?_
  show ((x.map V.int)[j]?).getD .non = V.int ((x[j]?).getD 0)
  obtain ⟨z, hz⟩ := get_lt (l := x) (i := j) (by rw [h x hx]; exact List.mem_range.mp hj)
  rw [List.getElem?_map, hz]
  rfl
open TM in
def prodI (M N : List (List Int)) (n : Nat) : List (List Int) := M.map fun r => (colsI N n).map fun c => dot c r
def spProd : Sp := fun vs H Q _ => ∃ (a b : Addr) (M N : List (List Int)) (n k : Nat), vs = [.ref a, .ref b] ∧ GrdAt H a (gI M) ∧ GrdAt H b (gI N) ∧ M.length ≤ 900 ∧ N.length ≤ 900 ∧ n ≤ 900 ∧ k ≤ 1000000 ∧ (∀ x ∈ M, x.length = N.length ∧ ∀ z ∈ x, M11.Bn k z) ∧ (∀ x ∈ N, x.length = n ∧ ∀ z ∈ x, M11.Bn k z) ∧ (N = [] → n = 0) ∧
  ∀ D H', Same H H' → H D = none → GrdAt H' D (gI (prodI M N n)) → Q (.ref D) H'
theorem scProd : FnScope ["rows", "others", "columns"] ["rows", "others"] (defScope sProd) := ⟨rfl, rfl, rfl, by decide +kernel, rfl, by decide +kernel, by decide +kernel⟩
theorem lcProd : LcScopes (defScope sProd) ["rows", "others", "columns"] (lcScope (asgVal (bodyAt sProd 1))) ["row"] := ⟨by decide +kernel, rfl, by decide +kernel, by decide +kernel, by decide +kernel, by decide +kernel, by decide +kernel, by decide +kernel, by decide +kernel, by decide +kernel⟩
theorem ok_prod {f fC fE : Addr} {fd fdC fdE : FuncData} (F : Fun K "product_of_grids" "product_of_grids" sProd f fd) (DC : Dn K mg "columns_of" sCols ["rows"] fC fdC) (GC : FnOk P w K mg base CX0 2 fC fdC ["rows"] spCols)
    (DE : Dn K mg "sums_with_each" sEach ["numbers", "rows"] fE fdE) (GE : FnOk P w K mg base CX0 2 fE fdE ["numbers", "rows"] spEachG) : FnOk P w K mg base CX0 3 f fd ["rows", "others"] spProd := by
  refine F.ok scProd (fun vs H Q E h => ?_) (fun cdv A outer s H vs Q E hr h => ?_)
  · obtain ⟨a, b, M, N, n, k, rfl, _⟩ := h
    rfl
  · obtain ⟨a, b, M, N, n, k, rfl, ⟨rs, ha, R⟩, gb, hM, hN, hn, hk, hm, hN', h0, q⟩ := h
    have lr : rs.length = M.length := by rw [R.len, gI_len]
    refine ⟨_, pss_cons (ps_set (i := 2) scProd.nd rfl (Or.inr rfl) (pe_fn DC GC hr rfl (pa_cons (pv 1) pa_nil)))
      (pss_one (ps_ret (pe_lc1 rfl lcProd rfl (pi_list (pv 0)) (fun _ _ _ => pe_fn DE GE hr rfl (pa_cons (pv 3) (pa_cons (pv 2) pa_nil)))))), ?_⟩
    refine ⟨_, rfl, b, gI N, n, rfl, gb, by rw [gI_len]; exact hN, hn, fun x hx => ?_, fun z => h0 ?_, fun C H1 s1 nC gC => ?_⟩
    · obtain ⟨y, hy, rfl⟩ := List.mem_map.mp hx
      rw [List.length_map]
      exact (hN' y hy).1
    · exact List.map_eq_nil_iff.mp z
    rw [cols_gI fun x hx => (hN' x hx).1] at gC
    refine ⟨_, rfl, a, rfl, ⟨_, SqL.of (s1 _ _ ha)⟩, fun D hD => ?_⟩
    refine lc_list (xs := rs.map V.ref) (GrdI H1 D (gI (prodI M N n))) (GrdI.start hD) (fun i ys H' _ ⟨_, _, _, s', eD, _⟩ => ⟨SqL.of (s' _ _ (s1 _ _ ha)), eD⟩) ?_ ?_ ?_
    · rintro i x ys H' hx g
      obtain ⟨r, hr', rfl⟩ := map_get hx
      obtain ⟨row, hrow⟩ := get_lt (l := M) (i := i) (by rw [← lr]; exact lt_get hr')
      have s' : Same H1 H' := let ⟨_, _, _, z, _⟩ := g; z
      have er := (s1.trans s') _ _ (R.row i r _ hr' (gI_get hrow))
      obtain ⟨w1, w2⟩ := hm row (List.mem_of_getElem? hrow)
      refine ⟨_, rfl, _, rfl, C, r, colsI N n, row, k, rfl, gC.mono s', er, by unfold colsI; rw [List.length_map, List.length_range]; exact hn, by omega, hk, fun c hc => ?_, w2, fun p H3 s3 np ep => ?_⟩
      · unfold colsI at hc
        obtain ⟨j, hj, rfl⟩ := List.mem_map.mp hc
        refine ⟨by rw [List.length_map, w1], fun z hz => ?_⟩
        obtain ⟨y, hy, rfl⟩ := List.mem_map.mp hz
        obtain ⟨u, hu⟩ := get_lt (l := y) (i := j) (by rw [(hN' y hy).1]; exact List.mem_range.mp hj)
        show M11.Bn k ((y[j]?).getD 0)
        rw [hu]
        exact (hN' y hy).2 u (List.mem_of_getElem? hu)
      · refine g.step hD ?_ ⟨p, rfl, ep, np⟩ s3 (by have := lt_get hrow; omega)
        exact gI_get (by unfold prodI; rw [List.getElem?_map, hrow]; rfl)
    · intro ys H' g
      have ll : (rs.map V.ref).length = (gI (prodI M N n)).length := by rw [List.length_map, gI_len, lr]; unfold prodI; rw [List.length_map]
      rw [ll] at g
      obtain ⟨s', gg⟩ := g.done
      exact q D H' (s1.trans s') (s1.free hD) gg
    · rintro σ H' Q1 Q2 hq ⟨v, e, v', e', a1, a2, a3, a4, a5, a6, a7, a8, a9, a10, a11, a12, a13, g⟩
      exact ⟨v, e, v', e', a1, a2, a3, a4, a5, a6, a7, a8, a9, a10, a11, a12, a13, fun D H3 s3 n3 e3 => hq _ _ (g D H3 s3 n3 e3)⟩
end
section
variable {P : Program} {w : World} {K : PySem.W.Frag} {mg : Str → Option Value} {base : Heap}
theorem flat_get {α : Type} {n : Nat} : ∀ (X : List (List α)), (∀ x ∈ X, x.length = n) → ∀ i j, j < n → X.flatten[i * n + j]? = (X[i]?).bind fun x => x[j]?
  | [], _, i, j, _ => by simp
  | x :: X, h, 0, j, hj => by
    rw [List.flatten_cons, Nat.zero_mul, Nat.zero_add, List.getElem?_append_left (by rw [h x List.mem_cons_self]; exact hj)]
    rfl
  | x :: X, h, i + 1, j, hj => by
    have e : (i + 1) * n + j = n + (i * n + j) := by rw [Nat.succ_mul]; omega
    have lx := h x List.mem_cons_self
    rw [List.flatten_cons, e, List.getElem?_append_right (by omega), lx, Nat.add_sub_cancel_left, flat_get X (fun y hy => h y (List.mem_cons_of_mem _ hy)) i j hj, List.getElem?_cons_succ]
theorem flatn_len {α : Type} {n : Nat} : ∀ (X : List (List α)), (∀ x ∈ X, x.length = n) → X.flatten.length = X.length * n
  | [], _ => by simp
  | x :: X, h => by
    rw [List.flatten_cons, List.length_append, h x List.mem_cons_self, flatn_len X fun y hy => h y (List.mem_cons_of_mem _ hy), List.length_cons, Nat.succ_mul]
    omega
theorem flat_gI (M : List (List Int)) : (gI M).flatten = M.flatten.map V.int := by
  unfold gI
  induction M with
  | nil => rfl
  | cons x M ih => rw [List.map_cons, List.flatten_cons, ih, List.flatten_cons, List.map_append]
def sqI (ts : List Int) (n : Nat) : List (List Int) := (List.range n).map fun i => (ts.drop (n * i)).take n
theorem sq_gI (ts : List Int) (n : Nat) : squareV (ts.map V.int) n = gI (sqI ts n) := by
  unfold squareV gI sqI
  rw [List.map_map]
  refine List.map_congr_left fun i _ => ?_
  show ((ts.map V.int).drop (n * i)).take n = ((ts.drop (n * i)).take n).map V.int
  rw [List.map_take, List.map_drop]
theorem sqI_len (ts : List Int) (n : Nat) : (sqI ts n).length = n := by unfold sqI; rw [List.length_map, List.length_range]
theorem sqI_get {ts : List Int} {n i : Nat} (h : i < n) : (sqI ts n)[i]? = some ((ts.drop (n * i)).take n) := by
  unfold sqI
  rw [List.getElem?_map, List.getElem?_range h]
  rfl
theorem cut_len {ts : List Int} {n i : Nat} (h : i < n) (hl : ts.length = n * n) : ((ts.drop (n * i)).take n).length = n := by
  have : n * i + n ≤ n * n := by
    have := Nat.mul_le_mul_left n (show i + 1 ≤ n from h)
    rw [Nat.mul_succ] at this
    exact this
  rw [List.length_take, List.length_drop, hl, Nat.min_eq_left (by omega)]
theorem cut_get {ts : List Int} {n i v : Nat} {x : Int} (h : ((ts.drop (n * i)).take n)[v]? = some x) : ts[i * n + v]? = some x := by
  have hv : v < n := by
    have := (List.getElem?_eq_some_iff.mp h).1
    rw [List.length_take] at this
    omega
  rw [List.getElem?_take_of_lt hv, List.getElem?_drop] at h
  rw [Nat.mul_comm]
  exact h
theorem sqI_mem {ts : List Int} {n : Nat} (hl : ts.length = n * n) {x : List Int} (h : x ∈ sqI ts n) : x.length = n ∧ ∀ z ∈ x, z ∈ ts := by
  obtain ⟨i, hi, rfl⟩ := List.mem_map.mp h
  exact ⟨cut_len (List.mem_range.mp hi) hl, fun z hz => List.mem_of_mem_drop (List.mem_of_mem_take hz)⟩
def clI (us : List Int) (n j : Nat) : List Int := (sqI us n).map fun x => (x[j]?).getD 0
theorem clI_len (us : List Int) (n j : Nat) : (clI us n j).length = n := by unfold clI; rw [List.length_map, sqI_len]
theorem clI_get {us : List Int} {n j v : Nat} {x : Int} (hl : us.length = n * n) (hj : j < n) (h : (clI us n j)[v]? = some x) : us[v * n + j]? = some x := by
  have hv : v < n := by rw [← clI_len us n j]; exact lt_get h
  unfold clI at h
  rw [List.getElem?_map, sqI_get hv] at h
  have e : ((us.drop (n * v)).take n)[j]?.getD 0 = x := Option.some.inj h
  obtain ⟨y, ey⟩ := get_lt (l := (us.drop (n * v)).take n) (i := j) (by rw [cut_len hv hl]; exact hj)
  rw [ey] at e
  obtain rfl : y = x := e
  exact cut_get ey
theorem cols_sq (us : List Int) (n : Nat) : colsI (sqI us n) n = (List.range n).map (clI us n) := rfl
theorem prod_row {ts us : List Int} {n i : Nat} (h : i < n) : (prodI (sqI ts n) (sqI us n) n)[i]? = some ((List.range n).map fun j => TM.dot (clI us n j) ((ts.drop (n * i)).take n)) := by
  unfold prodI
  rw [List.getElem?_map, sqI_get h, cols_sq]
  show some (((List.range n).map (clI us n)).map fun c => TM.dot c ((ts.drop (n * i)).take n)) = some _
  rw [List.map_map]
  rfl
theorem prod_mem {ts us : List Int} {n : Nat} {x : List Int} (h : x ∈ prodI (sqI ts n) (sqI us n) n) : x.length = n := by
  obtain ⟨r, _, rfl⟩ := List.mem_map.mp h
  rw [List.length_map, cols_sq, List.length_map, List.length_range]
theorem prod_len (ts us : List Int) (n : Nat) : (prodI (sqI ts n) (sqI us n) n).length = n := by unfold prodI; rw [List.length_map, sqI_len]
theorem prod_get {ts us : List Int} {n i j : Nat} (hi : i < n) (hj : j < n) : (prodI (sqI ts n) (sqI us n) n).flatten[i * n + j]? = some (TM.dot (clI us n j) ((ts.drop (n * i)).take n)) := by
  rw [flat_get _ (fun x hx => prod_mem hx) i j hj, prod_row hi]
  show ((List.range n).map _)[j]? = _
  rw [List.getElem?_map, List.getElem?_range hj]
  rfl
open Q6 (Va) in
def VaAt (H : Hp) (v : V) (n s : Nat) (f : Nat → Rat) : Prop := ∃ r : TM.Rw, RwAt H v r ∧ Va n s f r.1 r.2
theorem VaAt.mono {H H' : Hp} {v : V} {n s : Nat} {f : Nat → Rat} (h : VaAt H v n s f) (e : Same H H') : VaAt H' v n s f := by
  obtain ⟨r, h1, h2⟩ := h
  exact ⟨r, h1.mono e, h2⟩
theorem va499 {n s : Nat} {f : Nat → Rat} {ts : List Int} {b : Int} (S : Q6.Va n s f ts b) (hs : s ≤ 1500) : M11.Bn 499 b := (Q6.le_bn S.bot).mono (by omega)
def fThen (n : Nat) (f g : Nat → Rat) : Nat → Rat := fun k => Q6.sm (fun v => f (k / n * n + v) * g (v * n + k % n)) n
theorem va_then {n s s' : Nat} {f g : Nat → Rat} {ts us : List Int} {b e : Int} (S : Q6.Va (n * n) s f ts b) (T : Q6.Va (n * n) s' g us e) (hn : n ≤ 16) : Q6.Va (n * n) (s + s' + 1) (fThen n f g) (prodI (sqI ts n) (sqI us n) n).flatten (b * e) := by
  refine S.thn T hn (rw' := fun i => (ts.drop (n * i)).take n) (cl := clI us n) (by rw [flatn_len _ fun x hx => prod_mem hx, prod_len]) (fun i hi => ⟨cut_len hi S.len, fun v x h => cut_get h⟩) (fun j hj => ⟨clI_len us n j, fun v x h => clI_get T.len hj h⟩) fun i j x hi hj h => ?_
  rw [prod_get hi hj] at h
  exact (Option.some.inj h).symm
def spThen : Sp := fun vs H Q _ => ∃ (n : Nat) (v u : V) (s s' : Nat) (f g : Nat → Rat), vs = [.int (n : Int), v, u] ∧ n ≤ 16 ∧ VaAt H v (n * n) s f ∧ VaAt H u (n * n) s' g ∧ s ≤ 1500 ∧ s' ≤ 1500 ∧ ∀ z H', Same H H' → VaAt H' z (n * n) (s + s' + 1) (fThen n f g) → Q z H'
abbrev nThen : List Str := ["size", "value", "other", "rows"]
theorem scThen : FnScope nThen ["size", "value", "other"] (defScope sThen) := ⟨rfl, rfl, rfl, by decide +kernel, rfl, by decide +kernel, by decide +kernel⟩
theorem ok_then {f fP fS fO fL : Addr} {fd fdP fdS fdO fdL : FuncData} (F : Fun K "one_then_other" "one_then_other" sThen f fd)
    (DP : Dn K mg "product_of_grids" sProd ["rows", "others"] fP fdP) (GP : FnOk P w K mg base CX0 3 fP fdP ["rows", "others"] spProd)
    (DS : Dn K mg "in_square" sInSq ["things", "size"] fS fdS) (GS : FnOk P w K mg base CX0 1 fS fdS ["things", "size"] (spInSq K))
    (DO : Dn K mg "in_one_list" sInOne ["rows"] fO fdO) (GO : FnOk P w K mg base CX0 1 fO fdO ["rows"] spInOne)
    (DL : Dn K mg "lowered" sLowered ["tops", "bottom"] fL fdL) (GL : FnOk P w K mg base CX0 3 fL fdL ["tops", "bottom"] spLowered) : FnOk P w K mg base CX0 4 f fd ["size", "value", "other"] spThen := by
  refine F.ok scThen (fun vs H Q E h => ?_) (fun cdv A outer s H vs Q E hr h => ?_)
  · obtain ⟨n, v, u, s, s', f, g, rfl, _⟩ := h
    rfl
  · obtain ⟨n, v, u, z, z', f, g, rfl, hn, ⟨⟨ts, b⟩, ⟨p, l, rfl, hp, hl⟩, S⟩, ⟨⟨us, e⟩, ⟨p', l', rfl, hp', hl'⟩, T⟩, hz, hz', q⟩ := h
    dsimp only at hp hl hp' hl' S T
    have r1 := hr.mono (j := 1) (by decide)
    have nn : n * n ≤ 256 := Nat.mul_le_mul hn hn
    have Sn := va_then S T hn
    have lS := S.len
    have lT := T.len
    have bb := bot1000 (va499 S hz) (va499 T hz')
    refine ⟨_, pss_cons (ps_set (i := 3) scThen.nd rfl (Or.inl rfl) (pe_fn DP GP hr rfl (pa_cons (pe_fn DS GS r1 rfl (pa_cons (pe_ix ix_tup (pv 1) pe_int (fun _ _ => rfl)) (pa_cons (pv 0) pa_nil))) (pa_cons (pe_fn DS GS r1 rfl (pa_cons (pe_ix ix_tup (pv 2) pe_int (fun _ _ => rfl)) (pa_cons (pv 0) pa_nil))) pa_nil))))
      (pss_one (ps_ret (pe_fn DL GL hr rfl (pa_cons (pe_fn DO GO r1 rfl (pa_cons (pv 3) pa_nil)) (pa_cons (pe_op op_mulN (pe_ix ix_tup (pv 1) pe_int (fun _ _ => rfl)) (pe_ix ix_tup (pv 2) pe_int (fun _ _ => rfl))) pa_nil))))), ?_⟩
    refine ⟨_, rfl, p, _, _, _, rfl, rfl, SqT.of hp, rfl, _, rfl, l, _, n, rfl, SqL.of hl, by rw [List.length_map, lS], hn, fun a H1 s1 na ga => ?_⟩
    refine ⟨_, rfl, p', _, _, _, rfl, rfl, SqT.of (s1 _ _ hp'), rfl, _, rfl, l', _, n, rfl, SqL.of (s1 _ _ hl'), by rw [List.length_map, lT], hn, fun a' H2 s2 na' ga' => ?_⟩
    rw [sq_gI] at ga ga'
    refine ⟨a, a', _, _, n, 13000, rfl, ga.grd.mono s2, ga'.grd, by rw [sqI_len]; omega, by rw [sqI_len]; omega, by omega, by omega, fun x hx => ⟨by rw [sqI_len]; exact (sqI_mem lS hx).1, fun y hy => (S.tops y ((sqI_mem lS hx).2 y hy)).mono (by omega)⟩, fun x hx => ⟨(sqI_mem lT hx).1, fun y hy => (T.tops y ((sqI_mem lT hx).2 y hy)).mono (by omega)⟩, fun y => by have := congrArg List.length y; rw [sqI_len] at this; exact this, fun R H3 s3 nR gR => ?_⟩
    have s03 := (s1.trans s2).trans s3
    refine ⟨_, rfl, R, _, rfl, gR, by rw [flat_gI, List.length_map, Sn.len]; omega, fun D H4 s4 nD eD => ?_⟩
    have s04 := s03.trans s4
    rw [flat_gI] at eD
    refine ⟨_, rfl, p, _, _, _, rfl, rfl, SqT.of (s04 _ _ hp), rfl, _, rfl, p', _, _, _, rfl, rfl, SqT.of (s04 _ _ hp'), rfl, _, _, rfl, rfl, ⟨499, by decide, va499 S hz, va499 T hz'⟩, D, _, _, rfl, eD, Sn.pos, bb, by rw [Sn.len]; omega, fun v' H'' s'' rz => q v' H'' (s04.trans s'') ⟨_, rz, Sn.lower⟩⟩
end
section
variable {P : Program} {w : World} {K : PySem.W.Frag} {mg : Str → Option Value} {base : Heap}
theorem sne {a b : Str} (h : a ≠ b) : ¬ V.str a = V.str b := fun z => h (V.str.inj z)
theorem rep_map (z : Int) (k : Nat) : (List.replicate k [V.int z]).flatten = (List.replicate k z).map V.int := by
  induction k with
  | zero => rfl
  | succ k ih => rw [List.replicate_succ, List.flatten_cons, ih, List.replicate_succ, List.map_cons]; rfl
theorem nn_inj {n a b i j : Nat} (hb : b < n) (hj : j < n) (h : a * n + b = i * n + j) : a = i ∧ b = j := by
  have n0 : 0 < n := by omega
  have e1 : (a * n + b) / n = a := by rw [Nat.mul_comm, Nat.mul_add_div n0, Nat.div_eq_of_lt hb, Nat.add_zero]
  have e2 : (i * n + j) / n = i := by rw [Nat.mul_comm, Nat.mul_add_div n0, Nat.div_eq_of_lt hj, Nat.add_zero]
  have e : a = i := by rw [← e1, ← e2, h]
  subst e
  exact ⟨rfl, by omega⟩
theorem nn_lt {n i j : Nat} (hi : i < n) (hj : j < n) : i * n + j < n * n := by
  have := Nat.mul_le_mul_right n (show i + 1 ≤ n from hi)
  rw [Nat.succ_mul] at this
  omega
def Dg (ts us : List Int) (n i : Nat) : Prop := us.length = n * n ∧ ∀ (a b : Nat) (x : Int), a < n → b < n → us[a * n + b]? = some x → if a = b ∧ a < i then ts[a]? = some x else x = 0
theorem Dg.start (ts : List Int) (n : Nat) : Dg ts (List.replicate (n * n) 0) n 0 := by
  refine ⟨by rw [List.length_replicate], fun a b x _ _ h => ?_⟩
  rw [if_neg (by omega)]
  exact List.eq_of_mem_replicate (List.mem_of_getElem? h)
theorem Dg.step {ts us : List Int} {n i : Nat} {z : Int} (h : Dg ts us n i) (hz : ts[i]? = some z) (hi : i < n) : Dg ts (us.set (i * n + i) z) n (i + 1) := by
  refine ⟨by rw [List.length_set]; exact h.1, fun a b x ha hb e => ?_⟩
  by_cases c : i * n + i = a * n + b
  · obtain ⟨rfl, rfl⟩ := nn_inj hi hb c
    rw [List.getElem?_set_self (by rw [h.1]; exact nn_lt hi hi)] at e
    rw [if_pos ⟨rfl, by omega⟩, ← Option.some.inj e]
    exact hz
  · rw [List.getElem?_set_ne c] at e
    have := h.2 a b x ha hb e
    by_cases d : a = b ∧ a < i
    · rw [if_pos d] at this
      rw [if_pos ⟨d.1, by omega⟩]
      exact this
    · rw [if_neg d] at this
      rw [if_neg fun ⟨d1, d2⟩ => d ⟨d1, by
        rcases Nat.lt_or_ge a i with q | q
        · exact q
        · exact absurd (by rw [← d1, show a = i by omega]) c⟩]
      exact this
theorem Dg.done {ts us : List Int} {n : Nat} (h : Dg ts us n n) : us.length = n * n ∧ ∀ (i j : Nat) (x : Int), i < n → j < n → us[i * n + j]? = some x → if i = j then ts[i]? = some x else x = 0 := by
  refine ⟨h.1, fun i j x hi hj e => ?_⟩
  have := h.2 i j x hi hj e
  by_cases c : i = j
  · rw [if_pos ⟨c, hi⟩] at this; rw [if_pos c]; exact this
  · rw [if_neg fun z => c z.1] at this; rw [if_neg c]; exact this
def spWhere : Sp := fun vs H Q _ => ∃ (l : Addr) (ts : List Int) (n : Nat), vs = [.ref l] ∧ H l = some (.lst (ts.map V.int)) ∧ ts.length = n ∧ n ≤ 16 ∧ ∀ D H' (us : List Int), Same H H' → H D = none → H' D = some (.lst (us.map V.int)) → Dg ts us n n → Q (.ref D) H'
abbrev nWhere : List Str := ["tops", "size", "spread", "place", "top"]
theorem scWhere : FnScope nWhere ["tops"] (defScope sWhereSame) := ⟨rfl, rfl, rfl, by decide +kernel, rfl, by decide +kernel, by decide +kernel⟩
theorem ok_where {f : Addr} {fd : FuncData} (B : BltR mg) (F : Fun K "tops_where_same" "tops_where_same" sWhereSame f fd) : FnOk P w K mg base CX0 1 f fd ["tops"] spWhere := by
  refine F.ok scWhere (fun vs H Q E h => ?_) (fun cdv A outer s H vs Q E hr h => ?_)
  · obtain ⟨l, ts, n, rfl, _⟩ := h
    rfl
  · obtain ⟨l, ts, n, rfl, hl, ln, hn, q⟩ := h
    refine ⟨_, pss_cons (ps_set (i := 1) scWhere.nd rfl (Or.inl rfl) (pe_callB call_len_seq (by rfl) B.len PySem.boot_len (pa_cons (pv 0) pa_nil)))
      (pss_cons (ps_set (i := 2) scWhere.nd rfl (Or.inl rfl) (pe_op op_rep (pe_lst (pa_cons pe_int pa_nil)) (pe_op op_mul (pv 1) (pv 1))))
      (pss_cons (ps_for PassesOwn.never rfl (pi_enum rfl B.enum (pa_cons (pv 0) pa_nil)) (pg_tup rfl (pgs_cons (pg_name (i := 3) scWhere.nd rfl (Or.inl rfl)) (pgs_cons (pg_name (i := 4) scWhere.nd rfl (Or.inl rfl)) pgs_nil)))
        (pss_one (ps_asg (pv 4) (pg_sub (pv 2) (pe_op op_add (pe_op op_mul (pv 3) (pv 1)) (pv 3)) set_list))))
      (pss_one (ps_ret (pv 2))))), ?_⟩
    refine ⟨_, rfl, l, _, rfl, .inl (SqL.of hl), ?_⟩
    rw [List.length_map, ln]
    have nn : n * n ≤ 256 := Nat.mul_le_mul hn hn
    refine ⟨(by show 1 ≤ sizeLine; decide), fun l1 hl1 => ?_⟩
    have eN : (n : Int) * (n : Int) = ((n * n : Nat) : Int) := by push_cast; rfl
    refine ⟨_, rfl, _, rfl, _, _, rfl, rfl, cmul_l (by omega) (by omega), l1, _, _, rfl, rfl, upd_same, ?_, ?_, ?_, fun l2 hl2 => ?_⟩
    · rw [eN]; omega
    · rw [eN]; omega
    · rw [eN, Int.toNat_natCast]
      exact Nat.le_of_lt (small1000 (by show 1 * (n * n) ≤ 1000; omega))
    rw [eN, Int.toNat_natCast, rep_map]
    have s1 : Same H (L2.upd H l1 (.lst [.int 0])) := Same.upd hl1
    generalize L2.upd H l1 (.lst [.int 0]) = H1 at s1 hl2 ⊢
    have hD0 : H l2 = none := s1.free hl2
    have s2 : Same H (L2.upd H1 l2 (.lst ((List.replicate (n * n) (0 : Int)).map V.int))) := s1.trans (Same.upd hl2)
    have e2 : L2.upd H1 l2 (.lst ((List.replicate (n * n) (0 : Int)).map V.int)) l2 = some (.lst ((List.replicate (n * n) (0 : Int)).map V.int)) := upd_same
    generalize L2.upd H1 l2 (.lst ((List.replicate (n * n) (0 : Int)).map V.int)) = H2 at s2 e2 ⊢
    refine ⟨_, rfl, l, rfl, ⟨_, SqL.of (s2 _ _ hl)⟩, for_enum (K := K) (xs := ts.map V.int) (fun i σ H' => ∃ (o3 o4 : Option V) (us : List Int), σ = [some (.ref l), some (.int (n : Int)), some (.ref l2), o3, o4] ∧ Same H H' ∧ H' l2 = some (.lst (us.map V.int)) ∧ Dg ts us n i) ?_ ?_ ?_ ?_⟩
    · exact ⟨none, none, _, rfl, s2, e2, Dg.start ts n⟩
    · rintro i σ H' _ ⟨o3, o4, us, rfl, s', _⟩
      exact SqL.of (s' _ _ hl)
    · rintro i x t σ H' hx ⟨o3, o4, us, rfl, s', e', gd⟩ ht
      obtain ⟨z, ez, rfl⟩ := map_get hx
      have li : i < n := by rw [← ln]; exact lt_get ez
      refine ⟨t, _, rfl, SqT.of upd_same, rfl, _, _, rfl, _, _, rfl, rfl, ?_⟩
      have e3 : L2.upd H' t (.tup [.int (i : Int), .int z]) l2 = some (.lst (us.map V.int)) := by rw [upd_ne (ne_of_none e' ht)]; exact e'
      have s3 : Same H (L2.upd H' t (.tup [.int (i : Int), .int z])) := s'.trans (Same.upd ht)
      generalize L2.upd H' t (.tup [.int (i : Int), .int z]) = H3 at e3 s3 ⊢
      have ex : (i : Int) * (n : Int) + (i : Int) = ((i * n + i : Nat) : Int) := by push_cast; rfl
      refine ⟨_, rfl, _, rfl, _, rfl, _, rfl, _, _, rfl, rfl, cmul_l (by omega) (by omega), _, rfl, _, _, rfl, rfl, l2, _, _, i * n + i, rfl, rfl, e3, by rw [ex, List.length_map, gd.1]; exact ixN_nat (nn_lt li li), ?_⟩
      rw [← List.map_set]
      exact ⟨_, _, us.set (i * n + i) z, rfl, fun b o e => by rw [upd_ne (ne_of_none e hD0)]; exact s3 _ _ e, upd_same, gd.step ez li⟩
    · rintro σ H' ⟨o3, o4, us, rfl, s', e', gd⟩
      rw [List.length_map, ln] at gd
      exact ⟨_, rfl, q l2 H' us s' hD0 e' gd⟩
open TM in
theorem va_ones (n : Nat) : Q6.Va n 1 (fun _ => 1) (List.replicate n 1) 1 := by
  refine Q6.Va.lst (F := fun _ => 1) (by decide) (by decide) (by rw [List.length_replicate]) fun k x h => ?_
  have e := List.eq_of_mem_replicate (List.mem_of_getElem? h)
  subst e
  exact ⟨rfl, Nat.lt_of_lt_of_le (by decide : (1 : Int).natAbs < 2 ^ 1) (Nat.pow_le_pow_right (by decide) (by decide)), by show ((1 : Int) : Rat) = 1 * ((1 : Int) : Rat); rw [Rat.intCast_one]; grind⟩
theorem grd_of {H : Hp} {rs : List Addr} {M : List (List Int)} {a : Addr} (h : H a = some (.lst (rs.map V.ref))) (R : RowsAt H rs M) : GrdAt H a (gI M) := by
  refine ⟨rs, h, by rw [gI_len]; exact R.len, fun i r x e1 e2 => ?_⟩
  unfold gI at e2
  rw [List.getElem?_map] at e2
  obtain ⟨y, ey, rfl⟩ := Option.map_eq_some_iff.mp e2
  exact R.row i r y e1 ey
open TM in
theorem va_hue {n : Nat} {hs : List Int} {M : List (List Int)} (W : MOk n hs M) (c : Int) : Q6.Va n 1 (mean hs M (.lf (.hue c))) (hs.map fun h => if h = c then 1 else 0) 1 := by
  refine Q6.Va.lst (F := fun k => if hs.getD k 0 = c then 1 else 0) (by decide) (by decide) (by rw [List.length_map]; exact W.hl) fun k x h => ?_
  rw [List.getElem?_map] at h
  obtain ⟨y, ey, rfl⟩ := Option.map_eq_some_iff.mp h
  have e : hs.getD k 0 = y := by rw [List.getD_eq_getElem?_getD, ey]; rfl
  have b1 : M11.Bn (8 * 1) 1 := Nat.lt_of_lt_of_le (by decide : (1 : Int).natAbs < 2 ^ 1) (Nat.pow_le_pow_right (by decide) (by decide))
  have b0 : M11.Bn (8 * 1) 0 := Nat.pow_pos (by decide)
  simp only [mean]
  rw [e]
  by_cases q : y = c
  · rw [if_pos q, if_pos q]
    exact ⟨rfl, b1, by rw [Rat.intCast_one]; grind⟩
  · rw [if_neg q, if_neg q]
    exact ⟨rfl, b0, by rw [Rat.intCast_one, Rat.intCast_zero]; grind⟩
open TM in
theorem va_tie {n : Nat} {hs : List Int} {M : List (List Int)} (W : MOk n hs M) : Q6.Va (n * n) 61 (mean hs M (.lf .tie)) M.flatten 1 := by
  have row : ∀ x ∈ M, x.length = n := fun x hx => (W.row x hx).1
  have len : M.flatten.length = n * n := by rw [flatn_len M row, W.ml]
  refine ⟨len, by decide, by decide, fun x hx => ?_, fun k x hk => ?_⟩
  · obtain ⟨r, hr, hx⟩ := List.mem_flatten.mp hx
    exact (bn200 ((W.row r hr).2 x hx)).mono (by decide)
  · have lk : k < n * n := by rw [← len]; exact lt_get hk
    have n0 : 0 < n := by
      rcases Nat.eq_zero_or_pos n with z | z
      · subst z; omega
      · exact z
    have h2 : k % n < n := Nat.mod_lt _ n0
    have e : k / n * n + k % n = k := by rw [Nat.mul_comm, Nat.div_add_mod]
    have := flat_get M row (k / n) (k % n) h2
    rw [e, hk] at this
    simp only [mean]
    rw [W.hl]
    cases c : M[k / n]? with
    | none => rw [c] at this; cases this
    | some r =>
      rw [c] at this
      have c' : r[k % n]? = some x := this.symm
      rw [show M.getD (k / n) [] = r by rw [List.getD_eq_getElem?_getD, c]; rfl, show r.getD (k % n) 0 = x by rw [List.getD_eq_getElem?_getD, c']; rfl, Rat.intCast_one]
      grind
end
section
variable {P : Program} {w : World} {K : PySem.W.Frag} {mg : Str → Option Value} {base : Heap}
def lfZ : TM.Lf → Nat
  | .hue _ => 1
  | _ => 61
open TM in
def spLeaf (K : PySem.W.Frag) : Sp := fun vs H Q _ => ∃ (wA p : Addr) (k : Lf) (pre : List V) (hs : List Int) (M : List (List Int)) (n : Nat), vs = [.ref wA, .ref p] ∧ WR H wA hs M ∧ MOk n hs M ∧ SqT K H p (.str k.word :: pre) ∧ (∀ c, k = .hue c → pre = [.int c]) ∧
  ∀ D H' (ts : List Int), Same H H' → H D = none → H' D = some (.lst (ts.map V.int)) → Q6.Va (many n k.tab) (lfZ k) (mean hs M (.lf k)) ts 1 → Q (.ref D) H'
abbrev nLeaf : List Str := ["web", "term", "size", "kind"]
theorem scLeaf : FnScope nLeaf ["web", "term"] (defScope sLeaf) := ⟨rfl, rfl, rfl, by decide +kernel, rfl, by decide +kernel, by decide +kernel⟩
def ifIn (st : Stmt) : Expr := match st with
  | .If _ (b :: _) _ _ => asgVal b
  | _ => .Constant .none 0 ⟨0, 0, 0, 0⟩
theorem lcLeaf : LcScopes (defScope sLeaf) nLeaf (lcScope (ifIn (bodyAt sLeaf 3))) ["hue"] := ⟨by decide +kernel, rfl, by decide +kernel, by decide +kernel, by decide +kernel, by decide +kernel, by decide +kernel, by decide +kernel, by decide +kernel, by decide +kernel⟩
theorem rep_le {n : Nat} (h : n ≤ 256) : ([V.int 1]).length * n ≤ sizeLine := Nat.le_of_lt (small1000 (by show 1 * n ≤ 1000; omega))
open TM in
theorem ok_leaf {f fW fO : Addr} {fd fdW fdO : FuncData} (B : BltR mg) (F : Fun K "tops_of_leaf" "tops_of_leaf" sLeaf f fd)
    (DW : Dn K mg "tops_where_same" sWhereSame ["tops"] fW fdW) (GW : FnOk P w K mg base CX0 1 fW fdW ["tops"] spWhere)
    (DO : Dn K mg "in_one_list" sInOne ["rows"] fO fdO) (GO : FnOk P w K mg base CX0 1 fO fdO ["rows"] spInOne) : FnOk P w K mg base CX0 2 f fd ["web", "term"] (spLeaf K) := by
  refine F.ok scLeaf (fun vs H Q E h => ?_) (fun cdv A outer s H vs Q E hr h => ?_)
  · obtain ⟨wA, p, k, pre, hs, M, n, rfl, _⟩ := h
    rfl
  · obtain ⟨wA, p, k, pre, hs, M, n, rfl, ⟨hA, rA, rs, w1, w2, w3, R⟩, W, hp, hh, q⟩ := h
    have hl := W.hl
    have hn := W.few
    have nn : n * n ≤ 256 := Nat.mul_le_mul hn hn
    have eN : (n : Int) * (n : Int) = ((n * n : Nat) : Int) := by push_cast; rfl
    refine ⟨_, pss_cons (ps_set (i := 2) scLeaf.nd rfl (Or.inl rfl) (pe_callB call_len_seq (by rfl) B.len PySem.boot_len (pa_cons (pe_ix ix_tup (pv 0) pe_int (fun _ _ => rfl)) pa_nil)))
      (pss_cons (ps_set (i := 3) scLeaf.nd rfl (Or.inl rfl) (pe_ix ix_tup (pv 1) pe_int (fun _ _ => rfl)))
      (pss_cons (ps_if (pt_cmpR op_eq (pv 3) pe_str (nomark _)) (pss_one (ps_ret (pe_op op_rep (pe_lst (pa_cons pe_int pa_nil)) (pv 2)))) pss_nil)
      (pss_cons (ps_if (pt_cmpR op_eq (pv 3) pe_str (nomark _)) (pss_one (ps_ret (pe_lc1 rfl lcLeaf rfl (pi_list (pe_ix ix_tup (pv 0) pe_int (fun _ _ => rfl))) (fun _ _ _ => pe_ifExp (pt_cmpR op_eq (pv 4) (pe_ix (ix_tupK (K := K)) (pv 1) pe_int (fun _ _ => rfl)) (nomark _)) pe_int pe_int)))) pss_nil)
      (pss_cons (ps_if (pt_cmpR op_eq (pv 3) pe_str (nomark _)) (pss_one (ps_ret (pe_fn DW GW hr rfl (pa_cons (pe_op op_rep (pe_lst (pa_cons pe_int pa_nil)) (pv 2)) pa_nil)))) pss_nil)
      (pss_cons (ps_if (pt_cmpR op_eq (pv 3) pe_str (nomark _)) (pss_one (ps_ret (pe_fn DO GO hr rfl (pa_cons (pe_ix ix_tup (pv 0) pe_int (fun _ _ => rfl)) pa_nil)))) pss_nil)
      (pss_one (ps_ret (pe_op op_rep (pe_lst (pa_cons pe_int pa_nil)) (pe_op op_mul (pv 2) (pv 2)))))))))), ?_⟩
    refine ⟨_, rfl, wA, _, _, _, rfl, rfl, SqT.of w1, rfl, hA, _, rfl, .inl (SqL.of w2), ?_⟩
    rw [List.length_map, hl]
    refine ⟨_, rfl, p, _, _, _, rfl, rfl, hp, at_hd _ _, ?_⟩
    refine ⟨_, rfl, rfl, _, rfl, ?_⟩
    cases k with
    | one =>
      refine itDP rfl ?_
      refine ⟨(by show 1 ≤ sizeLine; decide), fun l1 hl1 => ?_⟩
      refine ⟨_, rfl, l1, _, _, rfl, rfl, upd_same, by omega, by omega, by rw [Int.toNat_natCast]; exact rep_le (by omega), fun l2 hl2 => ?_⟩
      rw [Int.toNat_natCast, rep_map]
      exact q l2 _ _ ((Same.upd hl1).trans (Same.upd hl2)) ((Same.upd hl1).free hl2) upd_same ((va_ones n).more (by decide))
    | hue c =>
      obtain rfl := hh c rfl
      refine itDN (sne (show ("hue" : Str) ≠ "one" by decide +kernel)) ?_
      refine ⟨_, rfl, rfl, _, rfl, itDP rfl ?_⟩
      refine ⟨_, rfl, wA, _, _, _, rfl, rfl, SqT.of w1, rfl, hA, rfl, ⟨_, SqL.of w2⟩, fun D hD => ?_⟩
      refine lc_vals (xs := hs.map V.int) (hs.map fun h => V.int (if h = c then 1 else 0)) (by rw [List.length_map, List.length_map]) (by rw [List.length_map, hl]; omega) hD (SqL.of w2) ?_ ?_ ?_
      · intro i x v H' hx hv s'
        obtain ⟨t, ht, rfl⟩ := map_get hx
        obtain ⟨t', ht', rfl⟩ := map_get hv
        rw [ht] at ht'
        cases ht'
        refine ⟨_, rfl, _, rfl, p, _, _, _, rfl, rfl, s'.seqT hp, at_snd _ _ _, rfl, _, rfl, ?_⟩
        by_cases e : t = c
        · subst e
          refine itDP rfl ⟨?_, Same.refl _⟩
          rw [if_pos rfl]
        · refine itDN (fun z => e (V.int.inj z)) ⟨?_, Same.refl _⟩
          rw [if_neg e]
      · intro H' s' eD
        refine q D H' (hs.map fun h => if h = c then 1 else 0) s' hD ?_ (va_hue W c)
        rw [eD, List.map_map]; rfl
      · rintro σ H' Q1 Q2 hq ⟨v, e, v', e', a1, a2, a3, a4, a5, a6, a7, a8, e2, c', e3, g⟩
        refine ⟨v, e, v', e', a1, a2, a3, a4, a5, a6, a7, a8, e2, c', e3, ?_⟩
        cases c' with
        | true => exact iteT (hq _ _ (by rw [if_pos rfl] at g; exact g))
        | false => exact iteF (hq _ _ (by rw [if_neg Bool.false_ne_true] at g; exact g))
    | same =>
      refine itDN (sne (show ("same" : Str) ≠ "one" by decide +kernel)) ⟨_, rfl, rfl, _, rfl, itDN (sne (show ("same" : Str) ≠ "hue" by decide +kernel)) ⟨_, rfl, rfl, _, rfl, itDP rfl ?_⟩⟩
      refine ⟨(by show 1 ≤ sizeLine; decide), fun l1 hl1 => ?_⟩
      refine ⟨_, rfl, l1, _, _, rfl, rfl, upd_same, by omega, by omega, by rw [Int.toNat_natCast]; exact rep_le (by omega), fun l2 hl2 => ?_⟩
      rw [Int.toNat_natCast, rep_map]
      refine ⟨l2, _, n, rfl, upd_same, by rw [List.length_replicate], hn, fun D H' us s' nD eD gd => ?_⟩
      refine q D H' us (((Same.upd hl1).trans (Same.upd hl2)).trans s') (((Same.upd hl1).trans (Same.upd hl2)).free nD) eD ?_
      have := ((va_ones n).more (d := 61) (by decide)).diag gd.done.1 gd.done.2
      simp only [mean]
      rw [hl]
      exact this
    | tie =>
      refine itDN (sne (show ("tie" : Str) ≠ "one" by decide +kernel)) ⟨_, rfl, rfl, _, rfl, itDN (sne (show ("tie" : Str) ≠ "hue" by decide +kernel)) ⟨_, rfl, rfl, _, rfl, itDN (sne (show ("tie" : Str) ≠ "same" by decide +kernel)) ⟨_, rfl, rfl, _, rfl, itDP rfl ?_⟩⟩⟩
      have V' := va_tie W
      refine ⟨_, rfl, wA, _, _, _, rfl, rfl, SqT.of w1, rfl, rA, _, rfl, grd_of w3 R, by rw [flat_gI, List.length_map, V'.len]; omega, fun D H' s' nD eD => ?_⟩
      rw [flat_gI] at eD
      exact q D H' _ s' nD eD V'
    | all =>
      refine itDN (sne (show ("all" : Str) ≠ "one" by decide +kernel)) ⟨_, rfl, rfl, _, rfl, itDN (sne (show ("all" : Str) ≠ "hue" by decide +kernel)) ⟨_, rfl, rfl, _, rfl, itDN (sne (show ("all" : Str) ≠ "same" by decide +kernel)) ⟨_, rfl, rfl, _, rfl, itDN (sne (show ("all" : Str) ≠ "tie" by decide +kernel)) ?_⟩⟩⟩
      refine ⟨(by show 1 ≤ sizeLine; decide), fun l1 hl1 => ?_⟩
      refine ⟨_, rfl, _, rfl, _, _, rfl, rfl, cmul_l (by omega) (by omega), l1, _, _, rfl, rfl, upd_same, by rw [eN]; omega, by rw [eN]; omega, by rw [eN, Int.toNat_natCast]; exact rep_le nn, fun l2 hl2 => ?_⟩
      rw [eN, Int.toNat_natCast, rep_map]
      exact q l2 _ _ ((Same.upd hl1).trans (Same.upd hl2)) ((Same.upd hl1).free hl2) upd_same ((va_ones (n * n)).more (by decide))
end
section
variable {P : Program} {w : World} {K : PySem.W.Frag} {mg : Str → Option Value} {base : Heap}
open TM Q6
def unSrc : Un → Bool → Bool
  | .near, _ => false
  | .rows, _ => true
  | .on, _ => false
  | .turned, _ => true
  | .many _ _, s => s
def unDst : Un → Bool → Bool
  | .near, _ => false
  | .rows, _ => false
  | .on, _ => true
  | .turned, _ => true
  | .many _ _, s => s
def unF (hs : List Int) (M : List (List Int)) : Un → (Nat → Rat) → Nat → Rat
  | .near, f => fun k => sm (fun v => (((M.getD k []).getD v 0 : Int) : Rat) * f v) hs.length
  | .rows, f => fun k => sm (fun j => f (k * hs.length + j)) hs.length
  | .on, f => fun k => if k / hs.length = k % hs.length then f (k / hs.length) else 0
  | .turned, f => fun k => f (k % hs.length * hs.length + k / hs.length)
  | .many a b, f => fun k => f k * ((a : Rat) / (b : Rat))
theorem va_turn {n s : Nat} {f : Nat → Rat} {ts : List Int} {b : Int} (S : Va (n * n) s f ts b) : Va (n * n) s (fun k => f (k % n * n + k / n)) (colsI (sqI ts n) n).flatten b := by
  have row : ∀ x ∈ colsI (sqI ts n) n, x.length = n := fun x hx => by
    rw [cols_sq] at hx
    obtain ⟨j, _, rfl⟩ := List.mem_map.mp hx
    exact clI_len ts n j
  refine S.turn (by rw [flatn_len _ row, cols_sq, List.length_map, List.length_range]) fun i j x hi hj h => ?_
  rw [flat_get _ row i j hj, cols_sq, List.getElem?_map, List.getElem?_range hi] at h
  exact clI_get S.len hi h
theorem va_rows {n s : Nat} {f : Nat → Rat} {ts : List Int} {b : Int} (S : Va (n * n) s f ts b) (hn : n ≤ 16) : Va n (s + 1) (fun k => sm (fun j => f (k * n + j)) n) ((sqI ts n).map List.sum) b := by
  refine S.rows hn (by rw [List.length_map, sqI_len]) fun i x h => ?_
  have hi : i < n := by
    have := lt_get h
    rw [List.length_map, sqI_len] at this
    exact this
  rw [List.getElem?_map, sqI_get hi] at h
  exact (Option.some.inj h).symm
theorem call_sumK {X : Cx} (h : X.K = K := by rfl) (hc : X.calm = true := by rfl) : CallR X (.builtin "sum") (fun xs H Q => ∃ (p : Addr) (ns : List Int), xs = [.ref p] ∧ SqL K H p (ns.map V.int) ∧ Q (.int ns.sum) H) := by subst h; exact call_sum hc
def unZ : Un → Nat → Nat
  | .near, z => z + 61
  | .rows, z => z + 1
  | .on, z => z
  | .turned, z => z
  | .many _ _, z => z + 61
def spFromOne : Sp := fun vs H Q _ => ∃ (wA l : Addr) (k : Un) (s : Bool) (ts : List Int) (b : Int) (z : Nat) (f : Nat → Rat) (hs : List Int) (M : List (List Int)) (n : Nat), vs = [.ref wA, .str k.word, .ref l] ∧ WR H wA hs M ∧ MOk n hs M ∧ (∀ a b, k ≠ .many a b) ∧ H l = some (.lst (ts.map V.int)) ∧ Va (many n (unSrc k s)) z f ts b ∧ z ≤ 1500 ∧
  ∀ D H' (us : List Int), Same H H' → H D = none → H' D = some (.lst (us.map V.int)) → Va (many n (unDst k s)) (unZ k z) (unF hs M k f) us b → Q (.ref D) H'
abbrev nFromOne : List Str := ["web", "kind", "tops", "rows"]
theorem scFromOne : FnScope nFromOne ["web", "kind", "tops"] (defScope sFromOne) := ⟨rfl, rfl, rfl, by decide +kernel, rfl, by decide +kernel, by decide +kernel⟩
theorem lcFromOne : LcScopes (defScope sFromOne) nFromOne (lcScope (ifIn (bodyAt sFromOne 3))) ["row"] := ⟨by decide +kernel, rfl, by decide +kernel, by decide +kernel, by decide +kernel, by decide +kernel, by decide +kernel, by decide +kernel, by decide +kernel, by decide +kernel⟩
theorem ok_fromOne {f fE fW fS fC fO : Addr} {fd fdE fdW fdS fdC fdO : FuncData} (B : BltR mg) (F : Fun K "tops_from_one" "tops_from_one" sFromOne f fd)
    (DE : Dn K mg "sums_with_each" sEach ["numbers", "rows"] fE fdE) (GE : FnOk P w K mg base CX0 2 fE fdE ["numbers", "rows"] spEachG)
    (DW : Dn K mg "tops_where_same" sWhereSame ["tops"] fW fdW) (GW : FnOk P w K mg base CX0 1 fW fdW ["tops"] spWhere)
    (DS : Dn K mg "in_square" sInSq ["things", "size"] fS fdS) (GS : FnOk P w K mg base CX0 1 fS fdS ["things", "size"] (spInSq K))
    (DC : Dn K mg "columns_of" sCols ["rows"] fC fdC) (GC : FnOk P w K mg base CX0 2 fC fdC ["rows"] spCols)
    (DO : Dn K mg "in_one_list" sInOne ["rows"] fO fdO) (GO : FnOk P w K mg base CX0 1 fO fdO ["rows"] spInOne) : FnOk P w K mg base CX0 3 f fd ["web", "kind", "tops"] spFromOne := by
  refine F.ok scFromOne (fun vs H Q E h => ?_) (fun cdv A outer s H vs Q E hr h => ?_)
  · obtain ⟨wA, l, k, s, ts, b, z, f, hs, M, n, rfl, _⟩ := h
    rfl
  · obtain ⟨wA, l, k, so, ts, b, z, f, hs, M, n, rfl, ⟨hA, rA, rs, w1, w2, w3, R⟩, W, nm, hl, S, hz, q⟩ := h
    have hh := W.hl
    have hn := W.few
    have nn : n * n ≤ 256 := Nat.mul_le_mul hn hn
    have r1 := hr.mono (j := 1) (by decide)
    refine ⟨_, pss_cons (ps_if (pt_cmpR op_eq (pv 1) pe_str (nomark _)) (pss_one (ps_ret (pe_fn DE GE hr rfl (pa_cons (pv 2) (pa_cons (pe_ix ix_tup (pv 0) pe_int (fun _ _ => rfl)) pa_nil))))) pss_nil)
      (pss_cons (ps_if (pt_cmpR op_eq (pv 1) pe_str (nomark _)) (pss_one (ps_ret (pe_fn DW GW r1 rfl (pa_cons (pv 2) pa_nil)))) pss_nil)
      (pss_cons (ps_set (i := 3) scFromOne.nd rfl (Or.inl rfl) (pe_fn DS GS r1 rfl (pa_cons (pv 2) (pa_cons (pe_callB call_len_seq (by rfl) B.len PySem.boot_len (pa_cons (pe_ix ix_tup (pv 0) pe_int (fun _ _ => rfl)) pa_nil)) pa_nil))))
      (pss_cons (ps_if (pt_cmpR op_eq (pv 1) pe_str (nomark _)) (pss_one (ps_ret (pe_lc1 rfl lcFromOne rfl (pi_list (pv 3)) (fun _ _ _ => pe_callB (call_sumK (K := K)) (by rfl) B.sum boot_sum (pa_cons (pv 4) pa_nil))))) pss_nil)
      (pss_one (ps_ret (pe_fn DO GO r1 rfl (pa_cons (pe_fn DC GC hr rfl (pa_cons (pv 3) pa_nil)) pa_nil))))))), ?_⟩
    refine ⟨_, rfl, rfl, _, rfl, ?_⟩
    cases k with
    | many a b => exact absurd rfl (nm a b)
    | near =>
      refine itDP rfl ?_
      have S' : Va n z f ts b := S
      refine ⟨_, rfl, _, rfl, wA, _, _, _, rfl, rfl, SqT.of w1, rfl, rA, l, M, ts, 13000, rfl, grd_of w3 R, hl, by rw [W.ml]; omega, by rw [S'.len]; omega, by decide, fun x hx => ⟨by rw [S'.len]; exact (W.row x hx).1, fun y hy => (bn200 ((W.row x hx).2 y hy)).mono (by decide)⟩, fun x hx => (S'.tops x hx).mono (by omega), fun D H' s' nD eD => ?_⟩
      refine q D H' _ s' nD eD ?_
      have := S'.near hn W.ml W.row
      show Va n (z + 61) (fun k => sm _ hs.length) _ b
      rw [hh]
      exact this
    | on =>
      refine itDN (sne (show ("on" : Str) ≠ "near" by decide +kernel)) ⟨_, rfl, rfl, _, rfl, itDP rfl ?_⟩
      have S' : Va n z f ts b := S
      refine ⟨_, rfl, l, ts, n, rfl, hl, S'.len, hn, fun D H' us s' nD eD gd => q D H' us s' nD eD ?_⟩
      have := S'.diag gd.done.1 gd.done.2
      show Va (n * n) z (fun k => if k / hs.length = k % hs.length then f (k / hs.length) else 0) us b
      rw [hh]
      exact this
    | rows =>
      refine itDN (sne (show ("rows" : Str) ≠ "near" by decide +kernel)) ⟨_, rfl, rfl, _, rfl, itDN (sne (show ("rows" : Str) ≠ "on" by decide +kernel)) ?_⟩
      have S' : Va (n * n) z f ts b := S
      refine ⟨_, rfl, _, rfl, wA, _, _, _, rfl, rfl, SqT.of w1, rfl, hA, _, rfl, .inl (SqL.of w2), l, _, n, (by rw [List.length_map, hh]; rfl), SqL.of hl, by rw [List.length_map, S'.len], hn, fun a H1 s1 na ga => ?_⟩
      refine ⟨_, rfl, rfl, _, rfl, itDP rfl ?_⟩
      rw [sq_gI] at ga
      obtain ⟨rs', ha, gv⟩ := ga.grd
      have lr : rs'.length = n := by rw [gv.len, gI_len, sqI_len]
      refine ⟨_, rfl, a, rfl, ⟨_, SqL.of ha⟩, fun D hD => ?_⟩
      refine lc_vals (((sqI ts n).map List.sum).map V.int) (by rw [List.length_map, List.length_map, List.length_map, sqI_len, lr]) (by rw [List.length_map, lr]; omega) hD (SqL.of ha) ?_ ?_ ?_
      · intro i x v H' hx hv s'
        obtain ⟨r, er, rfl⟩ := map_get hx
        obtain ⟨t, et, rfl⟩ := map_get hv
        rw [List.getElem?_map] at et
        obtain ⟨y, ey, rfl⟩ := Option.map_eq_some_iff.mp et
        exact ⟨_, rfl, r, y, rfl, SqL.of (s' _ _ (gv.row i r _ er (gI_get ey))), rfl, Same.refl _⟩
      · intro H' s' eD
        refine q D H' _ (s1.trans s') (s1.free hD) eD ?_
        have := va_rows S' hn
        show Va n (z + 1) (fun k => sm (fun j => f (k * hs.length + j)) hs.length) _ b
        rw [hh]
        exact this
      · rintro σ H' Q1 Q2 hq ⟨v, e, a1, a2, a3, a4, g⟩
        exact ⟨v, e, a1, a2, a3, a4, hq _ _ g⟩
    | turned =>
      refine itDN (sne (show ("turned" : Str) ≠ "near" by decide +kernel)) ⟨_, rfl, rfl, _, rfl, itDN (sne (show ("turned" : Str) ≠ "on" by decide +kernel)) ?_⟩
      have S' : Va (n * n) z f ts b := S
      refine ⟨_, rfl, _, rfl, wA, _, _, _, rfl, rfl, SqT.of w1, rfl, hA, _, rfl, .inl (SqL.of w2), l, _, n, (by rw [List.length_map, hh]; rfl), SqL.of hl, by rw [List.length_map, S'.len], hn, fun a H1 s1 na ga => ?_⟩
      refine ⟨_, rfl, rfl, _, rfl, itDN (sne (show ("turned" : Str) ≠ "rows" by decide +kernel)) ?_⟩
      rw [sq_gI] at ga
      have row : ∀ x ∈ sqI ts n, x.length = n := fun x hx => (sqI_mem S'.len hx).1
      refine ⟨_, rfl, a, _, n, rfl, ga.grd, by rw [gI_len, sqI_len]; omega, by omega, fun x hx => ?_, fun y => ?_, fun D1 H2 s2 n2 g2' => ?_⟩
      · obtain ⟨y, hy, rfl⟩ := List.mem_map.mp hx
        rw [List.length_map]
        exact row y hy
      · have := congrArg List.length y
        rw [gI_len, sqI_len] at this
        exact this
      rw [cols_gI row] at g2'
      have T := va_turn S'
      refine ⟨D1, _, rfl, g2', by rw [flat_gI, List.length_map, T.len]; omega, fun D H' s' nD eD => ?_⟩
      rw [flat_gI] at eD
      refine q D H' _ ((s1.trans s2).trans s') ((s1.trans s2).free nD) eD ?_
      show Va (n * n) z (fun k => f (k % hs.length * hs.length + k / hs.length)) _ b
      rw [hh]
      exact T
end
section
variable {P : Program} {w : World} {K : PySem.W.Frag} {mg : Str → Option Value} {base : Heap}
open TM Q6
def biF (n : Nat) : Bi → (Nat → Rat) → (Nat → Rat) → Nat → Rat
  | .both, f, g => fun k => f k * g k
  | .thn, f, g => fThen n f g
  | .meet, f, g => fun k => f k * g k
  | .plus, f, g => fun k => f k + g k
def biOk : Bi → Bool → Prop
  | .both, s => s = false
  | .thn, s => s = true
  | .meet, s => s = true
  | .plus, _ => True
theorem many_le {n : Nat} (h : n ≤ 16) (s : Bool) : many n s ≤ 256 := by
  have nn : n * n ≤ 256 := Nat.mul_le_mul h h
  unfold many
  split <;> omega
def spTwo : Sp := fun vs H Q _ => ∃ (wA : Addr) (k : Bi) (v u : V) (s s' : Nat) (f g : Nat → Rat) (hs : List Int) (M : List (List Int)) (n : Nat) (so : Bool), vs = [.ref wA, .str k.word, v, u] ∧ WR H wA hs M ∧ MOk n hs M ∧ biOk k so ∧ VaAt H v (many n so) s f ∧ VaAt H u (many n so) s' g ∧ s ≤ 1500 ∧ s' ≤ 1500 ∧
  ∀ z H', Same H H' → VaAt H' z (many n so) (s + s' + 1) (biF n k f g) → Q z H'
abbrev nTwo : List Str := ["web", "kind", "value", "other"]
theorem scTwo : FnScope nTwo nTwo (defScope sFromTwo) := ⟨rfl, rfl, rfl, by decide +kernel, rfl, by decide +kernel, by decide +kernel⟩
theorem ok_two {f fB fP fT : Addr} {fd fdB fdP fdT : FuncData} (B : BltR mg) (F : Fun K "value_from_two" "value_from_two" sFromTwo f fd)
    (DB : Dn K mg "one_by_one_product" sBothRow ["value", "other"] fB fdB) (GB : FnOk P w K mg base CX0 4 fB fdB ["value", "other"] (sp2R gBoth))
    (DP : Dn K mg "one_by_one_sum" sPlusRow ["value", "other"] fP fdP) (GP : FnOk P w K mg base CX0 4 fP fdP ["value", "other"] (sp2R gPlus))
    (DT : Dn K mg "one_then_other" sThen ["size", "value", "other"] fT fdT) (GT : FnOk P w K mg base CX0 4 fT fdT ["size", "value", "other"] spThen) : FnOk P w K mg base CX0 5 f fd nTwo spTwo := by
  refine F.ok scTwo (fun vs H Q E h => ?_) (fun cdv A outer s H vs Q E hr h => ?_)
  · obtain ⟨wA, k, v, u, s, s', f, g, hs, M, n, so, rfl, _⟩ := h
    rfl
  · obtain ⟨wA, k, v, u, z, z', f, g, hs, M, n, so, rfl, ⟨hA, rA, rs, w1, w2, w3, R⟩, W, hk, h1, h2, hz, hz', q⟩ := h
    have hn := W.few
    have hm := many_le hn so
    refine ⟨_, pss_cons (ps_if (pt_cmpR op_eq (pv 1) pe_str (nomark _)) (pss_one (ps_ret (pe_fn DP GP hr rfl (pa_cons (pv 2) (pa_cons (pv 3) pa_nil))))) pss_nil)
      (pss_cons (ps_if (pt_cmpR op_eq (pv 1) pe_str (nomark _)) (pss_one (ps_ret (pe_fn DT GT hr rfl (pa_cons (pe_callB call_len_seq (by rfl) B.len PySem.boot_len (pa_cons (pe_ix ix_tup (pv 0) pe_int (fun _ _ => rfl)) pa_nil)) (pa_cons (pv 2) (pa_cons (pv 3) pa_nil)))))) pss_nil)
      (pss_one (ps_ret (pe_fn DB GB hr rfl (pa_cons (pv 2) (pa_cons (pv 3) pa_nil)))))), ?_⟩
    refine ⟨_, rfl, rfl, _, rfl, ?_⟩
    have times : biF n k f g = (fun k => f k * g k) → ∃ (v' u' : V) (r1 r2 : Rw) (k' n' : Nat), [v, u] = [v', u'] ∧ RwAt H v' r1 ∧ RwAt H u' r2 ∧ r1.1.length = n' ∧ r2.1.length = n' ∧ n' ≤ 900 ∧ k' ≤ 1000000 ∧ (∀ x ∈ r1.1, M11.Bn k' x) ∧ (∀ x ∈ r2.1, M11.Bn k' x) ∧ (0 < r1.2 ∧ 0 < r2.2 ∧ M11.Bn 499 r1.2 ∧ M11.Bn 499 r2.2 ∧ 499 ≤ k') ∧ ∀ z H', Same H H' → RwAt H' z (gBoth r1 r2) → Q z H' := fun eb => by
      obtain ⟨r1, e1, S⟩ := h1
      obtain ⟨r2, e2, T⟩ := h2
      refine ⟨v, u, r1, r2, 13000, many n so, rfl, e1, e2, S.len, T.len, by omega, by decide, fun x hx => (S.tops x hx).mono (by omega), fun x hx => (T.tops x hx).mono (by omega), ⟨S.pos, T.pos, va499 S hz, va499 T hz', by decide⟩, fun z H' s' rz => q z H' s' ⟨_, rz, ?_⟩⟩
      rw [eb]
      exact ((S.mul T).lower).more (by omega)
    cases k with
    | plus =>
      refine itDP rfl ?_
      obtain ⟨r1, e1, S⟩ := h1
      obtain ⟨r2, e2, T⟩ := h2
      exact ⟨_, rfl, _, rfl, v, u, r1, r2, 13000, many n so, rfl, e1, e2, S.len, T.len, by omega, by decide, fun x hx => (S.tops x hx).mono (by omega), fun x hx => (T.tops x hx).mono (by omega), ⟨S.pos, T.pos, va499 S hz, va499 T hz', by decide⟩, fun z H' s' rz => q z H' s' ⟨_, rz, (S.add T).lower⟩⟩
    | thn =>
      obtain rfl : so = true := hk
      refine itDN (sne (show ("then" : Str) ≠ "plus" by decide +kernel)) ⟨_, rfl, rfl, _, rfl, itDP rfl ?_⟩
      exact ⟨_, rfl, wA, _, _, _, rfl, rfl, SqT.of w1, rfl, hA, _, rfl, .inl (SqL.of w2), _, rfl, _, rfl, n, v, u, z, z', f, g, (by rw [List.length_map, W.hl]; rfl), hn, h1, h2, hz, hz', q⟩
    | both =>
      refine itDN (sne (show ("both" : Str) ≠ "plus" by decide +kernel)) ⟨_, rfl, rfl, _, rfl, itDN (sne (show ("both" : Str) ≠ "then" by decide +kernel)) ?_⟩
      exact ⟨_, rfl, _, rfl, times rfl⟩
    | meet =>
      refine itDN (sne (show ("meet" : Str) ≠ "plus" by decide +kernel)) ⟨_, rfl, rfl, _, rfl, itDN (sne (show ("meet" : Str) ≠ "then" by decide +kernel)) ?_⟩
      exact ⟨_, rfl, _, rfl, times rfl⟩
inductive Nd where
  | lf (k : Lf)
  | un (k : Un)
  | bi (k : Bi)
def Nd.word : Nd → Str
  | .lf k => k.word
  | .un k => k.word
  | .bi k => k.word
def NdAt (K : PySem.W.Frag) (H : Hp) (rst : List V) : Nd → Prop
  | .lf k => ∀ c, k = .hue c → rst = [.int c]
  | .un (.many a b) => FrOk a b ∧ ∃ fa l, rst = .ref fa :: l ∧ SqT K H fa [.int a, .int b]
  | _ => True
def NewL (H H' : Hp) (y : V) : Prop := ∃ (p l : Addr) (b : V), y = .ref p ∧ H' p = some (.tup [.ref l, b]) ∧ H l = none
def NdIn (H : Hp) (hs : List Int) (M : List (List Int)) (n : Nat) (ps : List V) (Q : VK) : Nd → Prop
  | .lf k => ps = [] ∧ ∀ y H', Same H H' → VaAt H' y (many n k.tab) (lfZ k) (mean hs M (.lf k)) → NewL H H' y → Q y H'
  | .un k => ∃ (x : V) (z : Nat) (f : Nat → Rat) (so : Bool), ps = [x] ∧ VaAt H x (many n (unSrc k so)) z f ∧ z ≤ 1500 ∧ ∀ y H', Same H H' → VaAt H' y (many n (unDst k so)) (unZ k z) (unF hs M k f) → (k = .on → NewL H H' y) → Q y H'
  | .bi k => ∃ (x x' : V) (z z' : Nat) (f g : Nat → Rat) (so : Bool), ps = [x, x'] ∧ biOk k so ∧ VaAt H x (many n so) z f ∧ VaAt H x' (many n so) z' g ∧ z ≤ 1500 ∧ z' ≤ 1500 ∧ ∀ y H', Same H H' → VaAt H' y (many n so) (z + z' + 1) (biF n k f g) → Q y H'
def spByKind (K : PySem.W.Frag) : Sp := fun vs H Q _ => ∃ (wA q p : Addr) (d : Nd) (rst : List V) (hs : List Int) (M : List (List Int)) (n : Nat) (ps : List V), vs = [.ref wA, .ref p, .ref q] ∧ WR H wA hs M ∧ MOk n hs M ∧ SqT K H p (.str d.word :: rst) ∧ NdAt K H rst d ∧ H q = some (.lst ps) ∧ NdIn H hs M n ps Q d
abbrev nByKind : List Str := ["web", "term", "inner_values", "kind", "value"]
theorem scByKind : FnScope nByKind ["web", "term", "inner_values"] (defScope sByKind) := ⟨rfl, rfl, rfl, by decide +kernel, rfl, by decide +kernel, by decide +kernel⟩
theorem ok_byKind {f fE fO fT fM : Addr} {fd fdE fdO fdT fdM : FuncData} (B : BltR mg) (F : Fun K "value_by_kind" "value_by_kind" sByKind f fd)
    (DE : Dn K mg "tops_of_leaf" sLeaf ["web", "term"] fE fdE) (GE : FnOk P w K mg base CX0 2 fE fdE ["web", "term"] (spLeaf K))
    (DO : Dn K mg "tops_from_one" sFromOne ["web", "kind", "tops"] fO fdO) (GO : FnOk P w K mg base CX0 3 fO fdO ["web", "kind", "tops"] spFromOne)
    (DT : Dn K mg "value_from_two" sFromTwo nTwo fT fdT) (GT : FnOk P w K mg base CX0 5 fT fdT nTwo spTwo)
    (DM : Dn K mg "many_times" sManyRow ["f", "value"] fM fdM) (GM : FnOk P w K mg base CX0 3 fM fdM ["f", "value"] (spMany K)) : FnOk P w K mg base CX0 6 f fd ["web", "term", "inner_values"] (spByKind K) := by
  refine F.ok scByKind (fun vs H Q E h => ?_) (fun cdv A outer s H vs Q E hr h => ?_)
  · obtain ⟨wA, q, p, d, rst, hs, M, n, ps, rfl, _⟩ := h
    rfl
  · obtain ⟨wA, q, p, d, rst, hs, M, n, ps, rfl, hW, W, hp, hN, hq, hI⟩ := h
    have hn := W.few
    have r2 := hr.mono (j := 2) (by decide)
    have r3 := hr.mono (j := 3) (by decide)
    refine ⟨_, pss_cons (ps_set (i := 3) scByKind.nd rfl (Or.inl rfl) (pe_ix ix_tup (pv 1) pe_int (fun _ _ => rfl)))
      (pss_cons (ps_if (pt_cmpR op_eq (pe_callB call_len_seq (by rfl) B.len PySem.boot_len (pa_cons (pv 2) pa_nil)) pe_int (nomark _)) (pss_one (ps_ret (pe_fn DT GT hr rfl (pa_cons (pv 0) (pa_cons (pv 3) (pa_cons (pe_ix ix_list (pv 2) pe_int (fun _ _ => rfl)) (pa_cons (pe_ix ix_list (pv 2) pe_int (fun _ _ => rfl)) pa_nil))))))) pss_nil)
      (pss_cons (ps_if (pt_cmpR op_eq (pe_callB call_len_seq (by rfl) B.len PySem.boot_len (pa_cons (pv 2) pa_nil)) pe_int (nomark _)) (pss_one (ps_ret (pe_tup (pa_cons (pe_fn DE GE r2 rfl (pa_cons (pv 0) (pa_cons (pv 1) pa_nil))) (pa_cons pe_int pa_nil))))) pss_nil)
      (pss_cons (ps_set (i := 4) scByKind.nd rfl (Or.inl rfl) (pe_ix ix_list (pv 2) pe_int (fun _ _ => rfl)))
      (pss_cons (ps_if (pt_cmpR op_eq (pv 3) pe_str (nomark _)) (pss_one (ps_ret (pe_fn DM GM r3 rfl (pa_cons (pe_ix ix_tup (pv 1) pe_int (fun _ _ => rfl)) (pa_cons (pv 4) pa_nil))))) pss_nil)
      (pss_one (ps_ret (pe_tup (pa_cons (pe_fn DO GO r3 rfl (pa_cons (pv 0) (pa_cons (pv 3) (pa_cons (pe_ix ix_tup (pv 4) pe_int (fun _ _ => rfl)) pa_nil)))) (pa_cons (pe_ix ix_tup (pv 4) pe_int (fun _ _ => rfl)) pa_nil))))))))), ?_⟩
    refine ⟨_, rfl, p, _, _, _, rfl, rfl, hp, at_hd _ _, ?_⟩
    refine ⟨_, rfl, q, _, rfl, .inl (SqL.of hq), rfl, _, rfl, ?_⟩
    have i02 : ¬ V.int 0 = V.int 2 := fun z => absurd (V.int.inj z) (by decide)
    have i12 : ¬ V.int 1 = V.int 2 := fun z => absurd (V.int.inj z) (by decide)
    have i10 : ¬ V.int 1 = V.int 0 := fun z => absurd (V.int.inj z) (by decide)
    cases d with
    | lf l =>
      obtain ⟨rfl, k⟩ := hI
      refine itDN i02 ⟨_, rfl, q, _, rfl, .inl (SqL.of hq), rfl, _, rfl, itDP rfl ?_⟩
      refine ⟨_, rfl, _, rfl, wA, p, l, rst, hs, M, n, rfl, hW, W, hp, hN, fun D H' ts s' nD eD V' => ?_⟩
      refine ⟨(by show 2 ≤ sizeLine; decide), fun p' hp' => ?_⟩
      exact k _ _ (s'.trans (Same.upd hp')) ⟨(ts, 1), ⟨p', D, rfl, upd_same, by rw [upd_ne (ne_of_none eD hp')]; exact eD⟩, V'⟩ ⟨p', D, _, rfl, upd_same, nD⟩
    | un u =>
      obtain ⟨x, z, f, so, rfl, ⟨⟨ts, b⟩, ⟨pv', l, rfl, e1, e2⟩, S⟩, hz, k⟩ := hI
      dsimp only at e1 e2 S
      refine itDN i12 ⟨_, rfl, q, _, rfl, .inl (SqL.of hq), rfl, _, rfl, itDN i10 ?_⟩
      refine ⟨_, rfl, q, _, _, _, rfl, rfl, SqL.of hq, at_hd _ _, ?_⟩
      refine ⟨_, rfl, rfl, _, rfl, ?_⟩
      by_cases um : ∃ a c, u = .many a c
      · obtain ⟨a, c, rfl⟩ := um
        refine itDP rfl ?_
        obtain ⟨fo, fa, rl, rfl, hf⟩ := hN
        have qb : c.natAbs ≤ 2 ^ 20 := by have := fo.pos; have := fo.bot; omega
        refine ⟨_, rfl, p, _, _, _, rfl, rfl, hp, at_snd _ _ _, _, rfl, fa, .ref pv', a, c, (ts, b), 13000, rfl, hf, ⟨pv', l, rfl, e1, e2⟩, ?_, by decide, (bn200 fo.top).mono (by decide), fun x hx => (S.tops x hx).mono (by omega), fo.pos, S.pos, Nat.lt_of_le_of_lt qb (by decide), va499 S (by omega), fun z H' s' rz => k z H' s' ⟨_, rz, S.many fo.pos (bn200 fo.top) qb⟩ (fun e => by cases e)⟩
        show ts.length ≤ 900
        rw [S.len]
        exact Nat.le_trans (many_le hn _) (by decide)
      · have nm : u.word ≠ "many" := by
          cases u with
          | many a c => exact absurd ⟨a, c, rfl⟩ um
          | _ => show (_ : Str) ≠ _; decide +kernel
        refine itDN (sne nm) ?_
        refine ⟨_, rfl, _, rfl, _, rfl, pv', _, _, _, rfl, rfl, SqT.of e1, rfl, wA, l, u, so, ts, b, z, _, hs, M, n, rfl, hW, W, fun a c e => um ⟨a, c, e⟩, e2, S, by omega, fun D H' us s' nD eD V' => ?_⟩
        refine ⟨_, rfl, pv', _, _, _, rfl, rfl, SqT.of (s' _ _ e1), rfl, (by show 2 ≤ sizeLine; decide), fun p' hp' => ?_⟩
        exact k _ _ (s'.trans (Same.upd hp')) ⟨(us, b), ⟨p', D, rfl, upd_same, by rw [upd_ne (ne_of_none eD hp')]; exact eD⟩, V'⟩ (fun _ => ⟨p', D, _, rfl, upd_same, nD⟩)
    | bi u =>
      obtain ⟨x, y, z, z', f, g, so, rfl, o1, hx, hy, hz, hz', k⟩ := hI
      refine itDP rfl ?_
      exact ⟨_, rfl, _, rfl, _, rfl, q, _, _, _, rfl, rfl, SqL.of hq, at_hd _ _, _, rfl, q, _, _, _, rfl, rfl, SqL.of hq, at_snd _ _ _, wA, u, x, y, _, _, _, _, hs, M, n, so, rfl, hW, W, o1, hx, hy, hz, hz', k⟩
end
section
variable {P : Program} {w : World} {K : PySem.W.Frag} {mg : Str → Option Value} {base : Heap}
def frs (r : TM.Rw) : List (Int × Int) := r.1.map fun t => M11.low t r.2
theorem frs_len (r : TM.Rw) : (frs r).length = r.1.length := by unfold frs; rw [List.length_map]
def frV (H : Hp) (v : V) (l : Int × Int) : Prop := ∃ p, v = .ref p ∧ H p = some (tupF l)
def FrsAt (H : Hp) (a : Addr) (ls : List (Int × Int)) : Prop := ∃ vs, H a = some (.lst vs) ∧ vs.length = ls.length ∧ ∀ (i : Nat) (v : V) (l : Int × Int), vs[i]? = some v → ls[i]? = some l → frV H v l
def spAny : Sp := fun vs H Q _ => ∃ (l : Addr) (ts : List Int) (b : Int) (k : Nat), vs = [.ref l, .int b] ∧ H l = some (.lst (ts.map V.int)) ∧ 0 < b ∧ k ≤ 1000000 ∧ M11.Bn k b ∧ (∀ x ∈ ts, M11.Bn k x) ∧ ∀ p : Int, M11.AnyOk b ts p → Q (.int (M11.G b p)) H
abbrev nAny : List Str := ["tops", "bottom", "product", "top"]
theorem scAny : FnScope nAny ["tops", "bottom"] (defScope sAny) := ⟨rfl, rfl, rfl, by decide +kernel, rfl, by decide +kernel, by decide +kernel⟩
theorem ok_any {f fG : Addr} {fd fdG : FuncData} (F : Fun K "shared_by_any" "shared_by_any" sAny f fd) (DG : Dn K mg "greatest_divisor" sGd ["number", "other"] fG fdG) (GG : FnOk P w K mg base CX0 1 fG fdG ["number", "other"] spG) : FnOk P w K mg base CX0 2 f fd ["tops", "bottom"] spAny := by
  refine F.ok scAny (fun vs H Q E h => ?_) (fun cdv A outer s H vs Q E hr h => ?_)
  · obtain ⟨l, ts, b, k, rfl, _⟩ := h
    rfl
  · obtain ⟨l, ts, b, k, rfl, hl, hp, hk, hb, ht', q⟩ := h
    refine ⟨_, pss_cons (ps_set (i := 2) scAny.nd rfl (Or.inl rfl) pe_int)
      (pss_cons (ps_for PassesOwn.never rfl (pi_list (pv 0)) (pg_name (i := 3) scAny.nd rfl (Or.inl rfl))
        (pss_one (ps_if (pt_cmpR op_ne (pv 3) pe_int (nomark _)) (pss_one (ps_set (i := 2) scAny.nd rfl (Or.inl rfl) (pe_op op_modN (pe_op op_mulN (pv 2) (pv 3)) (pv 1)))) pss_nil)))
      (pss_one (ps_ret (pe_fn DG GG hr rfl (pa_cons (pv 1) (pa_cons (pv 2) pa_nil)))))), ?_⟩
    refine ⟨_, rfl, l, rfl, ⟨_, SqL.of hl⟩, for_list (xs := ts.map V.int) (fun i σ H' => ∃ (ot : Option V) (x : Int), σ = [some (.ref l), some (.int b), some (.int x), ot] ∧ H' = H ∧ M11.Bn k x ∧ M11.AnyOk b (ts.take i) x) ?_ (fun i σ H' _ ⟨_, _, _, e, _⟩ => by subst e; exact SqL.of hl) ?_ ?_⟩
    · exact ⟨none, 1, rfl, rfl, hb.le (by omega), by rw [List.take_zero]; exact M11.AnyOk.nil _ _⟩
    · rintro i x σ H1 hx ⟨ot, y, rfl, rfl, hy, ha⟩
      obtain ⟨t, ht, rfl⟩ := map_get hx
      refine ⟨_, rfl, rfl, _, rfl, ?_⟩
      rw [take_snoc ht]
      by_cases h0 : t = 0
      · refine iteNS (by rw [h0]) ?_
        exact ⟨_, y, rfl, rfl, hy, by rw [h0]; exact ha.zero⟩
      · refine iteNP (fun z => h0 (V.int.inj z)) ?_
        refine ⟨_, rfl, _, rfl, _, _, rfl, rfl, ⟨k, hk, hy, ht' t (List.mem_of_getElem? ht)⟩, _, rfl, _, _, rfl, rfl, by omega, ?_⟩
        refine ⟨_, _, rfl, rfl, hb.le ?_, ha.step⟩
        exact Nat.le_of_lt (M11.fmod_small _ b (by omega))
    · rintro σ H1 ⟨ot, y, rfl, rfl, hy, ha⟩
      rw [List.length_map, List.take_length] at ha
      exact ⟨_, rfl, _, rfl, b, y, rfl, q _ ha⟩
open TM in
def spFrv : Sp := fun vs H Q _ => ∃ (v : V) (r : Rw) (k : Nat), vs = [v] ∧ RwAt H v r ∧ r.1.length ≤ 900 ∧ 0 < r.2 ∧ r.2.natAbs < 2 ^ 1000 ∧ k ≤ 1000000 ∧ M11.Bn k r.2 ∧ (∀ x ∈ r.1, M11.Bn k x) ∧ ∀ a H', Same H H' → H a = none → FrsAt H' a (frs r) → Q (.ref a) H'
abbrev nFrv : List Str := ["value", "bottom", "shared", "fractions", "top", "divisor"]
theorem scFrv : FnScope nFrv ["value"] (defScope sFrv) := ⟨rfl, rfl, rfl, by decide +kernel, rfl, by decide +kernel, by decide +kernel⟩
open TM in
theorem ok_frv {f fY fG : Addr} {fd fdY fdG : FuncData} (F : Fun K "fractions_of_value" "fractions_of_value" sFrv f fd)
    (DY : Dn K mg "shared_by_any" sAny ["tops", "bottom"] fY fdY) (GY : FnOk P w K mg base CX0 2 fY fdY ["tops", "bottom"] spAny)
    (DG : Dn K mg "greatest_divisor" sGd ["number", "other"] fG fdG) (GG : FnOk P w K mg base CX0 1 fG fdG ["number", "other"] spG) : FnOk P w K mg base CX0 3 f fd ["value"] spFrv := by
  refine F.ok scFrv (fun vs H Q E h => ?_) (fun cdv A outer s H vs Q E hr h => ?_)
  · obtain ⟨v, r, k, rfl, _⟩ := h
    rfl
  · obtain ⟨v, r, k, rfl, ⟨p, l, rfl, hp, hl⟩, hn, hp0, hz, hk, kb, kt, q⟩ := h
    have r1 := hr.mono (j := 1) (by decide)
    refine ⟨_, pss_cons (ps_set (i := 1) scFrv.nd rfl (Or.inl rfl) (pe_ix ix_tup (pv 0) pe_int (fun _ _ => rfl)))
      (pss_cons (ps_set (i := 2) scFrv.nd rfl (Or.inl rfl) (pe_fn DY GY hr rfl (pa_cons (pe_ix ix_tup (pv 0) pe_int (fun _ _ => rfl)) (pa_cons (pv 1) pa_nil))))
      (pss_cons (ps_set (i := 3) scFrv.nd rfl (Or.inl rfl) (pe_lst pa_nil))
      (pss_cons (ps_for PassesOwn.never rfl (pi_list (pe_ix ix_tup (pv 0) pe_int (fun _ _ => rfl))) (pg_name (i := 4) scFrv.nd rfl (Or.inl rfl))
        (pss_mid (ps_set (i := 5) scFrv.nd rfl (Or.inl rfl) (pe_ifExp (pt_cmpR op_eq (pv 4) pe_int (nomark _)) (pv 1) (pe_fn DG GG r1 rfl (pa_cons (pv 4) (pa_cons (pv 2) pa_nil)))))
        (pss_one (ps_expr (pe_bm PySem.F.plainAttrs_list PySem.F.slot_list_append PySem.F.type_list_append mt_append (pv 3) (pa_cons (pe_tup (pa_cons (pe_op op_fdivB (pv 4) (pv 5)) (pa_cons (pe_op op_fdivB (pv 1) (pv 5)) pa_nil))) pa_nil))))))
      (pss_one (ps_ret (pv 3)))))), ?_⟩
    refine ⟨_, rfl, p, _, _, _, rfl, rfl, SqT.of hp, rfl, ?_⟩
    refine ⟨_, rfl, p, _, _, _, rfl, rfl, SqT.of hp, rfl, _, rfl, l, r.1, r.2, k, rfl, hl, hp0, hk, kb, kt, fun pp hpp => ?_⟩
    have g0 : 0 < M11.G r.2 pp := M11.G_pos hp0
    have gd : M11.G r.2 pp ∣ r.2 := Int.gcd_dvd_left r.2 pp
    have gs : ∀ t ∈ r.1, t ≠ 0 → M11.G t r.2 ∣ M11.G r.2 pp := fun t ht h0 => hpp.shared ht h0
    generalize M11.G r.2 pp = g at g0 gd gs
    have g1 : g ≤ r.2 := Int.le_of_dvd hp0 gd
    refine ⟨Nat.zero_le _, fun D hD => ?_⟩
    have s1 : Same H (L2.upd H D (.lst [])) := Same.upd hD
    have e1 : L2.upd H D (.lst []) D = some (.lst []) := upd_same
    generalize L2.upd H D (.lst []) = H1 at s1 e1 ⊢
    refine ⟨_, rfl, p, _, _, _, rfl, rfl, SqT.of (s1 _ _ hp), rfl, l, rfl, ⟨_, SqL.of (s1 _ _ hl)⟩, for_list (xs := r.1.map V.int) (fun i σ H' => ∃ (o4 o5 : Option V) (xs : List V), σ = [some (.ref p), some (.int r.2), some (.int g), some (.ref D), o4, o5] ∧ Same H H' ∧ H' D = some (.lst xs) ∧ xs.length = i ∧ ∀ (j : Nat) (v : V) (l : Int × Int), xs[j]? = some v → (frs r)[j]? = some l → frV H' v l) ⟨none, none, [], rfl, s1, e1, rfl, fun j v l h _ => (by cases h)⟩ (fun i σ H' _ ⟨_, _, _, _, s', _⟩ => SqL.of (s' _ _ hl)) ?_ ?_⟩
    · rintro i x σ H2 hx ⟨o4, o5, xs, rfl, s2, e2, lx, hf⟩
      obtain ⟨t, ht, rfl⟩ := map_get hx
      have li : i < r.1.length := (List.getElem?_eq_some_iff.mp ht).1
      refine ⟨fun σ H3 => ∃ d : Int, σ = [some (.ref p), some (.int r.2), some (.int g), some (.ref D), some (.int t), some (.int d)] ∧ H3 = H2 ∧ 0 < d ∧ d ≤ r.2 ∧ (t.fdiv d, r.2.fdiv d) = M11.low t r.2, ?_, ?_⟩
      · refine ⟨_, rfl, rfl, _, rfl, ?_⟩
        by_cases h0 : t = 0
        · exact itDP (by rw [h0]) ⟨_, rfl, r.2, rfl, rfl, hp0, Int.le_refl _, by rw [h0]; exact M11.low_zero hp0⟩
        · refine itDN (fun z => h0 (V.int.inj z)) ?_
          have gg : 0 < M11.G t g := Int.ofNat_lt.mpr (Int.gcd_pos_of_ne_zero_right t (by omega))
          exact ⟨_, rfl, _, rfl, t, g, rfl, _, rfl, rfl, gg, Int.le_trans (Int.le_of_dvd g0 (Int.gcd_dvd_right t g)) g1, M11.low_shared hp0 g0 gd (gs t (List.mem_of_getElem? ht) h0)⟩
      · rintro σ H3 ⟨d, rfl, rfl, d0, d1, dl⟩
        have cd : ∀ u, CDivB u d := fun u => ⟨by omega, Nat.lt_of_le_of_lt (show d.natAbs ≤ r.2.natAbs by omega) hz⟩
        refine ⟨_, rfl, .inl ⟨rfl, _, SqL.of e2⟩, _, rfl, _, rfl, _, _, rfl, rfl, cd _, _, rfl, _, rfl, _, _, rfl, rfl, cd _, (by show 2 ≤ sizeLine; decide), fun t' ht' => ?_⟩
        have nD : D ≠ t' := ne_of_none e2 ht'
        refine ⟨D, xs, _, rfl, rfl, by rw [upd_ne nD]; exact e2, small1000 (by omega), ?_⟩
        refine ⟨_, _, xs ++ [.ref t'], rfl, fun b' o e => ?_, upd_same, by rw [List.length_append, lx]; rfl, fun j v fl hj hfl => ?_⟩
        · rw [upd_ne (ne_of_none e hD)]
          exact (s2.trans (Same.upd ht')) _ _ e
        · by_cases hj' : j < xs.length
          · rw [List.getElem?_append_left hj'] at hj
            obtain ⟨p', e', hp'⟩ := hf j v fl hj hfl
            refine ⟨p', e', ?_⟩
            have n1 : p' ≠ D := fun z => by rw [z, e2] at hp'; cases hp'
            rw [upd_ne n1]
            exact (Same.upd ht') _ _ hp'
          · rw [List.getElem?_append_right (by omega)] at hj
            cases ez : j - xs.length with
            | zero =>
              rw [ez] at hj
              cases hj
              have ej : j = i := by omega
              subst ej
              have e3 : (frs r)[j]? = some (M11.low t r.2) := by unfold frs; rw [List.getElem?_map, ht]; rfl
              rw [e3] at hfl
              cases hfl
              refine ⟨t', rfl, ?_⟩
              rw [upd_ne nD.symm, upd_same, ← dl]
              rfl
            | succ m => rw [ez] at hj; cases hj
    · rintro σ H2 ⟨o4, o5, xs, rfl, s2, e2, lx, hf⟩
      exact ⟨_, rfl, q D H2 s2 hD ⟨xs, e2, by rw [lx, List.length_map, frs_len], hf⟩⟩
open TM in
def spTov : Sp := fun vs H Q _ => ∃ (v : V) (r : Rw), vs = [v] ∧ RwAt H v r ∧ r.2 ≠ 0 ∧ r.2.natAbs < 2 ^ 1000 ∧ ∀ u H', Same H H' → frV H' u (M11.low r.1.sum r.2) → Q u H'
theorem scTov : FnScope ["value"] ["value"] (defScope sTov) := ⟨rfl, rfl, rfl, by decide +kernel, rfl, by decide +kernel, by decide +kernel⟩
theorem ok_tov {f fF : Addr} {fd fdF : FuncData} (B : BltR mg) (F : Fun K "total_of_value" "total_of_value" sTov f fd) (DF : Dn K mg "fraction_of" sFr ["top", "bottom"] fF fdF) (GF : FnOk P w K mg base CX0 2 fF fdF ["top", "bottom"] spF) : FnOk P w K mg base CX0 3 f fd ["value"] spTov := by
  refine F.ok scTov (fun vs H Q E h => ?_) (fun cdv A outer s H vs Q E hr h => ?_)
  · obtain ⟨v, r, rfl, _⟩ := h
    rfl
  · obtain ⟨v, r, rfl, ⟨p, l, rfl, hp, hl⟩, lz, l1000, q⟩ := h
    refine ⟨_, pss_one (ps_ret (pe_fn DF GF hr rfl (pa_cons (pe_callB (call_sum rfl) (by rfl) B.sum boot_sum (pa_cons (pe_ix ix_tup (pv 0) pe_int (fun _ _ => rfl)) pa_nil)) (pa_cons (pe_ix ix_tup (pv 0) pe_int (fun _ _ => rfl)) pa_nil)))), ?_⟩
    exact ⟨_, rfl, p, _, _, _, rfl, rfl, SqT.of hp, rfl, l, _, rfl, SqL.of hl, _, rfl, p, _, _, _, rfl, rfl, SqT.of hp, rfl, _, _, rfl, lz, l1000, fun p' hp' => q _ _ (Same.upd hp') ⟨p', rfl, upd_same⟩⟩
def FrAt (H : Hp) (v : V) (q : Rat) : Prop := ∃ p pr, v = .ref p ∧ H p = some (tupF pr) ∧ Q6.IsFr q pr ∧ M11.Bn 13000 pr.1 ∧ M11.Bn 499 pr.2
theorem FrAt.mono {H H' : Hp} {v : V} {q : Rat} (h : FrAt H v q) (s : Same H H') : FrAt H' v q := by
  obtain ⟨p, pr, e, h1, h2⟩ := h
  exact ⟨p, pr, e, s _ _ h1, h2⟩
def Shr (m s : Nat) (f : Nat → Rat) : Prop := ∃ r : TM.Rw, Q6.Va m s f r.1 r.2
def FrsM (H : Hp) (a : Addr) (m s : Nat) (f : Nat → Rat) : Prop := ∃ vs, H a = some (.lst vs) ∧ vs.length = m ∧ Shr m s f ∧ ∀ (i : Nat) (v : V), vs[i]? = some v → FrAt H v (f i)
theorem bn_low {c d : Nat} {t b : Int} (hb : b ≠ 0) (ht : M11.Bn c t) (hb' : M11.Bn d b) : M11.Bn c (M11.low t b).1 ∧ M11.Bn d (M11.low t b).2 := by
  obtain ⟨h1, h2⟩ := M11.low_le (t := t) hb
  exact ⟨ht.le h1, hb'.le h2⟩
theorem frsM {H : Hp} {a : Addr} {m s : Nat} {f : Nat → Rat} {r : TM.Rw} (S : Q6.Va m s f r.1 r.2) (hs : s ≤ 1500) (h : FrsAt H a (frs r)) : FrsM H a m s f := by
  obtain ⟨vs, h1, h2, h3⟩ := h
  rw [frs_len, S.len] at h2
  refine ⟨vs, h1, h2, ⟨r, S⟩, fun i v e => ?_⟩
  obtain ⟨x, ex⟩ := get_lt (l := r.1) (i := i) (by rw [S.len, ← h2]; exact lt_get e)
  obtain ⟨p, rfl, hp⟩ := h3 i v (M11.low x r.2) e (by unfold frs; rw [List.getElem?_map, ex]; rfl)
  have b := bn_low (by have := S.pos; omega) ((S.tops x (List.mem_of_getElem? ex)).mono (m := 13000) (by omega)) (va499 S hs)
  exact ⟨p, _, rfl, hp, S.fr ex, b.1, b.2⟩
theorem frAt_tot {H : Hp} {m s : Nat} {f : Nat → Rat} {r : TM.Rw} {u : V} (S : Q6.Va m s f r.1 r.2) (hs : s ≤ 1500) (hm : m ≤ 256) (h : frV H u (M11.low r.1.sum r.2)) : FrAt H u (Q6.sm f m) := by
  obtain ⟨p, rfl, hp⟩ := h
  have nz : r.2 ≠ 0 := by have := S.pos; omega
  have b := bn_low nz ((M11.bn_sum (n := 8 * s) 8 r.1 (by rw [S.len]; show _ ≤ 256; exact hm) S.tops).mono (m := 13000) (by omega)) (va499 S hs)
  exact ⟨p, _, rfl, hp, S.total, b.1, b.2⟩
end
section
variable {P : Program} {w : World} {K : PySem.W.Frag} {mg : Str → Option Value} {base : Heap}
def TabM (H H' : Hp) (a : Addr) (n s : Nat) (f : Nat → Rat) : Prop := ∃ X : List (List V), GrdN H H' a X ∧ X.length = n ∧ Shr (n * n) s f ∧ ∀ (i : Nat) (x : List V), X[i]? = some x → x.length = n ∧ ∀ (j : Nat) (v : V), x[j]? = some v → FrAt H' v (f (i * n + j))
theorem sqV_get {xs : List V} {n i : Nat} {x : List V} (hl : xs.length = n * n) (h : (squareV xs n)[i]? = some x) : x.length = n ∧ ∀ (j : Nat) (v : V), x[j]? = some v → xs[i * n + j]? = some v := by
  have hi : i < n := by
    have := lt_get h
    unfold squareV at this
    rw [List.length_map, List.length_range] at this
    exact this
  unfold squareV at h
  rw [List.getElem?_map, List.getElem?_range hi] at h
  obtain rfl : (xs.drop (n * i)).take n = x := Option.some.inj h
  have le : n * i + n ≤ n * n := by
    have := Nat.mul_le_mul_left n (show i + 1 ≤ n from hi)
    rw [Nat.mul_succ] at this
    exact this
  refine ⟨by rw [List.length_take, List.length_drop, hl, Nat.min_eq_left (by omega)], fun j v e => ?_⟩
  have hj : j < n := by
    have := lt_get e
    rw [List.length_take] at this
    omega
  rw [List.getElem?_take_of_lt hj, List.getElem?_drop] at e
  rw [Nat.mul_comm i n]
  exact e
theorem GrdN.back {H0 H H' : Hp} {D : Addr} {X : List (List V)} (g : GrdN H H' D X) (s : Same H0 H) : GrdN H0 H' D X := by
  obtain ⟨rs, h1, h2, h3, h4⟩ := g
  exact ⟨rs, h1, h2, h3, fun r h => ⟨s.free (h4 r h).1, (h4 r h).2⟩⟩
end
section
variable {P : Program} {w : World} {K : PySem.W.Frag} {mg : Str → Option Value} {base : Heap}
structure BltF (mg : Str → Option Value) : Prop where
  abs : mg "abs" = none
  len : mg "len" = none
  isi : mg "isinstance" = none
  int : mg "int" = none
  bool : mg "bool" = none
  tuple : mg "tuple" = none
  list : mg "list" = none
  range : mg "range" = none
def spWhole : Sp := fun vs H Q _ => ∃ i : Int, vs = [.int i] ∧ Q (.bl true) H
def spIsF : Sp := fun vs H Q _ => ∃ (p : Addr) (x y : Int), vs = [.ref p] ∧ H p = some (tupF (x, y)) ∧ 0 < y ∧ Int.gcd x y = 1 ∧ Q (.bl true) H
theorem at0 (x y : V) : atI [x, y] 0 = some x := rfl
theorem at1 (x y : V) : atI [x, y] 1 = some y := rfl
theorem kitII : PySem.W.kitOne K (.type "int") (.type "int") = some true := rfl
theorem kitTT : PySem.W.kitOne K (.type "tuple") (.type "tuple") = some true := rfl
theorem kitIB : PySem.W.kitOne K (.type "int") (.type "bool") = some false := by
  with_unfolding_all rfl
theorem scWhole : FnScope ["_law_found"] ["_law_found"] (defScope sWhole) := ⟨rfl, rfl, rfl, by decide +kernel, rfl, by decide +kernel, by decide +kernel⟩
theorem ok_whole {f : Addr} {fd : FuncData} (B : BltF mg) (F : Fun K "_law_whole" "_law_whole" sWhole f fd) : FnOk P w K mg base CX0 1 f fd ["_law_found"] spWhole := by
  refine F.ok scWhole (fun vs H Q E h => ?_) (fun cdv A outer s H vs Q E hr h => ?_)
  · obtain ⟨i, rfl, _⟩ := h
    rfl
  · obtain ⟨i, rfl, k⟩ := h
    refine ⟨_, pss_one (ps_ret (pe_and (pe_callB call_isinst (by rfl) B.isi boot_isinstance (pa_cons (pv 0) (pa_cons (pe_bltn (v := .ty "int") rfl B.int boot_int rfl) pa_nil)))
      (pe_one (pe_not (pe_callB call_isinst (by rfl) B.isi boot_isinstance (pa_cons (pv 0) (pa_cons (pe_bltn (v := .ty "bool") rfl B.bool boot_bool rfl) pa_nil))))))), ?_⟩
    refine ⟨_, rfl, _, _, _, _, rfl, .int i, kitII, _, rfl, iteT ?_⟩
    exact ⟨_, rfl, _, _, _, _, rfl, .int i, kitIB, _, rfl, k⟩
theorem scDiv : FnScope ["_law_one", "_law_other", "_law_left", "_law_right"] ["_law_one", "_law_other"] (defScope sDiv) := ⟨rfl, rfl, rfl, by decide +kernel, rfl, by decide +kernel, by decide +kernel⟩
theorem ok_div {f : Addr} {fd : FuncData} (B : BltF mg) (F : Fun K "_law_divisor" "_law_divisor" sDiv f fd) : FnOk P w K mg base CX0 1 f fd ["_law_one", "_law_other"] spG := by
  refine F.ok scDiv (fun vs H Q E h => ?_) (fun cdv A outer s H vs Q E hr h => ?_)
  · obtain ⟨a, b, rfl, _⟩ := h
    rfl
  · obtain ⟨a, b, rfl, k⟩ := h
    refine ⟨_, pss_cons (ps_set (i := 2) scDiv.nd rfl (Or.inl rfl) (pe_callB call_abs (by rfl) B.abs boot_abs (pa_cons (pv 0) pa_nil)))
      (pss_cons (ps_set (i := 3) scDiv.nd rfl (Or.inl rfl) (pe_callB call_abs (by rfl) B.abs boot_abs (pa_cons (pv 1) pa_nil)))
      (pss_cons (ps_while PassesOwn.never (pt_cmpR op_gt (pv 2) pe_int (nomark _))
        (pss_one (ps_par (i := 2) (j := 3) rfl scDiv.nd rfl rfl (by decide) rfl rfl (pa_cons (pe_op op_mod (pv 3) (pv 2)) (pa_cons (pv 2) pa_nil)) (by rfl))))
      (pss_one (ps_ret (pv 3))))), ?_⟩
    refine ⟨_, rfl, a, rfl, _, rfl, b, rfl, ?_⟩
    refine while_by (fun σ H' => ∃ (x y : Int), σ = [some (.int a), some (.int b), some (.int x), some (.int y)] ∧ H' = H ∧ 0 ≤ x ∧ 0 ≤ y ∧ Int.gcd x y = Int.gcd a b)
      (fun σ _ => match σ with | [_, _, some (.int x), _] => x.natAbs | _ => 0) ⟨_, _, rfl, rfl, (by split <;> omega), (by split <;> omega), M11.gcd_abs a b⟩ ?_ ?_
    · rintro σ H' ⟨x, y, rfl, rfl, hx, hy, hg⟩
      refine ⟨_, rfl, _, _, rfl, rfl, _, rfl, ?_⟩
      by_cases h0 : 0 < x
      · refine itDP h0 ?_
        refine ⟨_, rfl, _, rfl, _, _, rfl, rfl, h0, _, rfl, _, _, rfl, ?_⟩
        have e1 := Int.emod_nonneg y (b := x) (by omega)
        have e2 := Int.emod_lt_of_pos y h0
        refine ⟨⟨y % x, x, rfl, rfl, e1, hx, by rw [M11.gcd_stepN]; exact hg⟩, ?_⟩
        show (y % x).natAbs < x.natAbs
        omega
      · refine itDN h0 ?_
        have hx0 : x = 0 := by omega
        subst hx0
        refine ⟨_, rfl, ?_⟩
        have e : y = M11.G a b := by
          show y = ((Int.gcd a b : Nat) : Int)
          rw [← hg, Int.gcd_comm, Int.gcd_zero_right]
          omega
        rw [e]
        exact k
    · rintro σ H' Q1 Q2 hq ⟨v, e, i, j, e1, e2, c, ec, q⟩
      exact ⟨v, e, i, j, e1, e2, c, ec, hq _ _ q⟩
theorem scIsF : FnScope ["_law_found"] ["_law_found"] (defScope sIsF) := ⟨rfl, rfl, rfl, by decide +kernel, rfl, by decide +kernel, by decide +kernel⟩
theorem ok_isf {f fW fD : Addr} {fd fdW fdD : FuncData} (B : BltF mg) (F : Fun K "_law_is_fraction" "_law_is_fraction" sIsF f fd) (DW : Dn K mg "_law_whole" sWhole ["_law_found"] fW fdW) (DD : Dn K mg "_law_divisor" sDiv ["_law_one", "_law_other"] fD fdD) :
    FnOk P w K mg base CX0 2 f fd ["_law_found"] spIsF := by
  have GW : FnOk P w K mg base CX0 1 fW fdW ["_law_found"] spWhole := ok_whole B DW.fn
  have GD : FnOk P w K mg base CX0 1 fD fdD ["_law_one", "_law_other"] spG := ok_div B DD.fn
  refine F.ok scIsF (fun vs H Q E h => ?_) (fun cdv A outer s H vs Q E hr h => ?_)
  · obtain ⟨p, x, y, rfl, _⟩ := h
    rfl
  · obtain ⟨p, x, y, rfl, hp, hy, hg, k⟩ := h
    refine ⟨_, pss_cons (ps_if (PW.pt (pw_or (pt_not (pt_val (pe_callB call_isinst (by rfl) B.isi boot_isinstance (pa_cons (pv 0) (pa_cons (pe_bltn (v := .ty "tuple") rfl B.tuple boot_tuple rfl) pa_nil)))))
        (pw_or (pt_cmpR op_ne (pe_callB call_len_seq (by rfl) B.len PySem.boot_len (pa_cons (pv 0) pa_nil)) pe_int (nomark _))
        (pw_or (pt_not (pt_val (pe_fn DW GW hr rfl (pa_cons (pe_ix ix_tup (pv 0) pe_int (fun _ _ => rfl)) pa_nil))))
        (pw_or1 (pt_not (pt_val (pe_fn DW GW hr rfl (pa_cons (pe_ix ix_tup (pv 0) pe_int (fun _ _ => rfl)) pa_nil))))))))) (pss_one (ps_ret pe_bl)) pss_nil)
      (pss_one (ps_ret (pe_and (pe_cmpR op_gt (pe_ix ix_tup (pv 0) pe_int (fun _ _ => rfl)) pe_int (nomark _))
        (pe_one (pe_cmpR op_eq (pe_fn DD GD hr rfl (pa_cons (pe_ix ix_tup (pv 0) pe_int (fun _ _ => rfl)) (pa_cons (pe_ix ix_tup (pv 0) pe_int (fun _ _ => rfl)) pa_nil))) pe_int (nomark _)))))), ?_⟩
    refine ⟨_, rfl, _, _, _, _, rfl, .tup hp, kitTT, _, rfl, iteF ?_⟩
    refine ⟨_, rfl, p, _, rfl, .inr (SqT.of hp), rfl, _, rfl, ?_⟩
    refine iteNS rfl ?_
    refine ⟨_, rfl, p, _, _, _, rfl, rfl, SqT.of hp, at0 _ _, x, rfl, _, rfl, iteF ?_⟩
    refine ⟨_, rfl, p, _, _, _, rfl, rfl, SqT.of hp, at1 _ _, y, rfl, _, rfl, iteF ?_⟩
    refine ⟨_, rfl, p, _, _, _, rfl, rfl, SqT.of hp, at1 _ _, _, _, rfl, rfl, _, rfl, itDP hy ?_⟩
    refine ⟨_, rfl, p, _, _, _, rfl, rfl, SqT.of hp, at0 _ _, _, rfl, p, _, _, _, rfl, rfl, SqT.of hp, at1 _ _, x, y, rfl, rfl, ?_⟩
    have e : decide (V.int (M11.G x y) = V.int 1) = true := by
      have : M11.G x y = 1 := by show ((Int.gcd x y : Nat) : Int) = 1; rw [hg]; rfl
      rw [this]
      exact decide_eq_true rfl
    rw [e]
    exact k
theorem scLow : FnScope ["_law_top", "_law_bottom", "_law_by"] ["_law_top", "_law_bottom"] (defScope sLow) := ⟨rfl, rfl, rfl, by decide +kernel, rfl, by decide +kernel, by decide +kernel⟩
theorem ok_low {f fG : Addr} {fd fdG : FuncData} (B : BltF mg) (F : Fun K "_law_lowest" "_law_lowest" sLow f fd) (DG : Dn K mg "_law_divisor" sDiv ["_law_one", "_law_other"] fG fdG) : FnOk P w K mg base CX0 2 f fd ["_law_top", "_law_bottom"] spF := by
  have GG : FnOk P w K mg base CX0 1 fG fdG ["_law_one", "_law_other"] spG := ok_div B DG.fn
  refine F.ok scLow (fun vs H Q E h => ?_) (fun cdv A outer s H vs Q E hr h => ?_)
  · obtain ⟨a, b, rfl, _⟩ := h
    rfl
  · obtain ⟨t, b, rfl, hb, hz, k⟩ := h
    refine ⟨_, pss_cons (ps_set (i := 2) scLow.nd rfl (Or.inl rfl) (pe_fn DG GG hr rfl (pa_cons (pv 0) (pa_cons (pv 1) pa_nil))))
      (pss_cons (ps_if (pt_cmpR op_lt (pv 1) pe_int (nomark _)) (pss_one (ps_set (i := 2) scLow.nd rfl (Or.inl rfl) (pe_un un_neg (pv 2)))) pss_nil)
      (pss_one (ps_ret (pe_tup (pa_cons (pe_op op_fdivB (pv 0) (pv 2)) (pa_cons (pe_op op_fdivB (pv 1) (pv 2)) pa_nil)))))), ?_⟩
    refine ⟨_, rfl, _, rfl, t, b, rfl, ?_⟩
    refine ⟨_, rfl, _, _, rfl, rfl, _, rfl, ?_⟩
    by_cases hn : b < 0
    · refine itDP hn ?_
      have e : -(M11.G t b) = M11.sgn t b := (if_pos hn).symm
      refine ⟨_, rfl, _, rfl, ?_⟩
      refine ⟨_, rfl, _, rfl, _, _, rfl, rfl, cdivB hb hz _ _ e, _, rfl, _, rfl, _, _, rfl, rfl, cdivB hb hz _ _ e, (by show 2 ≤ sizeLine; decide), fun p hp => ?_⟩
      have q := k p hp
      unfold M11.low at q
      rw [← e] at q
      exact q
    · refine itDN hn ?_
      have e : M11.G t b = M11.sgn t b := (if_neg hn).symm
      refine ⟨_, rfl, _, rfl, _, _, rfl, rfl, cdivB hb hz _ _ e, _, rfl, _, rfl, _, _, rfl, rfl, cdivB hb hz _ _ e, (by show 2 ≤ sizeLine; decide), fun p hp => ?_⟩
      have q := k p hp
      unfold M11.low at q
      rw [← e] at q
      exact q
structure Frn (x y : Int) : Prop where
  bx : M11.Bn 400000 x
  by' : M11.Bn 499 y
  pos : 0 < y
theorem Frn.mx {x y x' y' : Int} (f : Frn x y) (g : Frn x' y') : CMulN x x' := ⟨400000, by decide, f.bx, g.bx⟩
theorem Frn.mxy {x y x' y' : Int} (f : Frn x y) (g : Frn x' y') : CMulN x y' := ⟨400000, by decide, f.bx, g.by'.mono (by decide)⟩
theorem Frn.my {x y x' y' : Int} (f : Frn x y) (g : Frn x' y') : CMulN y y' := ⟨499, by decide, f.by', g.by'⟩
theorem Frn.den {x y x' y' : Int} (f : Frn x y) (g : Frn x' y') : y * y' ≠ 0 := Int.ne_of_gt (Int.mul_pos f.pos g.pos)
def sp2 (K : PySem.W.Frag) (g : Int → Int → Int → Int → Int × Int) : Sp := fun vs H Q _ => ∃ (p q : Addr) (x y x' y' : Int), vs = [.ref p, .ref q] ∧ SqT K H p [.int x, .int y] ∧ SqT K H q [.int x', .int y'] ∧ Frn x y ∧ Frn x' y' ∧
  ∀ r, H r = none → Q (.ref r) (upd H r (tupF (g x y x' y')))
def gSum (x y x' y' : Int) : Int × Int := M11.low (x * y' + x' * y) (y * y')
def gPro (x y x' y' : Int) : Int × Int := M11.low (x * x') (y * y')
theorem scPlus : FnScope ["_law_f", "_law_g"] ["_law_f", "_law_g"] (defScope sPlus) := ⟨rfl, rfl, rfl, by decide +kernel, rfl, by decide +kernel, by decide +kernel⟩
theorem ok_plus {f fF : Addr} {fd fdF : FuncData} (F : Fun K "_law_plus" "_law_plus" sPlus f fd) (DF : Dn K mg "_law_lowest" sLow ["_law_top", "_law_bottom"] fF fdF) (GF : FnOk P w K mg base CX0 2 fF fdF ["_law_top", "_law_bottom"] spF) : FnOk P w K mg base CX0 3 f fd ["_law_f", "_law_g"] (sp2 K gSum) := by
  refine F.ok scPlus (fun vs H Q E h => ?_) (fun cdv A outer s H vs Q E hr h => ?_)
  · obtain ⟨p, q, x, y, x', y', rfl, _⟩ := h
    rfl
  · obtain ⟨p, q, x, y, x', y', rfl, hp, hq, f1, f2, k⟩ := h
    refine ⟨_, pss_one (ps_ret (pe_fn DF GF hr rfl (pa_cons (pe_op op_add (pe_op op_mulN (pe_ix ix_tup (pv 0) pe_int (fun _ _ => rfl)) (pe_ix ix_tup (pv 1) pe_int (fun _ _ => rfl))) (pe_op op_mulN (pe_ix ix_tup (pv 1) pe_int (fun _ _ => rfl)) (pe_ix ix_tup (pv 0) pe_int (fun _ _ => rfl))))
      (pa_cons (pe_op op_mulN (pe_ix ix_tup (pv 0) pe_int (fun _ _ => rfl)) (pe_ix ix_tup (pv 1) pe_int (fun _ _ => rfl))) pa_nil)))), ?_⟩
    refine ⟨_, rfl, p, _, _, _, rfl, rfl, hp, at0 _ _, _, rfl, q, _, _, _, rfl, rfl, hq, at1 _ _, x, y', rfl, rfl, f1.mxy f2, ?_⟩
    refine ⟨_, rfl, q, _, _, _, rfl, rfl, hq, at0 _ _, _, rfl, p, _, _, _, rfl, rfl, hp, at1 _ _, x', y, rfl, rfl, f2.mxy f1, ?_⟩
    refine ⟨_, _, rfl, rfl, ?_⟩
    refine ⟨_, rfl, p, _, _, _, rfl, rfl, hp, at1 _ _, _, rfl, q, _, _, _, rfl, rfl, hq, at1 _ _, y, y', rfl, rfl, f1.my f2, ?_⟩
    exact ⟨_, _, rfl, f1.den f2, bot1000 f1.by' f2.by', fun r hr => k r hr⟩
theorem scTimes : FnScope ["_law_f", "_law_g"] ["_law_f", "_law_g"] (defScope sTimes) := ⟨rfl, rfl, rfl, by decide +kernel, rfl, by decide +kernel, by decide +kernel⟩
theorem ok_times {f fF : Addr} {fd fdF : FuncData} (F : Fun K "_law_times" "_law_times" sTimes f fd) (DF : Dn K mg "_law_lowest" sLow ["_law_top", "_law_bottom"] fF fdF) (GF : FnOk P w K mg base CX0 2 fF fdF ["_law_top", "_law_bottom"] spF) : FnOk P w K mg base CX0 3 f fd ["_law_f", "_law_g"] (sp2 K gPro) := by
  refine F.ok scTimes (fun vs H Q E h => ?_) (fun cdv A outer s H vs Q E hr h => ?_)
  · obtain ⟨p, q, x, y, x', y', rfl, _⟩ := h
    rfl
  · obtain ⟨p, q, x, y, x', y', rfl, hp, hq, f1, f2, k⟩ := h
    refine ⟨_, pss_one (ps_ret (pe_fn DF GF hr rfl (pa_cons (pe_op op_mulN (pe_ix ix_tup (pv 0) pe_int (fun _ _ => rfl)) (pe_ix ix_tup (pv 1) pe_int (fun _ _ => rfl)))
      (pa_cons (pe_op op_mulN (pe_ix ix_tup (pv 0) pe_int (fun _ _ => rfl)) (pe_ix ix_tup (pv 1) pe_int (fun _ _ => rfl))) pa_nil)))), ?_⟩
    refine ⟨_, rfl, p, _, _, _, rfl, rfl, hp, at0 _ _, _, rfl, q, _, _, _, rfl, rfl, hq, at0 _ _, x, x', rfl, rfl, f1.mx f2, ?_⟩
    refine ⟨_, rfl, p, _, _, _, rfl, rfl, hp, at1 _ _, _, rfl, q, _, _, _, rfl, rfl, hq, at1 _ _, y, y', rfl, rfl, f1.my f2, ?_⟩
    exact ⟨_, _, rfl, f1.den f2, bot1000 f1.by' f2.by', fun r hr => k r hr⟩
def spFrac : Sp := fun vs H Q _ => ∃ (d : Addr) (n : Nat), vs = [.ref d] ∧ Drw H d n ∧ n ≤ 900000 ∧ ∀ (p : Addr) (a b : Int) H', But d H H' → Drw H' d (n + 4) → H' p = some (tupF (a, b)) → p ≠ d → H p = none → (a.natAbs ≤ 10 ^ 60 ∧ 0 < b ∧ b ≤ 2 ^ 20 ∧ Int.gcd a b = 1) → Q (.ref p) H'
theorem scFrac : FnScope ["_law_draw", "_law_top"] ["_law_draw"] (defScope sFrac) := ⟨rfl, rfl, rfl, by decide +kernel, rfl, by decide +kernel, by decide +kernel⟩
theorem tops7 (r : Nat) (h : r < 7) : ∃ v : Int, [V.int 0, .int 1, .int (-1), .int 2, .int 5, .int (-7), .int (10 ^ (59 : Int).toNat + 1)][r]? = some (.int v) ∧ v.natAbs ≤ 10 ^ 60 := by
  rw [p59]
  match r, h with
  | 0, _ => exact ⟨_, rfl, by decide⟩
  | 1, _ => exact ⟨_, rfl, by decide⟩
  | 2, _ => exact ⟨_, rfl, by decide⟩
  | 3, _ => exact ⟨_, rfl, by decide⟩
  | 4, _ => exact ⟨_, rfl, by decide⟩
  | 5, _ => exact ⟨_, rfl, by decide⟩
  | 6, _ => exact ⟨_, rfl, by decide⟩
theorem bots5 (r : Nat) (h : r < 5) : ∃ v : Int, [V.int 1, .int 1, .int 2, .int 3, .int 12][r]? = some (.int v) ∧ 0 < v ∧ v ≤ 12 := by
  match r, h with
  | 0, _ => exact ⟨_, rfl, by decide, by decide⟩
  | 1, _ => exact ⟨_, rfl, by decide, by decide⟩
  | 2, _ => exact ⟨_, rfl, by decide, by decide⟩
  | 3, _ => exact ⟨_, rfl, by decide, by decide⟩
  | 4, _ => exact ⟨_, rfl, by decide, by decide⟩
theorem drw_ne {H : Hp} {d a : Addr} {j : Nat} (D : Drw H d j) (h : H a = none) : a ≠ d := fun e => by
  obtain ⟨_, _, _, e', _⟩ := D
  rw [e, e'] at h
  cases h
theorem but_old {d a : Addr} {H H' : Hp} (hB : But d H H') (hne : a ≠ d) (h : H' a = none) : H a = none := by
  cases e : H a with
  | none => rfl
  | some o => rw [hB a o hne e] at h; cases h
theorem ok_frac {f fT fL : Addr} {fd fdT fdL : FuncData} (F : Fun K "_law_fraction" "_law_fraction" sFrac f fd) (DT : Dn K mg "_law_take" sTake ["_law_draw", "_law_most"] fT fdT) (GT : FnOk P w K mg base CX0 2 fT fdT ["_law_draw", "_law_most"] spTake)
    (DL : Dn K mg "_law_lowest" sLow ["_law_top", "_law_bottom"] fL fdL) (GL : FnOk P w K mg base CX0 2 fL fdL ["_law_top", "_law_bottom"] spF) : FnOk P w K mg base CX0 3 f fd ["_law_draw"] spFrac := by
  refine F.ok scFrac (fun vs H Q E h => ?_) (fun cdv A outer s H vs Q E hr h => ?_)
  · obtain ⟨d, n, rfl, _⟩ := h
    rfl
  · obtain ⟨d, n, rfl, hd, hn, q⟩ := h
    refine ⟨_, pss_cons (ps_set (i := 1) scFrac.nd rfl (Or.inl rfl) (pe_ix ix_list (pe_lst (pa_cons pe_int (pa_cons pe_int (pa_cons (pe_un un_neg pe_int) (pa_cons pe_int (pa_cons pe_int (pa_cons (pe_un un_neg pe_int) (pa_cons (pe_op op_add (pe_op op_pow pe_int pe_int) pe_int) pa_nil)))))))) (pe_fn DT GT hr rfl (pa_cons (pv 0) (pa_cons pe_int pa_nil))) (fun _ _ => rfl)))
      (pss_one (ps_ret (pe_fn DL GL hr rfl (pa_cons (pv 1) (pa_cons (pe_ix ix_list (pe_lst (pa_cons pe_int (pa_cons pe_int (pa_cons pe_int (pa_cons pe_int (pa_cons pe_int pa_nil)))))) (pe_fn DT GT hr rfl (pa_cons (pv 0) (pa_cons pe_int pa_nil))) (fun _ _ => rfl)) pa_nil))))), ?_⟩
    refine ⟨1, rfl, 7, rfl, _, _, rfl, rfl, pow59, _, _, rfl, rfl, (by show 7 ≤ sizeLine; decide), fun l hl => ?_⟩
    have nl := drw_ne hd hl
    refine ⟨_, rfl, d, 7, n, rfl, by decide, by decide, hd.new hl, by omega, fun r H1 r0 r1 hB1 D1 => ?_⟩
    obtain ⟨r, rfl⟩ := Int.eq_ofNat_of_zero_le r0
    obtain ⟨tp, htp, btp⟩ := tops7 r (by omega)
    refine ⟨l, _, _, .int tp, rfl, rfl, SqL.of (hB1 l _ nl upd_same), atI_nat htp, ?_⟩
    have c1 := (But.new (p := d) (o := .lst [V.int 0, .int 1, .int (-1), .int 2, .int 5, .int (-7), .int (10 ^ (59 : Int).toNat + 1)]) hl).trans hB1
    refine ⟨_, rfl, (by show 5 ≤ sizeLine; decide), fun l2 hl2 => ?_⟩
    have nl2 := drw_ne D1 hl2
    refine ⟨_, rfl, d, 5, n + 2, rfl, by decide, by decide, D1.new hl2, by omega, fun r' H2 r0' r1' hB2 D2 => ?_⟩
    obtain ⟨r', rfl⟩ := Int.eq_ofNat_of_zero_le r0'
    obtain ⟨b, hb, b0, b1⟩ := bots5 r' (by omega)
    refine ⟨l2, _, _, .int b, rfl, rfl, SqL.of (hB2 l2 _ nl2 upd_same), atI_nat hb, ?_⟩
    have c2 := c1.trans ((But.new (p := d) (o := .lst [V.int 1, .int 1, .int 2, .int 3, .int 12]) hl2).trans hB2)
    refine ⟨tp, b, rfl, by omega, Nat.lt_of_le_of_lt (show b.natAbs ≤ 12 by omega) (by decide), fun p hp => ?_⟩
    have np := drw_ne D2 hp
    have le := M11.low_le (t := tp) (b := b) (by omega)
    have po := M11.low_pos (t := tp) (b := b) (by omega)
    have co := M11.low_cop (t := tp) (b := b) (by omega)
    refine q p (M11.low tp b).1 (M11.low tp b).2 _ (c2.trans (But.new hp)) (D2.new hp) upd_same np (but_old c2 np hp) ⟨Nat.le_trans le.1 btp, po, ?_, co⟩
    have : (M11.low tp b).2 ≤ 12 := by have := le.2; omega
    have e : (12 : Int) ≤ 2 ^ 20 := by decide
    omega
end
section
variable {P : Program} {w : World} {K : PySem.W.Frag} {mg : Str → Option Value} {base : Heap}
open Q6 TM
theorem IsFr_bn {q : Rat} {pr : Int × Int} {X B : Int} {c d : Nat} (h : IsFr q pr) (hB : 0 < B) (hq : (X : Rat) = q * (B : Rat)) (hX : M11.Bn c X) (hB' : M11.Bn d B) : M11.Bn c pr.1 ∧ M11.Bn d pr.2 := by
  have nB : B ≠ 0 := by omega
  rw [h.uniq (isFr_low nB hq)]
  exact bn_low nB hX hB'
theorem sum_take {m s : Nat} {f : Nat → Rat} {ts : List Int} {b : Int} (S : Va m s f ts b) {i : Nat} (hi : i ≤ m) : (((ts.take i).sum : Int) : Rat) = sm f i * (b : Rat) := by
  rw [sm_mul, sm_list (ts.take i) (fun k => f k * (b : Rat)) fun k x e => ?_, List.length_take, S.len, Nat.min_eq_left hi]
  have hk : k < i := by
    have := lt_get e
    rw [List.length_take] at this
    omega
  rw [List.getElem?_take_of_lt hk] at e
  exact S.val k x e
theorem frAt_sum {H : Hp} {m s : Nat} {f : Nat → Rat} {p : Addr} {pr : Int × Int} (S : Shr m s f) (hs : s ≤ 1500) (hm : m ≤ 256) {i : Nat} (hi : i ≤ m) (hp : H p = some (tupF pr)) (h : IsFr (sm f i) pr) : FrAt H (.ref p) (sm f i) := by
  obtain ⟨r, S⟩ := S
  have b := IsFr_bn (c := 13000) h S.pos (sum_take S hi) ((M11.bn_sum (n := 8 * s) 8 (r.1.take i) (by rw [List.length_take]; show _ ≤ 256; omega) fun x hx => S.tops x (List.mem_of_mem_take hx)).mono (by omega)) (va499 S hs)
  exact ⟨p, pr, rfl, hp, h, b.1, b.2⟩
theorem FrAt.frn {H : Hp} {v : V} {q : Rat} (h : FrAt H v q) : ∃ p pr, v = .ref p ∧ H p = some (tupF pr) ∧ IsFr q pr ∧ Frn pr.1 pr.2 := by
  obtain ⟨p, pr, e, h1, h2, h3, h4⟩ := h
  exact ⟨p, pr, e, h1, h2, h3.mono (by decide), h4, h2.pos⟩
end
section
variable {P : Program} {w : World} {K : PySem.W.Frag} {mg : Str → Option Value} {base : Heap}
open Q6 TM
theorem va_row {n s i : Nat} {f : Nat → Rat} {ts : List Int} {b : Int} (S : Va (n * n) s f ts b) (hi : i < n) : Va n s (fun j => f (i * n + j)) ((ts.drop (n * i)).take n) b :=
  ⟨cut_len hi S.len, S.pos, S.bot, fun x hx => S.tops x (List.mem_of_mem_drop (List.mem_of_mem_take hx)), fun k x e => S.val _ x (cut_get e)⟩
theorem va_col {n s j : Nat} {f : Nat → Rat} {ts : List Int} {b : Int} (S : Va (n * n) s f ts b) (hj : j < n) : Va n s (fun i => f (i * n + j)) (clI ts n j) b :=
  ⟨clI_len ts n j, S.pos, S.bot, fun x hx => by
    obtain ⟨k, e⟩ := mem_val hx
    exact S.tops x (List.mem_of_getElem? (clI_get S.len hj e)), fun k x e => S.val _ x (clI_get S.len hj e)⟩
theorem frAt_of {H : Hp} {m s : Nat} {f : Nat → Rat} {p : Addr} {pr : Int × Int} (S : Shr m s f) (hs : s ≤ 1500) {i : Nat} (hi : i < m) (hp : H p = some (tupF pr)) (h : IsFr (f i) pr) : FrAt H (.ref p) (f i) := by
  obtain ⟨r, S⟩ := S
  obtain ⟨x, ex⟩ := get_lt (l := r.1) (i := i) (by rw [S.len]; exact hi)
  have b := IsFr_bn h S.pos (S.val i x ex) ((S.tops x (List.mem_of_getElem? ex)).mono (m := 13000) (by omega)) (va499 S hs)
  exact ⟨p, pr, rfl, hp, h, b.1, b.2⟩
def TabR (H : Hp) (v : V) (n : Nat) (f : Nat → Rat) : Prop := ∃ (a : Addr) (X : List (List V)), v = .ref a ∧ GrdAt H a X ∧ X.length = n ∧ ∀ (i : Nat) (x : List V), X[i]? = some x → x.length = n ∧ ∀ (j : Nat) (v : V), x[j]? = some v → FrAt H v (f (i * n + j))
theorem TabR.mono {H H' : Hp} {v : V} {n : Nat} {f : Nat → Rat} (h : TabR H v n f) (s : Same H H') : TabR H' v n f := by
  obtain ⟨a, X, e, g, l, h⟩ := h
  exact ⟨a, X, e, g.mono s, l, fun i x ex => ⟨(h i x ex).1, fun j v ev => ((h i x ex).2 j v ev).mono s⟩⟩
theorem TabR.cell {H : Hp} {v : V} {n : Nat} {f : Nat → Rat} (h : TabR H v n f) {i j : Nat} (hi : i < n) (hj : j < n) : ∃ (a r : Addr) (rs : List Addr) (x : List V) (u : V), v = .ref a ∧ H a = some (.lst (rs.map V.ref)) ∧ atI (rs.map V.ref) (i : Int) = some (.ref r) ∧ H r = some (.lst x) ∧ atI x (j : Int) = some u ∧ FrAt H u (f (i * n + j)) := by
  obtain ⟨a, X, rfl, ⟨rs, ha, gv⟩, lX, h⟩ := h
  obtain ⟨x, ex⟩ := get_lt (l := X) (i := i) (by omega)
  obtain ⟨r, er⟩ := get_lt (l := rs) (i := i) (by rw [gv.len]; omega)
  obtain ⟨l1, l2⟩ := h i x ex
  obtain ⟨u, eu⟩ := get_lt (l := x) (i := j) (by omega)
  exact ⟨a, r, rs, x, u, rfl, ha, at_ref er, gv.row i r x er ex, atI_nat eu, l2 j u eu⟩
theorem nn_div {n i j : Nat} (hj : j < n) : (i * n + j) / n = i ∧ (i * n + j) % n = j := by
  have n0 : 0 < n := by omega
  have e1 : (i * n + j) / n = i := by rw [Nat.mul_comm, Nat.mul_add_div n0, Nat.div_eq_of_lt hj, Nat.add_zero]
  refine ⟨e1, ?_⟩
  have := Nat.div_add_mod (i * n + j) n
  rw [e1, Nat.mul_comm] at this
  omega
end
section
variable {P : Program} {w : World} {K : PySem.W.Frag} {mg : Str → Option Value} {base : Heap}
open Q6 TM
def datQ (q : Rat) : PyData := .tuple [.int q.num, .int (q.den : Int)]
theorem isFr_num (q : Rat) : IsFr q (q.num, (q.den : Int)) := by
  refine ⟨Int.ofNat_lt.mpr q.den_pos, ?_, ?_⟩
  · show Int.gcd q.num (q.den : Int) = 1
    exact q.reduced
  · have h := Rat.num_divInt_den q
    rw [Rat.divInt_eq_div] at h
    have nz : ((q.den : Int) : Rat) ≠ 0 := cast_ne (Int.ofNat_lt.mpr q.den_pos)
    show (q.num : Rat) = q * ((q.den : Int) : Rat)
    grind
end
section
variable {P : Program} {w : World} {K : PySem.W.Frag} {mg : Str → Option Value} {base : Heap}
open Q6 TM
theorem das_mk {ok : Addr → Prop} {H : Hp} : ∀ {ys : List V} {ds : List PyData}, ys.length = ds.length → (∀ (i : Nat) (y : V) (d : PyData), ys[i]? = some y → ds[i]? = some d → DA K ok H y d) → DAs K ok H ys ds
  | [], [], _, _ => .nil
  | y :: ys, d :: ds, hl, h => .cons (h 0 y d rfl rfl) (das_mk (by simpa using hl) fun i y' d' e1 e2 => h (i + 1) y' d' (by simpa using e1) (by simpa using e2))
  | [], _ :: _, hl, _ => by cases hl
  | _ :: _, [], hl, _ => by cases hl
theorem FrAt.da {H : Hp} {v : V} {q : Rat} (h : FrAt H v q) : DA K any H v (datQ q) := by
  obtain ⟨p, pr, rfl, hp, hf, _⟩ := h
  obtain rfl := hf.uniq (isFr_num q)
  exact .tup trivial (SqT.of hp) (.cons (.int _) (.cons (.int _) .nil))
def datR (n : Nat) (f : Nat → Rat) : PyData := .list ((List.range n).map fun j => datQ (f j))
def datT (n : Nat) (f : Nat → Rat) : PyData := .list ((List.range n).map fun i => datR n fun j => f (i * n + j))
theorem row_da {H : Hp} {r : Addr} {n : Nat} {f : Nat → Rat} {ys : List V} (h1 : H r = some (.lst ys)) (h2 : ys.length = n) (h3 : ∀ (j : Nat) (u : V), ys[j]? = some u → FrAt H u (f j)) : DA K any H (.ref r) (datR n f) := by
  refine .lst trivial (SqL.of h1) (das_mk (by rw [List.length_map, List.length_range, h2]) fun i y d e1 e2 => ?_)
  rw [List.getElem?_map, List.getElem?_range (by rw [← h2]; exact lt_get e1)] at e2
  rw [← Option.some.inj e2]
  exact (h3 i y e1).da
theorem TabR.da {H : Hp} {v : V} {n : Nat} {f : Nat → Rat} (h : TabR H v n f) : DA K any H v (datT n f) := by
  obtain ⟨a, X, rfl, ⟨rs, ha, gv⟩, lX, h⟩ := h
  have lr : rs.length = n := by rw [gv.len]; exact lX
  refine .lst trivial (SqL.of ha) (das_mk (by rw [List.length_map, List.length_map, List.length_range, lr]) fun i y d e1 e2 => ?_)
  obtain ⟨r, er, rfl⟩ := map_get e1
  have hi : i < n := by rw [← lr]; exact lt_get er
  rw [List.getElem?_map, List.getElem?_range hi] at e2
  obtain ⟨x, ex⟩ := get_lt (l := X) (i := i) (by omega)
  rw [← Option.some.inj e2]
  exact row_da (gv.row i r x er ex) (h i x ex).1 (h i x ex).2
theorem lay_all {α : Type} (g : α → PyData) (k : Nat) : ∀ l : List α, (∀ x ∈ l, (g x).canLay0 = true ∧ (g x).depth ≤ k) → PyData.canLayAll0 (l.map g) = true ∧ PyData.depthAll (l.map g) ≤ k
  | [], _ => ⟨rfl, Nat.zero_le _⟩
  | x :: l, h => by
    obtain ⟨a, b⟩ := h x List.mem_cons_self
    obtain ⟨c, d⟩ := lay_all g k l fun y hy => h y (List.mem_cons_of_mem _ hy)
    rw [List.map_cons]
    simp only [PyData.canLayAll0, PyData.depthAll, a, c, Bool.and_self, true_and]
    omega
theorem lay_Q (q : Rat) : (datQ q).canLay0 = true ∧ (datQ q).depth ≤ 2 := by
  simp [datQ, PyData.canLay0, PyData.canLayAll0, PyData.depth, PyData.depthAll]
theorem lay_R (n : Nat) (f : Nat → Rat) : (datR n f).canLay0 = true ∧ (datR n f).depth ≤ 3 := by
  obtain ⟨a, b⟩ := lay_all (fun j => datQ (f j)) 2 (List.range n) fun j _ => lay_Q (f j)
  simp only [datR, PyData.canLay0, PyData.depth, a, true_and]
  omega
theorem lay_T (n : Nat) (f : Nat → Rat) : (datT n f).canLay0 = true ∧ (datT n f).depth ≤ 4 := by
  obtain ⟨a, b⟩ := lay_all (fun i => datR n fun j => f (i * n + j)) 3 (List.range n) fun i _ => lay_R n _
  simp only [datT, PyData.canLay0, PyData.depth, a, true_and]
  omega
end
section
variable {P : Program} {w : World} {K : PySem.W.Frag} {mg : Str → Option Value} {base : Heap}
open TM
def But3 (d T R : Addr) (H H' : Hp) : Prop := ∀ b o, b ≠ d → b ≠ T → b ≠ R → H b = some o → H' b = some o
theorem But3.refl (d T R : Addr) (H : Hp) : But3 d T R H H := fun _ _ _ _ _ h => h
theorem But3.trans {d T R : Addr} {H H1 H2 : Hp} (a : But3 d T R H H1) (b : But3 d T R H1 H2) : But3 d T R H H2 := fun c o n m l h => b c o n m l (a c o n m l h)
theorem But3.updT {d T R : Addr} {H : Hp} {o : HO} : But3 d T R H (L2.upd H T o) := fun b u _ m _ e => by rw [upd_ne m]; exact e
theorem But3.updR {d T R : Addr} {H : Hp} {o : HO} : But3 d T R H (L2.upd H R o) := fun b u _ _ m e => by rw [upd_ne m]; exact e
theorem But.three {d T R : Addr} {H H' : Hp} (h : But d H H') : But3 d T R H H' := fun b o n _ _ e => h b o n e
theorem Same.three {d T R : Addr} {H H' : Hp} (h : Same H H') : But3 d T R H H' := fun b o _ _ _ e => h b o e
abbrev Ok3 (d T R : Addr) (a : Addr) : Prop := a ≠ d ∧ a ≠ T ∧ a ≠ R
theorem But3.keep {d T R : Addr} {H H' : Hp} (h : But3 d T R H H') : Keep (Ok3 d T R) H H' := fun b o n e => h b o n.1 n.2.1 n.2.2 e
theorem da3 {d T R : Addr} {H H' : Hp} {v : V} {x : PyData} (h : DA K (Ok3 d T R) H v x) (b : But3 d T R H H') : DA K (Ok3 d T R) H' v x := h.mono b.keep fun _ z => z
theorem das3 {d T R : Addr} {H H' : Hp} {v : List V} {x : List PyData} (h : DAs K (Ok3 d T R) H v x) (b : But3 d T R H H') : DAs K (Ok3 d T R) H' v x := DAs.mono b.keep (fun _ z => z) h
theorem drw_same {H H' : Hp} {d : Addr} {n : Nat} (D : Drw H d n) (s : Same H H') : Drw H' d n := by
  obtain ⟨a, b, c, e, y⟩ := D
  exact ⟨a, b, c, s _ _ e, y⟩
end
section
variable {P : Program} {w : World} {K : PySem.W.Frag} {mg : Str → Option Value} {base : Heap}
open Q6 TM
def Off (d : Addr) (H : Hp) : Hp := fun b => if b = d then none else H b
theorem off_same (d : Addr) (H : Hp) : Same (Off d H) H := fun b o e => by
  unfold Off at e
  split at e
  · cases e
  · exact e
theorem off_upd (d : Addr) (H : Hp) (o : HO) : Off d (L2.upd H d o) = Off d H := by
  funext b
  unfold Off
  by_cases c : b = d
  · rw [if_pos c, if_pos c]
  · rw [if_neg c, if_neg c, upd_ne c]
theorem off_mono {d : Addr} {H H' : Hp} (s : Same H H') : Same (Off d H) (Off d H') := fun b o e => by
  unfold Off at *
  by_cases c : b = d
  · rw [if_pos c] at e; cases e
  · rw [if_neg c] at e ⊢; exact s b o e
theorem off_get {d b : Addr} {H : Hp} {o : HO} (h : b ≠ d) (e : H b = some o) : Off d H b = some o := by
  unfold Off
  rw [if_neg h]
  exact e
theorem FrAt.off {d : Addr} {H : Hp} {v : V} {q : Rat} {xs : List V} (h : FrAt H v q) (hd : H d = some (.lst xs)) : FrAt (Off d H) v q := by
  obtain ⟨p, pr, e, h1, h2⟩ := h
  refine ⟨p, pr, e, off_get (fun z => ?_) h1, h2⟩
  rw [z, hd] at h1
  cases h1
theorem TabM.off {d a : Addr} {H0 H : Hp} {n s : Nat} {f : Nat → Rat} {xs : List V} {o : HO} (h : TabM H0 H a n s f) (ha : H0 a = none) (h0 : H0 d = some o) (hd : H d = some (.lst xs)) : TabR (Off d H) (.ref a) n f ∧ Shr (n * n) s f := by
  obtain ⟨X, ⟨rs, g1, g2, _, g4⟩, lX, hS, hX⟩ := h
  have ne : ∀ {b : Addr}, H0 b = none → b ≠ d := fun hb z => by rw [z, h0] at hb; cases hb
  exact ⟨⟨a, X, rfl, ⟨rs, off_get (ne ha) g1, g2.len, fun i r x e1 e2 => off_get (ne (g4 r (List.mem_of_getElem? e1)).1) (g2.row i r x e1 e2)⟩, lX, fun i x e => ⟨(hX i x e).1, fun j v e' => ((hX i x e).2 j v e').off hd⟩⟩, hS⟩
end
section
variable {P : Program} {w : World} {K : PySem.W.Frag} {mg : Str → Option Value} {base : Heap}
open TM Q6
abbrev vN (l : List Nat) : List V := l.map fun (i : Nat) => V.int (i : Int)
inductive Stp where
  | lf (k : Lf)
  | turned (i : Nat)
  | many (a b : Int) (i : Nat)
  | two (k : Bi) (i j : Nat)
def Stp.nd : Stp → Nd
  | .lf k => .lf k
  | .turned _ => .un .turned
  | .many a b _ => .un (.many a b)
  | .two k _ _ => .bi k
def Stp.rest : Stp → List PyData
  | .lf k => k.rest
  | .many a b _ => [.tuple [.int a, .int b]]
  | _ => []
def Stp.nums : Stp → List Nat
  | .lf _ => []
  | .turned i => [i]
  | .many _ _ i => [i]
  | .two _ i j => [i, j]
def Stp.dat (t : Stp) : PyData := .tuple (.str t.nd.word :: (t.rest ++ t.nums.map fun (i : Nat) => PyData.int (i : Int)))
def Stp.fit : Stp → Prop
  | .lf .one => False
  | .many a b _ => FrOk a b
  | .two .both _ _ => False
  | _ => True
structure Stp.ok (t : Stp) (k : Nat) : Prop where
  num : ∀ i ∈ t.nums, i < k
  fit : t.fit
def StsOk (ss : List Stp) : Prop := ∀ (k : Nat) (t : Stp), ss[k]? = some t → t.ok k
theorem StsOk.nil : StsOk [] := fun k t h => by cases h
theorem StsOk.snoc {ss : List Stp} {t : Stp} (h : StsOk ss) (ht : t.ok ss.length) : StsOk (ss ++ [t]) := fun k u e => by
  rcases snoc_get e with e | ⟨e, rfl⟩
  · exact h k u e
  · rename_i ek
    rw [ek]; exact ht
theorem StsOk.take {ss : List Stp} (h : StsOk ss) (m : Nat) : StsOk (ss.take m) := fun k u e => by
  by_cases c : k < m
  · rw [List.getElem?_take_of_lt c] at e
    exact h k u e
  · rw [List.getElem?_eq_none (by rw [List.length_take]; omega)] at e
    cases e
def grow {α : Type} (g : List α → Stp → α) (ss : List Stp) : List α := ss.foldl (fun zs t => zs ++ [g zs t]) []
theorem grow_snoc {α : Type} (g : List α → Stp → α) (ss : List Stp) (t : Stp) : grow g (ss ++ [t]) = grow g ss ++ [g (grow g ss) t] := by
  unfold grow
  rw [List.foldl_append]
  rfl
theorem grow_ext {α : Type} (g : List α → Stp → α) : ∀ (b : List Stp) (acc : List α), ∃ l, b.foldl (fun zs t => zs ++ [g zs t]) acc = acc ++ l ∧ l.length = b.length
  | [], acc => ⟨[], by simp, rfl⟩
  | t :: b, acc => by
    obtain ⟨l, e, h⟩ := grow_ext g b (acc ++ [g acc t])
    refine ⟨g acc t :: l, ?_, by rw [List.length_cons, List.length_cons, h]⟩
    rw [List.foldl_cons, e, List.append_assoc]
    rfl
theorem grow_len {α : Type} (g : List α → Stp → α) (ss : List Stp) : (grow g ss).length = ss.length := by
  obtain ⟨l, e, h⟩ := grow_ext g ss []
  unfold grow
  rw [e, List.nil_append, h]
theorem grow_take {α : Type} (g : List α → Stp → α) (ss : List Stp) (k : Nat) : grow g (ss.take k) = (grow g ss).take k := by
  obtain ⟨l, e, h⟩ := grow_ext g (ss.drop k) (grow g (ss.take k))
  have e2 : grow g ss = grow g (ss.take k) ++ l := by
    rw [← e]
    show ss.foldl _ [] = (ss.drop k).foldl _ ((ss.take k).foldl _ [])
    rw [← List.foldl_append, List.take_append_drop]
  rw [e2]
  have lk : (grow g (ss.take k)).length ≤ k := by rw [grow_len, List.length_take]; omega
  generalize grow g (ss.take k) = G at lk e2
  have lG : (grow g ss).length = G.length + l.length := by rw [e2, List.length_append]
  rw [grow_len] at lG
  by_cases c : k ≤ ss.length
  · have : G.length = k := by rw [List.length_drop] at h; omega
    rw [← this, List.take_left]
  · have hl : l = [] := by
      rw [List.length_drop] at h
      exact List.length_eq_zero_iff.mp (by omega)
    rw [hl, List.append_nil, List.take_of_length_le lk]
theorem grow_get {α : Type} (g : List α → Stp → α) (ss : List Stp) {k : Nat} {t : Stp} (h : ss[k]? = some t) : (grow g ss)[k]? = some (g ((grow g ss).take k) t) := by
  have e : ss.take (k + 1) = ss.take k ++ [t] := take_snoc h
  have e2 := grow_take g ss (k + 1)
  rw [e, grow_snoc] at e2
  have hk := lt_get h
  have e3 : (grow g (ss.take k)).length = k := by rw [grow_len, List.length_take]; omega
  have e4 : ((grow g ss).take (k + 1))[k]? = some (g ((grow g ss).take k) t) := by
    rw [← e2, List.getElem?_append_right (by omega), e3, Nat.sub_self, grow_take]
    rfl
  rw [List.getElem?_take_of_lt (by omega)] at e4
  exact e4
def szOf (zs : List Nat) : Stp → Nat
  | .lf k => lfZ k
  | .turned i => zs.getD i 0
  | .many _ _ i => zs.getD i 0 + 61
  | .two _ i j => zs.getD i 0 + zs.getD j 0 + 1
abbrev F0 : Nat → Rat := fun _ => 0
def lfM (hs : List Int) (M : List (List Int)) : Lf → Nat → Rat
  | .hue c => unF hs M .on (mean hs M (.lf (.hue c)))
  | k => mean hs M (.lf k)
def mnOf (hs : List Int) (M : List (List Int)) (fs : List (Nat → Rat)) : Stp → Nat → Rat
  | .lf k => lfM hs M k
  | .turned i => unF hs M .turned (fs.getD i F0)
  | .many a b i => unF hs M (.many a b) (fs.getD i F0)
  | .two k i j => biF hs.length k (fs.getD i F0) (fs.getD j F0)
def szs (ss : List Stp) : List Nat := grow szOf ss
def mns (hs : List Int) (M : List (List Int)) (ss : List Stp) : List (Nat → Rat) := grow (mnOf hs M) ss
def Few (ss : List Stp) : Prop := ∀ z ∈ szs ss, z ≤ 1400
theorem Few.take {ss : List Stp} (h : Few ss) (k : Nat) : Few (ss.take k) := fun z hz => by
  unfold szs at hz
  rw [grow_take] at hz
  exact h z (List.mem_of_mem_take hz)
theorem das_nats {ok : Addr → Prop} {H : Hp} : ∀ {ks : List V} {ns : List Nat}, DAs K ok H ks (ns.map fun (i : Nat) => PyData.int (i : Int)) → ks = vN ns
  | _, [], h => by cases h; rfl
  | _, n :: ns, h => by
    cases h with
    | cons h1 h2 =>
      cases h1
      rw [das_nats h2]
      rfl
theorem st_at {ok : Addr → Prop} {H : Hp} {v : V} (t : Stp) (h : DA K ok H v t.dat) : ∃ p pre, v = .ref p ∧ SqT K H p ((.str t.nd.word :: pre) ++ vN t.nums) ∧ DAs K ok H pre t.rest := by
  unfold Stp.dat at h
  cases h with
  | tup _ hs r =>
    cases r with
    | cons r1 r =>
      obtain ⟨x, y, rfl, d1, d2⟩ := das_split r
      rw [das_nats d2] at hs
      cases r1
      exact ⟨_, x, rfl, hs, d1⟩
theorem st_word (t : Stp) : PyProof.Rows.KTD.datumAt t.nd.word inTab = some ((t.nums.length : Nat) : Int) := by
  cases t with
  | lf k =>
    cases k
    · exact td_one
    · exact td_hue
    · exact td_same
    · exact td_tie
    · exact td_all
  | turned i => exact td_turned
  | many a b i => exact td_many
  | two k i j =>
    cases k
    · exact td_both
    · exact td_then
    · exact td_meet
    · exact td_plus
theorem st_ndAt {H : Hp} {t : Stp} {pre : List V} (d : DAs K any H pre t.rest) (g : t.fit) : NdAt K H (pre ++ vN t.nums) t.nd := by
  cases t with
  | lf k =>
    intro c e
    subst e
    rw [das_int d]
    rfl
  | turned i => trivial
  | many a b i =>
    obtain ⟨f, rfl, hf⟩ := das_fr d
    exact ⟨g, f, _, rfl, hf⟩
  | two k i j => cases k <;> trivial
def spInnerS (K : PySem.W.Frag) : Sp := fun vs H Q _ => ∃ (v : V) (t : Stp), vs = [v] ∧ DA K any H v t.dat ∧ ∀ q H', Same H H' → H' q = some (.tup (vN t.nums)) → Q (.ref q) H'
theorem ok_innerS {f aT : Addr} {fd : FuncData} (B : BltR mg) (hG : mg "INNER_TERMS" = some (.ref aT)) (TB : TabK K aT inTab) (F : Fun K "inner_terms" "inner_terms" sInner f fd) : FnOk P w K mg base CX0 1 f fd ["term"] (spInnerS K) := by
  refine F.ok scInner (fun vs H Q E h => ?_) (fun cdv A outer s H vs Q E hr h => ?_)
  · obtain ⟨v, t, rfl, _⟩ := h
    rfl
  · obtain ⟨v, t, rfl, hT, q⟩ := h
    obtain ⟨p, pre, rfl, hp', _⟩ := st_at t hT
    have hk : (vN t.nums).length = t.nums.length := by rw [List.length_map]
    have tw := st_word t
    generalize (vN t.nums) = ks at hk q hp'
    refine ⟨_, pss_one (ps_ret (pe_slice sl_tup (pv 0) (po_some (pe_op op_sub (pe_callB call_len_seq (by rfl) B.len PySem.boot_len (pa_cons (pv 0) pa_nil)) (pe_ix (ix_tab TB) (pe_glob (v := .ref aT) rfl hG rfl) (pe_ix ix_tup (pv 0) pe_int (fun _ _ => rfl)) (fun _ _ => rfl)))) po_none)), ?_⟩
    refine ⟨_, rfl, _, rfl, p, _, rfl, .inr hp', _, rfl, p, _, _, _, rfl, rfl, hp', at_hd _ _, _, _, rfl, rfl, tw, _, _, rfl, rfl, _, rfl, p, _, rfl, hp', ?_, fun q' hq' => ?_⟩
    · rintro ⟨h1, _⟩
      have e : ((((V.str (t.nd.word) :: pre) ++ ks).length : Nat) : Int) - ((t.nums.length : Nat) : Int) = (((V.str (t.nd.word) :: pre).length : Nat) : Int) := by
        rw [List.length_append, hk]; omega
      have h1' : HT.sIx ((V.str (t.nd.word) :: pre) ++ ks).length 0 (some (((((V.str (t.nd.word) :: pre) ++ ks).length : Nat) : Int) - ((t.nums.length : Nat) : Int))) = 0 := h1
      rw [e, HT.sIx_nat, List.length_append, List.length_cons] at h1'
      omega
    · have e : ((((V.str (t.nd.word) :: pre) ++ ks).length : Nat) : Int) - ((t.nums.length : Nat) : Int) = (((V.str (t.nd.word) :: pre).length : Nat) : Int) := by
        rw [List.length_append, hk]; omega
      have e2 : cutV ((V.str (t.nd.word) :: pre) ++ ks) (some (((((V.str (t.nd.word) :: pre) ++ ks).length : Nat) : Int) - ((t.nums.length : Nat) : Int))) none = ks := by rw [e]; exact cut_behind _ _
      have := q q' (L2.upd H q' (.tup ks)) (Same.upd hq') upd_same
      rw [← e2] at this
      exact this
theorem scNamed : FnScope ["step"] ["step"] (defScope sNamed) := ⟨rfl, rfl, rfl, by decide +kernel, rfl, by decide +kernel, by decide +kernel⟩
theorem ok_named {f fI : Addr} {fd fdI : FuncData} (F : Fun K "named_by" "named_by" sNamed f fd) (DI : Dn K mg "inner_terms" sInner ["term"] fI fdI) (GI : FnOk P w K mg base CX0 1 fI fdI ["term"] (spInnerS K)) : FnOk P w K mg base CX0 2 f fd ["step"] (spInnerS K) := by
  refine F.ok scNamed (fun vs H Q E h => ?_) (fun cdv A outer s H vs Q E hr h => ?_)
  · obtain ⟨v, t, rfl, _⟩ := h
    rfl
  · obtain ⟨v, t, rfl, hT, q⟩ := h
    exact ⟨_, pss_one (ps_ret (pe_fn DI GI hr rfl (pa_cons (pv 0) pa_nil))), _, rfl, v, t, rfl, hT, q⟩
def StsAt (K : PySem.W.Frag) (H : Hp) (a : Addr) (ss : List Stp) : Prop := ∃ vs, H a = some (.lst vs) ∧ DAs K any H vs (ss.map Stp.dat)
theorem StsAt.mono {H H' : Hp} {a : Addr} {ss : List Stp} (h : StsAt K H a ss) (s : Same H H') : StsAt K H' a ss := by
  obtain ⟨vs, e, d⟩ := h
  exact ⟨vs, s _ _ e, DAs.mono s.keep (fun _ _ => trivial) d⟩
def spLook (K : PySem.W.Frag) : Sp := fun vs H Q _ => ∃ (a : Addr) (ss : List Stp), vs = [.ref a] ∧ StsAt K H a ss ∧ StsOk ss ∧ ∀ H', Same H H' → Q .non H'
abbrev nLook : List Str := ["steps", "place", "step", "number"]
theorem scLook : FnScope nLook ["steps"] (defScope sLook) := ⟨rfl, rfl, rfl, by decide +kernel, rfl, by decide +kernel, by decide +kernel⟩
theorem das_at {ok : Addr → Prop} {H : Hp} : ∀ {ys : List V} {ds : List PyData}, DAs K ok H ys ds → ∀ (i : Nat) (x : V), ys[i]? = some x → ∃ d, ds[i]? = some d ∧ DA K ok H x d
  | _, _, .nil, i, x, h => by cases h
  | _, _, .cons a r, 0, x, h => by cases h; exact ⟨_, rfl, a⟩
  | _, _, .cons a r, i + 1, x, h => das_at r i x (by simpa using h)
theorem das_st {ok : Addr → Prop} {H : Hp} {vs : List V} {ss : List Stp} (h : DAs K ok H vs (ss.map Stp.dat)) {i : Nat} {x : V} (hx : vs[i]? = some x) : ∃ t, ss[i]? = some t ∧ DA K ok H x t.dat := by
  obtain ⟨d, hd, dx⟩ := das_at h i x hx
  obtain ⟨t, et, rfl⟩ := map_get hd
  exact ⟨t, et, dx⟩
theorem ok_look {f fN : Addr} {fd fdN : FuncData} (B : BltR mg) (F : Fun K "look_at_steps" "look_at_steps" sLook f fd) (DN : Dn K mg "named_by" sNamed ["step"] fN fdN) (GN : FnOk P w K mg base CX0 2 fN fdN ["step"] (spInnerS K)) : FnOk P w K mg base CX0 3 f fd ["steps"] (spLook K) := by
  refine F.ok scLook (fun vs H Q E h => ?_) (fun cdv A outer s H vs Q E hr h => ?_)
  · obtain ⟨a, ss, rfl, _⟩ := h
    rfl
  · obtain ⟨a, ss, rfl, ⟨vs, ha, hd⟩, hok, q⟩ := h
    refine ⟨_, pss_one (ps_for PassesOwn.never rfl (pi_enum rfl B.enum (pa_cons (pv 0) pa_nil)) (pg_tup rfl (pgs_cons (pg_name (i := 1) scLook.nd rfl (Or.inl rfl)) (pgs_cons (pg_name (i := 2) scLook.nd rfl (Or.inl rfl)) pgs_nil)))
      (pss_one (ps_for PassesOwn.never rfl (pi_tup (pe_fn DN GN hr rfl (pa_cons (pv 2) pa_nil))) (pg_name (i := 3) scLook.nd rfl (Or.inl rfl))
        (pss_one (ps_if (PW.pt (pw_or (pt_cmpR op_lt (pv 3) pe_int (nomark _)) (pw_or1 (pt_cmpR op_ge (pv 3) (pv 1) (nomark _)))))
          pss_never pss_nil))))), ?_⟩
    refine ⟨_, rfl, a, rfl, ⟨_, SqL.of ha⟩, for_enum (K := K) (xs := vs) (fun i σ H' => ∃ (o1 o2 o3 : Option V), σ = [some (.ref a), o1, o2, o3] ∧ Same H H') ?_ ?_ ?_ ?_⟩
    · exact ⟨none, none, none, rfl, Same.refl _⟩
    · rintro i σ H' _ ⟨o1, o2, o3, rfl, s'⟩
      exact SqL.of (s' _ _ ha)
    · rintro i x t σ H' hx ⟨o1, o2, o3, rfl, s'⟩ ht
      obtain ⟨st, hst, dx⟩ := das_st hd hx
      have so := (hok i st hst).num
      refine ⟨t, _, rfl, SqT.of upd_same, rfl, _, _, rfl, _, _, rfl, rfl, ?_⟩
      have s2 : Same H (upd H' t (.tup [.int (i : Int), x])) := s'.trans (Same.upd ht)
      generalize upd H' t (.tup [.int (i : Int), x]) = H2 at s2 ⊢
      refine ⟨_, rfl, x, st, rfl, dx.mono s2.keep (fun _ _ => trivial), fun q' H3 s3 eq => ?_⟩
      have s03 := s2.trans s3
      refine ⟨q', rfl, ⟨_, SqT.of eq⟩, for_tup (K := K) (xs := vN st.nums) (fun j σ H'' => ∃ o3 : Option V, σ = [some (.ref a), some (.int (i : Int)), some x, o3] ∧ H'' = H3) ?_ ?_ ?_ ?_⟩
      · exact ⟨_, rfl, rfl⟩
      · rintro j σ H'' _ ⟨o3, _, rfl⟩
        exact SqT.of eq
      · rintro j z σ H'' hz ⟨o3, rfl, rfl⟩
        obtain ⟨y, hy, rfl⟩ := map_get hz
        have ly := so y (List.mem_of_getElem? hy)
        refine ⟨_, rfl, _, _, rfl, rfl, _, rfl, itDN (by omega) ⟨_, rfl, _, rfl, _, _, rfl, rfl, _, rfl, itDN (by omega) ⟨_, rfl, rfl⟩⟩⟩
      · rintro σ H'' ⟨o3, rfl, rfl⟩
        exact ⟨_, _, _, rfl, s03⟩
    · rintro σ H' ⟨o1, o2, o3, rfl, s'⟩
      exact q H' s'
end
section
variable {P : Program} {w : World} {K : PySem.W.Frag} {mg : Str → Option Value} {base : Heap}
open TM Q6
theorem lc_tupV {a : Addr} {xs : List V} {te : TE} {Q : Hp → Prop} {σ : L2.St} {H1 : Hp} {D : Addr} (vs : List V) (hlen : vs.length = xs.length) (hm : xs.length ≤ 900) (hD : H1 D = none) (hxs : SqT K H1 a xs)
    (hs : ∀ (i : Nat) (x v : V) (H' : Hp), xs[i]? = some x → vs[i]? = some v → Same H1 H' → te (σ ++ [some x]) H' fun u H3 => u = v ∧ Same H' H3)
    (hd : ∀ H', Same H1 H' → H' D = some (.lst vs) → Q H')
    (mono : ∀ σ H Q Q', (∀ v H1, Q v H1 → Q' v H1) → te σ H Q → te σ H Q') :
    ∃ W : Nat → Nat → List V → Hp → Prop, (∃ m, W 0 m [] (upd H1 D (.lst []))) ∧
      ∀ i m ys H', W i m ys H' → H' D = some (.lst ys) ∧ (((Itt K a).stop i H' ∧ Q H') ∨ ((Itt K a).go i H' ∧ ∀ z H2, (Itt K a).yld i H' z H2 → te (σ ++ [some z]) H2 fun v H3 => H3 D = some (.lst ys) ∧ ys.length < sizeLine ∧ ∃ m', m' < m ∧ W (i + 1) m' (ys ++ [v]) (upd H3 D (.lst (ys ++ [v]))))) := by
  refine ⟨fun i m ys H' => m = xs.length - i ∧ i ≤ xs.length ∧ ys = vs.take i ∧ Same H1 H' ∧ H' D = some (.lst ys), ⟨xs.length, by simp, Nat.zero_le _, by rw [List.take_zero], Same.upd hD, upd_same⟩, ?_⟩
  rintro i m ys H4 ⟨rfl, hi, rfl, s4, eD⟩
  refine ⟨eD, ?_⟩
  by_cases hlt : i < xs.length
  · refine .inr ⟨⟨xs, xs[i], s4.seqT hxs, by simp [hlt]⟩, fun z H2 y => ?_⟩
    obtain ⟨e, y⟩ := y
    subst e
    have hx := y xs (s4.seqT hxs)
    have hv : vs[i]? = some vs[i] := List.getElem?_eq_getElem (by omega)
    refine mono _ _ _ _ ?_ (hs i z vs[i] _ hx hv s4)
    rintro u H5 ⟨rfl, s5⟩
    refine ⟨s5 _ _ eD, small1000 (by rw [List.length_take]; omega), xs.length - (i + 1), by omega, rfl, hlt, by rw [take_snoc hv], fun b o e => ?_, upd_same⟩
    rw [upd_ne (ne_of_none e hD)]
    exact s5 _ _ (s4 _ _ e)
  · refine .inl ⟨⟨xs, s4.seqT hxs, by omega⟩, hd H4 s4 ?_⟩
    rw [List.take_of_length_le (by omega)] at eD
    exact eD
def ValsAt (H : Hp) (vals : List V) (n : Nat) (zs : List Nat) (fs : List (Nat → Rat)) : Prop := ∀ (i : Nat) (v : V), vals[i]? = some v → VaAt H v (n * n) (zs.getD i 0) (fs.getD i F0)
theorem ValsAt.mono {H H' : Hp} {vals : List V} {n : Nat} {zs : List Nat} {fs : List (Nat → Rat)} (h : ValsAt H vals n zs fs) (s : Same H H') : ValsAt H' vals n zs fs := fun i v e => (h i v e).mono s
def pick (vals : List V) (ns : List Nat) : List V := ns.map fun i => (vals[i]?).getD .non
theorem pick_one {vals : List V} {i : Nat} (h : i < vals.length) : ∃ v, vals[i]? = some v ∧ (vals[i]?).getD .non = v := by
  obtain ⟨v, hv⟩ := get_lt (l := vals) h
  exact ⟨v, hv, by rw [hv]; rfl⟩
def spValStep (K : PySem.W.Frag) : Sp := fun vs H Q _ => ∃ (wA R : Addr) (v : V) (t : Stp) (vals : List V) (hs : List Int) (M : List (List Int)) (n : Nat) (zs : List Nat) (fs : List (Nat → Rat)), vs = [.ref wA, v, .ref R] ∧ WR H wA hs M ∧ MOk n hs M ∧ DA K any H v t.dat ∧ t.ok vals.length ∧ H R = some (.lst vals) ∧ ValsAt H vals n zs fs ∧ (∀ i < vals.length, zs.getD i 0 ≤ 1500) ∧ vals.length ≤ 900 ∧
  ∀ z H', Same H H' → VaAt H' z (n * n) (szOf zs t) (mnOf hs M fs t) → (t.nums = [] → NewL H H' z) → Q z H'
abbrev nValStep : List Str := ["web", "step", "values", "value"]
abbrev aValStep : List Str := ["web", "step", "values"]
theorem scValStep : FnScope nValStep aValStep (defScope sValStep) := ⟨rfl, rfl, rfl, by decide +kernel, rfl, by decide +kernel, by decide +kernel⟩
theorem lcValStep : LcScopes (defScope sValStep) nValStep (lcScope (argAt (asgVal (bodyAt sValStep 0)) 2)) ["number"] := ⟨by decide +kernel, rfl, by decide +kernel, by decide +kernel, by decide +kernel, by decide +kernel, by decide +kernel, by decide +kernel, by decide +kernel, by decide +kernel⟩
theorem nums_len (t : Stp) : t.nums.length ≤ 2 := by cases t <;> simp [Stp.nums]
theorem not_hue {t : Stp} (h : ∀ c, t ≠ .lf (.hue c)) : t.nd.word ≠ ("hue" : Str) := by
  cases t with
  | lf k =>
    cases k with
    | hue c => exact absurd rfl (h c)
    | _ => show (_ : Str) ≠ _; decide +kernel
  | turned i => show ("turned" : Str) ≠ "hue"; decide +kernel
  | many a b i => show ("many" : Str) ≠ "hue"; decide +kernel
  | two k i j =>
    show k.word ≠ _
    cases k <;> decide +kernel
theorem ok_valStep {f fN fK : Addr} {fd fdN fdK : FuncData} (F : Fun K "value_of_step" "value_of_step" sValStep f fd) (DN : Dn K mg "named_by" sNamed ["step"] fN fdN) (GN : FnOk P w K mg base CX0 2 fN fdN ["step"] (spInnerS K))
    (DK : Dn K mg "value_by_kind" sByKind ["web", "term", "inner_values"] fK fdK) (GK : FnOk P w K mg base CX0 6 fK fdK ["web", "term", "inner_values"] (spByKind K)) : FnOk P w K mg base CX0 7 f fd aValStep (spValStep K) := by
  refine F.ok scValStep (fun vs H Q E h => ?_) (fun cdv A outer s H vs Q E hr h => ?_)
  · obtain ⟨wA, R, v, t, vals, hs, M, n, zs, fs, rfl, _⟩ := h
    rfl
  · obtain ⟨wA, R, v, t, vals, hs, M, n, zs, fs, rfl, hW, mo, hT, tk, eR, hV, hz, l9, q⟩ := h
    have r2 := hr.mono (j := 2) (by decide)
    obtain ⟨p, pre, rfl, hp, dp⟩ := st_at t hT
    refine ⟨_, pss_mid (ps_set (i := 3) scValStep.nd rfl (Or.inl rfl) (pe_fn DK GK hr rfl (pa_cons (pv 0) (pa_cons (pv 1) (pa_cons (pe_lc1 rfl lcValStep rfl (pi_tup (pe_fn DN GN r2 rfl (pa_cons (pv 1) pa_nil))) (fun _ _ _ => pe_ix (ix_listK (K := K)) (pv 2) (pv 4) (fun _ _ => rfl))) pa_nil)))))
      (pss_one (ps_ret (pe_ifExp (pt_cmpR op_eq (pe_ix ix_tup (pv 1) pe_int (fun _ _ => rfl)) pe_str (nomark _)) (pe_fn DK GK hr rfl (pa_cons (pv 0) (pa_cons (pe_tup (pa_cons pe_str (pa_cons (pv 1) pa_nil))) (pa_cons (pe_lst (pa_cons (pv 3) pa_nil)) pa_nil)))) (pv 3)))), ?_⟩
    refine ⟨fun σ H3 => ∃ y : V, σ = [some (.ref wA), some (.ref p), some (.ref R), some y] ∧ Same H H3 ∧ ((∃ c, t = .lf (.hue c) ∧ VaAt H3 y n 1 (mean hs M (.lf (.hue c)))) ∨ ((∀ c, t ≠ .lf (.hue c)) ∧ VaAt H3 y (n * n) (szOf zs t) (mnOf hs M fs t) ∧ (t.nums = [] → NewL H H3 y))), ?_, ?_⟩
    · refine ⟨_, rfl, _, rfl, _, rfl, .ref p, t, rfl, hT, fun q' H1 s1 eq => ⟨q', rfl, ⟨_, SqT.of eq⟩, fun D hD => ?_⟩⟩
      refine lc_tupV (pick vals t.nums) (by unfold pick; rw [List.length_map, List.length_map]) (by rw [List.length_map]; exact Nat.le_trans (nums_len t) (by decide)) hD (SqT.of eq) ?_ ?_ ?_
      · intro i x v' H' hx hv s'
        obtain ⟨y, hy, rfl⟩ := map_get hx
        obtain ⟨y', hy', rfl⟩ := map_get hv
        rw [hy] at hy'
        cases hy'
        have b2 := tk.num y (List.mem_of_getElem? hy)
        obtain ⟨z, hz1, hz2⟩ := pick_one b2
        refine ⟨_, rfl, _, rfl, R, _, (y : Int), z, rfl, rfl, SqL.of (s' _ _ (s1 _ _ eR)), atI_nat hz1, hz2.symm, Same.refl _⟩
      · intro H2 s2 eD
        have s02 := s1.trans s2
        have hW2 := hW.mono s02
        have hp2 := s02.seqT hp
        have dp2 := DAs.mono s02.keep (fun _ _ => trivial) dp
        have nd2 := st_ndAt dp2 tk.fit
        have hV2 := hV.mono s02
        refine ⟨wA, D, p, t.nd, _, hs, M, n, _, rfl, hW2, mo, hp2, nd2, eD, ?_⟩
        cases t with
        | lf k =>
          refine ⟨rfl, fun y H3 s3 hy nl => ⟨y, rfl, s02.trans s3, ?_⟩⟩
          have nl : NewL H H3 y := let ⟨p', l', b', e1, e2, e3⟩ := nl; ⟨p', l', b', e1, e2, s02.free e3⟩
          cases k with
          | one => exact absurd tk.fit (fun z => z)
          | hue c => exact .inl ⟨c, rfl, hy⟩
          | same => exact .inr ⟨(fun c e => by cases e), hy, fun _ => nl⟩
          | tie => exact .inr ⟨(fun c e => by cases e), hy, fun _ => nl⟩
          | all => exact .inr ⟨(fun c e => by cases e), hy, fun _ => nl⟩
        | turned i =>
          have b2 := tk.num i (by simp [Stp.nums])
          obtain ⟨x, hx1, hx2⟩ := pick_one b2
          exact ⟨x, zs.getD i 0, fs.getD i F0, true, by unfold pick; simp only [Stp.nums, List.map_cons, List.map_nil, hx2], hV2 i x hx1, hz i b2, fun y H3 s3 hy _ => ⟨y, rfl, s02.trans s3, .inr ⟨(fun c e => by cases e), hy, (fun e => by cases e)⟩⟩⟩
        | many a b i =>
          have b2 := tk.num i (by simp [Stp.nums])
          obtain ⟨x, hx1, hx2⟩ := pick_one b2
          exact ⟨x, zs.getD i 0, fs.getD i F0, true, by unfold pick; simp only [Stp.nums, List.map_cons, List.map_nil, hx2], hV2 i x hx1, hz i b2, fun y H3 s3 hy _ => ⟨y, rfl, s02.trans s3, .inr ⟨(fun c e => by cases e), hy, (fun e => by cases e)⟩⟩⟩
        | two k i j =>
          have b2 := tk.num i (by simp [Stp.nums])
          have b3 := tk.num j (by simp [Stp.nums])
          obtain ⟨x, hx1, hx2⟩ := pick_one b2
          obtain ⟨x', hx3, hx4⟩ := pick_one b3
          have ob : biOk k true := by
            cases k with
            | both => exact absurd tk.fit (fun z => z)
            | thn => rfl
            | meet => rfl
            | plus => trivial
          refine ⟨x, x', zs.getD i 0, zs.getD j 0, fs.getD i F0, fs.getD j F0, true, by unfold pick; simp only [Stp.nums, List.map_cons, List.map_nil, hx2, hx4], ob, hV2 i x hx1, hV2 j x' hx3, hz i b2, hz j b3, fun y H3 s3 hy => ⟨y, rfl, s02.trans s3, .inr ⟨(fun c e => by cases e), ?_, (fun e => by cases e)⟩⟩⟩
          show VaAt H3 y (n * n) _ (biF hs.length k _ _)
          rw [mo.hl]
          exact hy
      · rintro σ H' Q1 Q2 hq ⟨v, e, v', e', a1, a2, a3, a4, a5, a6, a7, a8, g⟩
        exact ⟨v, e, v', e', a1, a2, a3, a4, a5, a6, a7, a8, hq _ _ g⟩
    · rintro σ H3 ⟨y, rfl, s3, hy⟩
      refine ⟨_, rfl, p, _, _, _, rfl, rfl, s3.seqT hp, at_hd _ _, rfl, _, rfl, ?_⟩
      rcases hy with ⟨c, rfl, hy⟩ | ⟨nh, hy, nl⟩
      · refine itDP rfl ?_
        refine ⟨_, rfl, _, rfl, (by show 2 ≤ sizeLine; decide), fun p2 hp2 => ?_⟩
        have s4 : Same H3 (L2.upd H3 p2 (.tup [.str "on", .ref p])) := Same.upd hp2
        have e4 : L2.upd H3 p2 (.tup [.str "on", .ref p]) p2 = some (.tup [.str "on", .ref p]) := upd_same
        generalize L2.upd H3 p2 (.tup [.str "on", .ref p]) = H4 at s4 e4 ⊢
        refine ⟨_, rfl, (by show 1 ≤ sizeLine; decide), fun l2 hl2 => ?_⟩
        have s5 : Same H4 (L2.upd H4 l2 (.lst [y])) := Same.upd hl2
        have e5 : L2.upd H4 l2 (.lst [y]) l2 = some (.lst [y]) := upd_same
        generalize L2.upd H4 l2 (.lst [y]) = H5 at s5 e5 ⊢
        have s05 := (s3.trans s4).trans s5
        exact ⟨wA, l2, p2, .un .on, _, hs, M, n, _, rfl, hW.mono s05, mo, SqT.of (s5 _ _ e4), trivial, e5, y, 1, mean hs M (.lf (.hue c)), true, rfl, hy.mono (s4.trans s5), by decide, fun y' H6 s6 hy' nl => q y' H6 (s05.trans s6) hy' fun _ => let ⟨p', l', b', e1, e2, e3⟩ := nl rfl; ⟨p', l', b', e1, e2, s05.free e3⟩⟩
      · exact itDN (sne (not_hue nh)) ⟨_, rfl, q y H3 s3 hy nl⟩
end
section
variable {P : Program} {w : World} {K : PySem.W.Frag} {mg : Str → Option Value} {base : Heap}
open TM Q6
structure StW (K : PySem.W.Frag) (H : Hp) (wA a : Addr) (ss : List Stp) (hs : List Int) (M : List (List Int)) (n : Nat) : Prop where
  wr : WR H wA hs M
  mo : MOk n hs M
  st : StsAt K H a ss
  ok : StsOk ss
  few : Few ss
  len : ss.length ≤ 900
theorem StW.mono {H H' : Hp} {wA a : Addr} {ss : List Stp} {hs : List Int} {M : List (List Int)} {n : Nat} (h : StW K H wA a ss hs M n) (s : Same H H') : StW K H' wA a ss hs M n := ⟨h.wr.mono s, h.mo, h.st.mono s, h.ok, h.few, h.len⟩
theorem getD_of {α : Type} {l : List α} {i : Nat} {x d : α} (h : l[i]? = some x) : l.getD i d = x := by rw [List.getD_eq_getElem?_getD, h]; rfl
theorem getD_take {α : Type} (l : List α) {i k : Nat} (d : α) (h : i < k) : (l.take k).getD i d = l.getD i d := by
  rw [List.getD_eq_getElem?_getD, List.getD_eq_getElem?_getD, List.getElem?_take_of_lt h]
theorem szOf_take (zs : List Nat) {k : Nat} {t : Stp} (h : ∀ i ∈ t.nums, i < k) : szOf (zs.take k) t = szOf zs t := by
  cases t with
  | lf _ => rfl
  | turned i => exact getD_take zs 0 (h i (by simp [Stp.nums]))
  | many a b i => show _ + 61 = _ + 61; rw [getD_take zs 0 (h i (by simp [Stp.nums]))]
  | two b i j => show _ + _ + 1 = _ + _ + 1; rw [getD_take zs 0 (h i (by simp [Stp.nums])), getD_take zs 0 (h j (by simp [Stp.nums]))]
theorem mnOf_take (hs : List Int) (M : List (List Int)) (fs : List (Nat → Rat)) {k : Nat} {t : Stp} (h : ∀ i ∈ t.nums, i < k) : mnOf hs M (fs.take k) t = mnOf hs M fs t := by
  cases t with
  | lf _ => rfl
  | turned i => simp only [mnOf]; rw [getD_take fs F0 (h i (by simp [Stp.nums]))]
  | many a b i => simp only [mnOf]; rw [getD_take fs F0 (h i (by simp [Stp.nums]))]
  | two b i j => simp only [mnOf]; rw [getD_take fs F0 (h i (by simp [Stp.nums])), getD_take fs F0 (h j (by simp [Stp.nums]))]
theorem szs_at {ss : List Stp} (h : StsOk ss) {k : Nat} {t : Stp} (e : ss[k]? = some t) : (szs ss)[k]? = some (szOf (szs ss) t) := by
  have := grow_get szOf ss e
  rw [szOf_take _ (h k t e).num] at this
  exact this
theorem mns_at {ss : List Stp} (h : StsOk ss) (hs : List Int) (M : List (List Int)) {k : Nat} {t : Stp} (e : ss[k]? = some t) : (mns hs M ss)[k]? = some (mnOf hs M (mns hs M ss) t) := by
  have := grow_get (mnOf hs M) ss e
  rw [mnOf_take hs M _ (h k t e).num] at this
  exact this
theorem few_at {ss : List Stp} (h : Few ss) (i : Nat) : (szs ss).getD i 0 ≤ 1400 := by
  rw [List.getD_eq_getElem?_getD]
  cases e : (szs ss)[i]? with
  | none => exact Nat.zero_le _
  | some z => exact h z (List.mem_of_getElem? e)
def spVals (K : PySem.W.Frag) : Sp := fun vs H Q _ => ∃ (wA a : Addr) (ss : List Stp) (hs : List Int) (M : List (List Int)) (n : Nat), vs = [.ref wA, .ref a] ∧ StW K H wA a ss hs M n ∧
  ∀ R vals H', Same H H' → H' R = some (.lst vals) → vals.length = ss.length → ValsAt H' vals n (szs ss) (mns hs M ss) → Q (.ref R) H'
abbrev nVals : List Str := ["web", "steps", "values", "step"]
theorem scVals : FnScope nVals ["web", "steps"] (defScope sVals) := ⟨rfl, rfl, rfl, by decide +kernel, rfl, by decide +kernel, by decide +kernel⟩
theorem VaAt.grow {H : Hp} {R : Addr} {vals : List V} {z v : V} {n s : Nat} {f : Nat → Rat} (eR : H R = some (.lst vals)) (hv : VaAt H v n s f) (nl : ∀ (p l : Addr) (b : V), v = .ref p → H p = some (.tup [.ref l, b]) → l ≠ R) : VaAt (L2.upd H R (.lst (vals ++ [z]))) v n s f := by
  obtain ⟨r, ⟨p, l, e, g1, g2⟩, S⟩ := hv
  exact ⟨r, ⟨p, l, e, by rw [upd_ne (fun y => by rw [y, eR] at g1; cases g1)]; exact g1, by rw [upd_ne (nl p l _ e g1)]; exact g2⟩, S⟩
theorem ok_vals {f fL fV : Addr} {fd fdL fdV : FuncData} (F : Fun K "values_of_steps" "values_of_steps" sVals f fd) (DL : Dn K mg "look_at_steps" sLook ["steps"] fL fdL) (GL : FnOk P w K mg base CX0 3 fL fdL ["steps"] (spLook K))
    (DV : Dn K mg "value_of_step" sValStep aValStep fV fdV) (GV : FnOk P w K mg base CX0 7 fV fdV aValStep (spValStep K)) : FnOk P w K mg base CX0 8 f fd ["web", "steps"] (spVals K) := by
  refine F.ok scVals (fun vs H Q E h => ?_) (fun cdv A outer s H vs Q E hr h => ?_)
  · obtain ⟨wA, a, ss, hs, M, n, rfl, _⟩ := h
    rfl
  · obtain ⟨wA, a, ss, hs, M, n, rfl, hW, q⟩ := h
    have r3 := hr.mono (j := 3) (by decide)
    refine ⟨_, pss_cons (ps_expr (pe_fn DL GL r3 rfl (pa_cons (pv 1) pa_nil)))
      (pss_cons (ps_set (i := 2) scVals.nd rfl (Or.inl rfl) (pe_lst pa_nil))
      (pss_cons (ps_for PassesOwn.never rfl (pi_list (pv 1)) (pg_name (i := 3) scVals.nd rfl (Or.inl rfl))
        (pss_one (ps_expr (pe_bm PySem.F.plainAttrs_list PySem.F.slot_list_append PySem.F.type_list_append mt_append (pv 2) (pa_cons (pe_fn DV GV hr rfl (pa_cons (pv 0) (pa_cons (pv 3) (pa_cons (pv 2) pa_nil)))) pa_nil)))))
      (pss_one (ps_ret (pv 2))))), ?_⟩
    obtain ⟨vs, ha, hd⟩ := hW.st
    have lv := das_len hd
    rw [List.length_map] at lv
    have l9 := hW.len
    refine ⟨_, rfl, a, ss, rfl, hW.st, hW.ok, fun H1 s1 => ?_⟩
    refine ⟨Nat.zero_le _, fun R hR => ?_⟩
    have hR0 : H R = none := s1.free hR
    have s2 : Same H (L2.upd H1 R (.lst [])) := s1.trans (Same.upd hR)
    have e2 : L2.upd H1 R (.lst []) R = some (.lst []) := upd_same
    generalize L2.upd H1 R (.lst []) = H2 at s2 e2 ⊢
    refine ⟨_, rfl, a, rfl, ⟨_, SqL.of (s2 _ _ ha)⟩, for_list (xs := vs) (fun i σ H' => ∃ (o3 : Option V) (vals : List V), σ = [some (.ref wA), some (.ref a), some (.ref R), o3] ∧ Same H H' ∧ H' R = some (.lst vals) ∧ vals.length = i ∧ ValsAt H' vals n (szs ss) (mns hs M ss)) ⟨none, [], rfl, s2, e2, rfl, fun i v e => by simp at e⟩ (fun i σ H' _ ⟨_, _, _, s', _⟩ => SqL.of (s' _ _ ha)) ?_ ?_⟩
    · rintro i x σ H3 hx ⟨o3, vals, rfl, s3, e3, l3, hV⟩
      obtain ⟨st, hst, dx⟩ := das_st hd hx
      have li := lt_get hst
      have tk : st.ok vals.length := by rw [l3]; exact hW.ok i st hst
      refine ⟨_, rfl, .inl ⟨rfl, _, SqL.of e3⟩, _, rfl, _, rfl, _, rfl, wA, R, x, st, vals, hs, M, n, szs ss, mns hs M ss, rfl, hW.wr.mono s3, hW.mo, dx.mono s3.keep (fun _ _ => trivial), tk, e3, hV, fun j _ => Nat.le_trans (few_at hW.few j) (by decide), by omega, fun z H4 s4 hz nl => ?_⟩
      have e4 := s4 _ _ e3
      have hV4 := hV.mono s4
      refine ⟨R, vals, z, rfl, rfl, e4, small1000 (by omega), ?_⟩
      have key : ∀ (v : V) (s : Nat) (f : Nat → Rat), VaAt H4 v (n * n) s f → (vals = [] → NewL H3 H4 v) → ∀ (p l : Addr) (b : V), v = .ref p → H4 p = some (.tup [.ref l, b]) → l ≠ R := fun v s f hv nl p l b ev ep el => by
        obtain ⟨r, ⟨p', l', ev', g1, g2⟩, S⟩ := hv
        rw [ev] at ev'
        cases ev'
        rw [ep] at g1
        cases g1
        rw [el, e4] at g2
        have g3 : vals = r.1.map V.int := by injection g2 with g2; injection g2
        cases hc : vals with
        | nil =>
          obtain ⟨p2, l2, b2, y1, y2, y3⟩ := nl hc
          rw [ev] at y1
          cases y1
          rw [ep] at y2
          cases y2
          rw [el, e3] at y3
          cases y3
        | cons y ys =>
          have h0 : vals[0]? = some y := by rw [hc]; rfl
          obtain ⟨r', ⟨p2, _, y1, _⟩, _⟩ := hV4 0 y h0
          rw [hc] at g3
          cases hr1 : r.1 with
          | nil => rw [hr1] at g3; cases g3
          | cons w ws =>
            rw [hr1, List.map_cons] at g3
            have := (List.cons.inj g3).1
            rw [y1] at this
            cases this
      refine ⟨_, vals ++ [z], rfl, fun b o e => by rw [upd_ne (ne_of_none e hR0)]; exact s4 _ _ (s3 _ _ e), upd_same, by rw [List.length_append, l3]; rfl, fun j v hj => ?_⟩
      rcases snoc_get hj with hj | ⟨ej, rfl⟩
      · exact VaAt.grow e4 (hV4 j v hj) (key v _ _ (hV4 j v hj) fun hc => by rw [hc] at hj; cases hj)
      · rw [ej, l3, getD_of (szs_at hW.ok hst), getD_of (mns_at hW.ok hs M hst)]
        refine VaAt.grow e4 hz (key _ _ _ hz fun hc => nl ?_)
        rw [hc] at tk
        cases hn : st.nums with
        | nil => rfl
        | cons y ys => exact absurd (tk.num y (by rw [hn]; exact List.mem_cons_self)) (Nat.not_lt_zero _)
    · rintro σ H3 ⟨o3, vals, rfl, s3, e3, l3, hV⟩
      exact ⟨_, rfl, q R vals H3 s3 e3 (by rw [l3, lv]) hV⟩
end
section
variable {P : Program} {w : World} {K : PySem.W.Frag} {mg : Str → Option Value} {base : Heap}
open TM Q6
theorem lc_tabs {a : Addr} {xs : List V} {te : TE} {Q : Hp → Prop} {σ : L2.St} {H1 : Hp} {D : Addr} (n : Nat) (F : Nat → Nat → Rat) (hm : xs.length ≤ 900) (hD : H1 D = none) (hxs : SqL K H1 a xs)
    (hs : ∀ (i : Nat) (x : V) (H' : Hp), xs[i]? = some x → Same H1 H' → te (σ ++ [some x]) H' fun v H3 => Same H' H3 ∧ ∃ b s, v = .ref b ∧ H' b = none ∧ TabM H' H3 b n s (F i))
    (hd : ∀ (bs : List Addr) (H' : Hp), Same H1 H' → H' D = some (.lst (bs.map V.ref)) → bs.length = xs.length → (∀ (j : Nat) (b : Addr), bs[j]? = some b → H1 b = none ∧ b ≠ D ∧ TabR H' (.ref b) n (F j)) → Q H')
    (mono : ∀ σ H Q Q', (∀ v H1, Q v H1 → Q' v H1) → te σ H Q → te σ H Q') :
    ∃ W : Nat → Nat → List V → Hp → Prop, (∃ m, W 0 m [] (upd H1 D (.lst []))) ∧
      ∀ i m ys H', W i m ys H' → H' D = some (.lst ys) ∧ (((Itl K a).stop i H' ∧ Q H') ∨ ((Itl K a).go i H' ∧ ∀ z H2, (Itl K a).yld i H' z H2 → te (σ ++ [some z]) H2 fun v H3 => H3 D = some (.lst ys) ∧ ys.length < sizeLine ∧ ∃ m', m' < m ∧ W (i + 1) m' (ys ++ [v]) (upd H3 D (.lst (ys ++ [v]))))) := by
  refine lc_list (xs := xs) (fun i ys H' => ∃ bs : List Addr, ys = bs.map V.ref ∧ bs.length = i ∧ Same H1 H' ∧ H' D = some (.lst ys) ∧ ∀ (j : Nat) (b : Addr), bs[j]? = some b → H1 b = none ∧ b ≠ D ∧ TabR (Off D H') (.ref b) n (F j)) ⟨[], rfl, rfl, Same.upd hD, upd_same, fun j b h => (by cases h)⟩ ?_ ?_ ?_ mono
  · rintro i ys H' _ ⟨bs, _, _, s', eD, _⟩
    exact ⟨s'.seq hxs, eD⟩
  · rintro i x ys H' hx ⟨bs, rfl, lb, s', eD, hv⟩
    have li := lt_get hx
    refine mono _ _ _ _ ?_ (hs i x H' hx s')
    rintro v H3 ⟨s3, b, s, rfl, nb, tb⟩
    have eD3 := s3 _ _ eD
    have nbD : b ≠ D := fun z => by rw [z, eD] at nb; cases nb
    refine ⟨eD3, small1000 (by rw [List.length_map]; omega), bs ++ [b], by rw [List.map_append]; rfl, by rw [List.length_append, lb]; rfl, fun c o e => ?_, upd_same, fun j u hj => ?_⟩
    · rw [upd_ne (ne_of_none e hD)]
      exact s3 _ _ (s' _ _ e)
    · rw [off_upd]
      rcases snoc_get hj with e | ⟨e, rfl⟩
      · obtain ⟨h1, h2, h3⟩ := hv j u e
        exact ⟨h1, h2, h3.mono (off_mono s3)⟩
      · rw [e, lb]
        exact ⟨s'.free nb, nbD, (tb.off nb eD eD3).1⟩
  · rintro ys H' ⟨bs, rfl, lb, s', eD, hv⟩
    exact hd bs H' s' eD lb fun j b e => ⟨(hv j b e).1, (hv j b e).2.1, (hv j b e).2.2.mono (off_same D H')⟩
def TabsM (H H' : Hp) (R : Addr) (n k : Nat) (fs : List (Nat → Rat)) : Prop := ∃ bs : List Addr, H' R = some (.lst (bs.map V.ref)) ∧ bs.length = k ∧ H R = none ∧ ∀ (j : Nat) (b : Addr), bs[j]? = some b → H b = none ∧ b ≠ R ∧ TabR H' (.ref b) n (fs.getD j F0)
def ShrAll (n k : Nat) (zs : List Nat) (fs : List (Nat → Rat)) : Prop := ∀ j < k, Shr (n * n) (zs.getD j 0) (fs.getD j F0)
def spTables (K : PySem.W.Frag) : Sp := fun vs H Q _ => ∃ (wA a : Addr) (ss : List Stp) (hs : List Int) (M : List (List Int)) (n : Nat), vs = [.ref wA, .ref a] ∧ StW K H wA a ss hs M n ∧
  ∀ R H', Same H H' → TabsM H H' R n ss.length (mns hs M ss) → ShrAll n ss.length (szs ss) (mns hs M ss) → Q (.ref R) H'
abbrev nTables : List Str := ["web", "steps", "size"]
theorem scTables : FnScope nTables ["web", "steps"] (defScope sTables) := ⟨rfl, rfl, rfl, by decide +kernel, rfl, by decide +kernel, by decide +kernel⟩
theorem lcTables : LcScopes (defScope sTables) nTables (lcScope (asgVal (bodyAt sTables 1))) ["value"] := ⟨by decide +kernel, rfl, by decide +kernel, by decide +kernel, by decide +kernel, by decide +kernel, by decide +kernel, by decide +kernel, by decide +kernel, by decide +kernel⟩
theorem ok_tables {f fV fF fS : Addr} {fd fdV fdF fdS : FuncData} (B : BltR mg) (F : Fun K "tables_of_steps" "tables_of_steps" sTables f fd) (DV : Dn K mg "values_of_steps" sVals ["web", "steps"] fV fdV) (GV : FnOk P w K mg base CX0 8 fV fdV ["web", "steps"] (spVals K))
    (DF : Dn K mg "fractions_of_value" sFrv ["value"] fF fdF) (GF : FnOk P w K mg base CX0 3 fF fdF ["value"] spFrv)
    (DS : Dn K mg "in_square" sInSq ["things", "size"] fS fdS) (GS : FnOk P w K mg base CX0 1 fS fdS ["things", "size"] (spInSq K)) : FnOk P w K mg base CX0 9 f fd ["web", "steps"] (spTables K) := by
  refine F.ok scTables (fun vs H Q E h => ?_) (fun cdv A outer s H vs Q E hr h => ?_)
  · obtain ⟨wA, a, ss, hs, M, n, rfl, _⟩ := h
    rfl
  · obtain ⟨wA, a, ss, hs, M, n, rfl, hW, q⟩ := h
    have r1 := hr.mono (j := 1) (by decide)
    have r3 := hr.mono (j := 3) (by decide)
    obtain ⟨hA, rA, rs, w1, w2, w3, RR⟩ := hW.wr.ex
    have few := hW.mo.few
    have nn : n * n ≤ 256 := Nat.mul_le_mul few few
    have l9 := hW.len
    refine ⟨_, pss_cons (ps_set (i := 2) scTables.nd rfl (Or.inr rfl) (pe_callB call_len_seq (by rfl) B.len PySem.boot_len (pa_cons (pe_ix ix_tup (pv 0) pe_int (fun _ _ => rfl)) pa_nil)))
      (pss_one (ps_ret (pe_lc1 rfl lcTables rfl (pi_list (pe_fn DV GV hr rfl (pa_cons (pv 0) (pa_cons (pv 1) pa_nil)))) (fun _ _ _ => pe_fn DS GS r1 rfl (pa_cons (pe_fn DF GF r3 rfl (pa_cons (pv 3) pa_nil)) (pa_cons (pv 2) pa_nil)))))), ?_⟩
    refine ⟨_, rfl, wA, _, _, _, rfl, rfl, SqT.of w1, rfl, hA, _, rfl, .inl (SqL.of w2), ?_⟩
    rw [List.length_map, hW.mo.hl]
    refine ⟨_, rfl, _, rfl, wA, a, ss, hs, M, n, rfl, hW, fun R vals H1 s1 eR lR hV => ⟨R, rfl, ⟨_, SqL.of eR⟩, fun D hD => ?_⟩⟩
    have shr : ShrAll n ss.length (szs ss) (mns hs M ss) := fun j hj => by
      obtain ⟨v, ev⟩ := get_lt (l := vals) (i := j) (by omega)
      obtain ⟨r, _, S⟩ := hV j v ev
      exact ⟨r, S⟩
    refine lc_tabs n (fun j => (mns hs M ss).getD j F0) (by omega) hD (SqL.of eR) ?_ ?_ ?_
    · intro i x H' hx s'
      obtain ⟨r, hz, S⟩ := (hV i x hx).mono s'
      have sz := Nat.le_trans (few_at hW.few i) (by decide : 1400 ≤ 1500)
      have b4 := va499 S sz
      refine ⟨_, rfl, x, r, 13000, rfl, hz, by rw [S.len]; omega, S.pos, b4.mono (m := 1000) (by decide), by decide, b4.mono (by decide), fun x hx => (S.tops x hx).mono (by omega), fun D1 H2 s2 n2 hf => ?_⟩
      obtain ⟨xs, ha, lx, hc, fx⟩ := frsM S sz hf
      refine ⟨_, rfl, D1, xs, n, rfl, SqL.of ha, lx, few, fun p H3 s3 np gp => ⟨s2.trans s3, p, _, rfl, s2.free np, _, gp.back s2, by unfold squareV; rw [List.length_map, List.length_range], hc, fun j y e => ?_⟩⟩
      obtain ⟨l1, l2⟩ := sqV_get lx e
      exact ⟨l1, fun m v' e' => (fx _ v' (l2 m v' e')).mono s3⟩
    · intro bs H' s' eD lb hb
      exact q D H' (s1.trans s') ⟨bs, eD, by rw [lb, lR], s1.free hD, fun j b e => ⟨s1.free (hb j b e).1, (hb j b e).2⟩⟩ shr
    · rintro σ H' Q1 Q2 hq ⟨v, e, x, r, k, a1, a2, a3, a4, a5, a6, a7, a8, g⟩
      refine ⟨v, e, x, r, k, a1, a2, a3, a4, a5, a6, a7, a8, fun D1 H2 s2 n2 hf => ?_⟩
      obtain ⟨v2, e3, D2, ys, m, b1, b2, b3, b4, g2⟩ := g D1 H2 s2 n2 hf
      exact ⟨v2, e3, D2, ys, m, b1, b2, b3, b4, fun p H3 s3 n3 g3 => hq _ _ (g2 p H3 s3 n3 g3)⟩
theorem scTotal : FnScope ["web", "steps"] ["web", "steps"] (defScope sTotal) := ⟨rfl, rfl, rfl, by decide +kernel, rfl, by decide +kernel, by decide +kernel⟩
theorem at_end {vals : List V} (h : 0 < vals.length) : ∃ v : V, vals[vals.length - 1]? = some v ∧ atI vals (-1) = some v := by
  obtain ⟨v, hv⟩ := get_lt (l := vals) (i := vals.length - 1) (by omega)
  refine ⟨v, hv, ?_⟩
  unfold atI ixN
  rw [if_neg (by decide), if_pos (by omega)]
  have : ((-1 : Int) + (vals.length : Int)).toNat = vals.length - 1 := by omega
  simp only [Option.bind_some, this, hv]
def spTotal (K : PySem.W.Frag) : Sp := fun vs H Q _ => ∃ (wA a : Addr) (ss : List Stp) (hs : List Int) (M : List (List Int)) (n : Nat), vs = [.ref wA, .ref a] ∧ StW K H wA a ss hs M n ∧ 0 < ss.length ∧
  ∀ u H', Same H H' → FrAt H' u (sm ((mns hs M ss).getD (ss.length - 1) F0) (n * n)) → Q u H'
theorem ok_total {f fV fT : Addr} {fd fdV fdT : FuncData} (F : Fun K "steps_total" "steps_total" sTotal f fd) (DV : Dn K mg "values_of_steps" sVals ["web", "steps"] fV fdV) (GV : FnOk P w K mg base CX0 8 fV fdV ["web", "steps"] (spVals K))
    (DT : Dn K mg "total_of_value" sTov ["value"] fT fdT) (GT : FnOk P w K mg base CX0 3 fT fdT ["value"] spTov) : FnOk P w K mg base CX0 9 f fd ["web", "steps"] (spTotal K) := by
  refine F.ok scTotal (fun vs H Q E h => ?_) (fun cdv A outer s H vs Q E hr h => ?_)
  · obtain ⟨wA, a, ss, hs, M, n, rfl, _⟩ := h
    rfl
  · obtain ⟨wA, a, ss, hs, M, n, rfl, hW, h0, q⟩ := h
    have r3 := hr.mono (j := 3) (by decide)
    have few := hW.mo.few
    have nn : n * n ≤ 256 := Nat.mul_le_mul few few
    refine ⟨_, pss_one (ps_ret (pe_fn DT GT r3 rfl (pa_cons (pe_ix ix_list (pe_fn DV GV hr rfl (pa_cons (pv 0) (pa_cons (pv 1) pa_nil))) (pe_un un_neg pe_int) (fun _ _ => rfl)) pa_nil))), ?_⟩
    refine ⟨_, rfl, _, rfl, wA, a, ss, hs, M, n, rfl, hW, fun R vals H1 s1 eR lR hV => ?_⟩
    obtain ⟨v, hv, at1⟩ := at_end (vals := vals) (by omega)
    obtain ⟨r, hz, S⟩ := hV _ v hv
    rw [lR] at S
    have sz := Nat.le_trans (few_at hW.few (ss.length - 1)) (by decide : 1400 ≤ 1500)
    exact ⟨_, rfl, R, _, _, v, rfl, rfl, SqL.of eR, at1, v, r, rfl, hz, by have := S.pos; omega, (va499 S sz).mono (m := 1000) (by decide), fun u H' s' fu => q u H' (s1.trans s') (frAt_tot S sz nn fu)⟩
end
section
variable {X : Cx}
structure QE (X : Cx) (e : Expr) (t : TE) : Prop where
  o : PE X e t
structure QA (X : Cx) (es : List Expr) (t : TA) : Prop where
  o : PA X es t
theorem qa_nil : QA X [] tNil := ⟨pa_nil⟩
theorem qa_cons {e : Expr} {es : List Expr} {te : TE} {t : TA} (ha : QE X e te) (hr : QA X es t) (hs : starEach (e :: es) X.env = (false, eval e X.env) :: starEach es X.env := by rfl) : QA X (e :: es) (tCons te t) := ⟨pa_cons ha.o hr.o hs⟩
theorem qe_lst {es : List Expr} {t : TA} {pos : Pos} (h : QA X es t) : QE X (.List es pos) (tLst t) := ⟨pe_lst h.o⟩
theorem qe_tup {es : List Expr} {t : TA} {k : Nat} {pos : Pos} (h : QA X es t) : QE X (.Tuple es k pos) (tTup t) := ⟨pe_tup h.o⟩
theorem qe_ix {a b : Expr} {ta tb : TE} {pos : Pos} {r : R2} (hr : IxR X r) (ha : QE X a ta) (hb : QE X b tb) (hs : PlainIx b) : QE X (.Subscript a b pos) (tOp r ta tb) := ⟨pe_ix hr ha.o hb.o hs⟩
end
section
variable {P : Program} {w : World} {K : PySem.W.Frag} {mg : Str → Option Value} {base : Heap}
open TM
theorem PE.weak {X : Cx} {e : Expr} {t t' : TE} (h : PE X e t) (k : ∀ σ H Q, t' σ H Q → t σ H Q) : PE X e t' := fun pins s σ H Q I z => h pins s σ H Q I (k σ H Q z)
structure StD (K : PySem.W.Frag) (d S Z : Addr) (H : Hp) (n : Nat) (us : List V) (ss : List Stp) : Prop where
  drw : Drw H d n
  tS : H S = some (.lst us)
  tZ : H Z = some (.lst (vN (szs ss)))
  nS : d ≠ S
  nZ : d ≠ Z
  nSZ : S ≠ Z
  dS : DAs K (Ok3 d S Z) H us (ss.map Stp.dat)
  ok : StsOk ss
  few : ∀ z ∈ szs ss, z ≤ 800
theorem StD.same {d S Z : Addr} {H H' : Hp} {n : Nat} {us : List V} {ss : List Stp} (h : StD K d S Z H n us ss) (s : Same H H') : StD K d S Z H' n us ss :=
  ⟨drw_same h.drw s, s _ _ h.tS, s _ _ h.tZ, h.nS, h.nZ, h.nSZ, das3 h.dS (Same.three s), h.ok, h.few⟩
theorem StD.take {d S Z : Addr} {H H' : Hp} {n m : Nat} {us : List V} {ss : List Stp} (h : StD K d S Z H n us ss) (b : But d H H') (D : Drw H' d m) : StD K d S Z H' m us ss :=
  ⟨D, b _ _ h.nS.symm h.tS, b _ _ h.nZ.symm h.tZ, h.nS, h.nZ, h.nSZ, das3 h.dS b.three, h.ok, h.few⟩
theorem StD.free {d S Z a : Addr} {H : Hp} {n : Nat} {us : List V} {ss : List Stp} (h : StD K d S Z H n us ss) (e : H a = none) : Ok3 d S Z a := ⟨drw_ne h.drw e, (ne_of_none h.tS e).symm, (ne_of_none h.tZ e).symm⟩
theorem same_but {d : Addr} {H H' : Hp} (s : Same H H') : But d H H' := fun b o _ e => s b o e
def EndS (K : PySem.W.Frag) (d S Z : Addr) (H : Hp) (n : Nat) (ss : List Stp) (Q : VK) : Prop := ∀ (p : Addr) (v : V) (t : Stp) (H' : Hp), But d H H' → Drw H' d (n + 12) → H' p = some (.tup [v, .int ((szOf (szs ss) t : Nat) : Int)]) → DA K (Ok3 d S Z) H' v t.dat → t.ok ss.length → szOf (szs ss) t ≤ 800 → Q (.ref p) H'
def spStep (K : PySem.W.Frag) : Sp := fun vs H Q _ => ∃ (d S Z : Addr) (n : Nat) (us : List V) (ss : List Stp), vs = [.ref d, .ref Z] ∧ StD K d S Z H n us ss ∧ n ≤ 800000 ∧ ss.length ≤ 900 ∧ EndS K d S Z H n ss Q
abbrev nStp : List Str := ["_law_draw", "_law_sizes", "_law_way", "_law_i", "_law_f", "_law_j"]
theorem scStp : FnScope nStp ["_law_draw", "_law_sizes"] (defScope sStep) := ⟨rfl, rfl, rfl, by decide +kernel, rfl, by decide +kernel, by decide +kernel⟩
theorem szs_len (ss : List Stp) : (szs ss).length = ss.length := grow_len _ _
theorem vN_len (l : List Nat) : (vN l).length = l.length := by simp
theorem vN_get {l : List Nat} {i z : Nat} (h : l[i]? = some z) : (vN l)[i]? = some (.int (z : Int)) := by rw [List.getElem?_map, h]; rfl
theorem das_vN {ok : Addr → Prop} {H : Hp} : ∀ l : List Nat, DAs K ok H (vN l) (l.map fun (i : Nat) => PyData.int (i : Int))
  | [] => .nil
  | _ :: l => .cons (.int _) (das_vN l)
theorem lay_nat : ∀ l : List Nat, PyData.canLayAll0 (l.map fun (i : Nat) => PyData.int (i : Int)) = true ∧ PyData.depthAll (l.map fun (i : Nat) => PyData.int (i : Int)) ≤ 1
  | [] => ⟨rfl, Nat.zero_le _⟩
  | x :: l => by
    obtain ⟨a, b⟩ := lay_nat l
    rw [List.map_cons]
    simp only [PyData.canLayAll0, PyData.canLay0, PyData.depthAll, PyData.depth, a, Bool.and_self, true_and]
    omega
theorem eqv_nats : ∀ l : List Nat, PyData.eqv (.list (l.map fun (i : Nat) => PyData.int (i : Int))) (.list []) = l.isEmpty
  | [] => rfl
  | _ :: _ => rfl
theorem eq_empty {H : Hp} {S : Addr} {zs : List Nat} {Q : VK} (e : H S = some (.lst (vN zs))) (k : ∀ H', Same H H' → Q (.bl zs.isEmpty) H') : 0 ≤ sizeLine ∧ ∀ l, H l = none → rEqD K (.ref S) (.ref l) (L2.upd H l (.lst [])) Q := by
  refine ⟨Nat.zero_le _, fun l hl => ?_⟩
  have s : Same H (L2.upd H l (.lst [])) := Same.upd hl
  obtain ⟨ly1, ly2⟩ := lay_nat zs
  refine ⟨.list (zs.map fun (i : Nat) => PyData.int (i : Int)), .list [], .lst trivial (SqL.of (s _ _ e)) (das_vN zs), .lst trivial (SqL.of upd_same) .nil, ⟨by simp only [PyData.canLay0, ly1], rfl, by simp only [PyData.depth]; omega⟩, ?_⟩
  rw [eqv_nats]
  exact k _ s
def tLeafS (K : PySem.W.Frag) (d S Z : Addr) (H : Hp) (n : Nat) (us : List V) (ss : List Stp) : TE := fun σ H2 Q => ∃ wy : Int, σ = [some (.ref d), some (.ref Z), some (.int wy), none, none, none] ∧ But d H H2 ∧ StD K d S Z H2 (n + 2) us ss ∧ EndS K d S Z H n ss Q
theorem leaf_ok {t : Lf} (h : t ≠ .one) {k : Nat} : (Stp.lf t).ok k := ⟨(fun i hi => by cases hi), (by
  cases t with
  | one => exact absurd rfl h
  | _ => exact trivial)⟩
end
section
variable {P : Program} {w : World} {K : PySem.W.Frag} {mg : Str → Option Value} {base : Heap}
open TM
theorem sz_get {ss : List Stp} {i : Nat} (h : i < ss.length) : ∃ z, (szs ss)[i]? = some z ∧ (szs ss).getD i 0 = z := by
  obtain ⟨z, e⟩ := get_lt (l := szs ss) (i := i) (by rw [szs_len]; exact h)
  exact ⟨z, e, getD_of e⟩
theorem step_end {d S Z : Addr} {H H5 : Hp} {n m : Nat} {us : List V} {ss : List Stp} {Q : VK} {v : V} {t : Stp} {z : Int} (q : EndS K d S Z H n ss Q) (c : But d H H5) (h5 : StD K d S Z H5 m us ss) (hm : m ≤ n + 12) (dv : DA K (Ok3 d S Z) H5 v t.dat) (ok : t.ok ss.length) (hz : z = ((szOf (szs ss) t : Nat) : Int)) (le : szOf (szs ss) t ≤ 800) :
    2 ≤ sizeLine ∧ ∀ pr, H5 pr = none → Q (.ref pr) (L2.upd H5 pr (.tup [v, .int z])) := by
  subst hz
  refine ⟨by decide, fun pr hpr => ?_⟩
  have s7 : Same H5 (L2.upd H5 pr (.tup [v, .int ((szOf (szs ss) t : Nat) : Int)])) := Same.upd hpr
  exact q pr v t _ (c.trans (same_but s7)) ((drw_same h5.drw s7).mono hm) upd_same (da3 dv (Same.three s7)) ok le
theorem ok_step {f fT fF : Addr} {fd fdT fdF : FuncData} (B : BltF mg) (F : Fun K "_law_step" "_law_step" sStep f fd) (DT : Dn K mg "_law_take" sTake ["_law_draw", "_law_most"] fT fdT) (GT : FnOk P w K mg base CX0 2 fT fdT ["_law_draw", "_law_most"] spTake)
    (DF : Dn K mg "_law_fraction" sFrac ["_law_draw"] fF fdF) (GF : FnOk P w K mg base CX0 3 fF fdF ["_law_draw"] spFrac) : FnOk P w K mg base CX0 4 f fd ["_law_draw", "_law_sizes"] (spStep K) := by
  refine F.ok scStp (fun vs H Q E h => ?_) (fun cdv A outer s H vs Q E hr h => ?_)
  · obtain ⟨d, S, Z, n, us, ss, rfl, _⟩ := h
    rfl
  · obtain ⟨d, S, Z, n, us, ss, rfl, hT, hn, hl, q⟩ := h
    have r2 := hr.mono (j := 2) (by decide)
    refine ⟨_, pss_cons (ps_set (i := 2) scStp.nd rfl (Or.inl rfl) (pe_fn DT GT r2 rfl (pa_cons (pv 0) (pa_cons pe_int pa_nil))))
      (pss_mid (ps_if (PW.pt (pw_or (pt_cmpR op_lt (pv 2) pe_int (nomark _)) (pw_or1 (pt_cmpR (op_eqD hr.units) (pv 1) (pe_lst pa_nil) (nomark _)))))
        (@pss_one _ _ _ (@ps_ret _ _ _ _ (PE.weak (t' := tLeafS K d S Z H n us ss) (@QE.o _ _ _ (qe_tup (qa_cons (qe_ix ix_list (qe_lst (qa_cons (qe_tup (qa_cons ⟨pe_str⟩ qa_nil)) (qa_cons (qe_tup (qa_cons ⟨pe_str⟩ qa_nil)) (qa_cons (qe_tup (qa_cons ⟨pe_str⟩ qa_nil)) qa_nil)))) ⟨pe_op op_mod (pv 2) pe_int⟩ (fun _ _ => rfl)) (qa_cons ⟨pe_int⟩ qa_nil)))) ?leaf))) pss_nil)
      (pss_mid (ps_if (pt_cmpR op_eq (pv 2) pe_int (nomark _))
        (@pss_one _ _ _ (@ps_ret _ _ _ _ (@QE.o _ _ _ (qe_tup (qa_cons (qe_tup (qa_cons ⟨pe_str⟩ (qa_cons (qe_ix ix_list (qe_lst (qa_cons ⟨pe_int⟩ (qa_cons ⟨pe_int⟩ (qa_cons ⟨pe_int⟩ (qa_cons ⟨pe_op op_sub (pe_op op_pow pe_int pe_int) pe_int⟩ qa_nil))))) ⟨pe_fn DT GT r2 rfl (pa_cons (pv 0) (pa_cons pe_int pa_nil))⟩ (fun _ _ => rfl)) qa_nil))) (qa_cons ⟨pe_int⟩ qa_nil)))))) pss_nil)
      (pss_cons (ps_set (i := 3) scStp.nd rfl (Or.inl rfl) (pe_fn DT GT r2 rfl (pa_cons (pv 0) (pa_cons (pe_callB call_len_seq (by rfl) B.len PySem.boot_len (pa_cons (pv 1) pa_nil)) pa_nil))))
      (pss_mid (ps_if (pt_cmpR op_eq (pv 2) pe_int (nomark _))
        (@pss_one _ _ _ (@ps_ret _ _ _ _ (@QE.o _ _ _ (qe_tup (qa_cons (qe_tup (qa_cons ⟨pe_str⟩ (qa_cons ⟨pv 3⟩ qa_nil))) (qa_cons (qe_ix ix_list ⟨pv 1⟩ ⟨pv 3⟩ (fun _ _ => rfl)) qa_nil)))))) pss_nil)
      (pss_mid (ps_if (pt_cmpR op_eq (pv 2) pe_int (nomark _))
        (pss_cons (ps_set (i := 4) scStp.nd rfl (Or.inl rfl) (pe_fn DF GF hr rfl (pa_cons (pv 0) pa_nil)))
        (pss_cons (ps_if (pt_cmpR op_gt (pe_ix ix_list (pv 1) (pv 3) (fun _ _ => rfl)) pe_int (nomark _))
          (@pss_one _ _ _ (@ps_ret _ _ _ _ (@QE.o _ _ _ (qe_tup (qa_cons (qe_tup (qa_cons ⟨pe_str⟩ (qa_cons ⟨pv 3⟩ qa_nil))) (qa_cons (qe_ix ix_list ⟨pv 1⟩ ⟨pv 3⟩ (fun _ _ => rfl)) qa_nil)))))) pss_nil)
        (@pss_one _ _ _ (@ps_ret _ _ _ _ (@QE.o _ _ _ (qe_tup (qa_cons (qe_tup (qa_cons ⟨pe_str⟩ (qa_cons ⟨pv 4⟩ (qa_cons ⟨pv 3⟩ qa_nil)))) (qa_cons ⟨pe_op op_add (pe_ix ix_list (pv 1) (pv 3) (fun _ _ => rfl)) pe_int⟩ qa_nil)))))))) pss_nil)
      (pss_cons (ps_set (i := 5) scStp.nd rfl (Or.inl rfl) (pe_fn DT GT r2 rfl (pa_cons (pv 0) (pa_cons (pe_callB call_len_seq (by rfl) B.len PySem.boot_len (pa_cons (pv 1) pa_nil)) pa_nil))))
      (pss_cons (ps_if (pt_cmpR op_gt (pe_op op_add (pe_ix ix_list (pv 1) (pv 3) (fun _ _ => rfl)) (pe_ix ix_list (pv 1) (pv 5) (fun _ _ => rfl))) pe_int (nomark _))
        (@pss_one _ _ _ (@ps_ret _ _ _ _ (@QE.o _ _ _ (qe_tup (qa_cons (qe_tup (qa_cons ⟨pe_str⟩ (qa_cons ⟨pe_int⟩ qa_nil))) (qa_cons ⟨pe_int⟩ qa_nil)))))) pss_nil)
      (@pss_one _ _ _ (@ps_ret _ _ _ _ (@QE.o _ _ _ (qe_tup (qa_cons (qe_tup (qa_cons (qe_ix ix_list (qe_lst (qa_cons ⟨pe_str⟩ (qa_cons ⟨pe_str⟩ (qa_cons ⟨pe_str⟩ qa_nil)))) ⟨pe_op op_sub (pv 2) pe_int⟩ (fun _ _ => rfl)) (qa_cons ⟨pv 3⟩ (qa_cons ⟨pv 5⟩ qa_nil)))) (qa_cons ⟨pe_op op_add (pe_op op_add (pe_ix ix_list (pv 1) (pv 3) (fun _ _ => rfl)) (pe_ix ix_list (pv 1) (pv 5) (fun _ _ => rfl))) pe_int⟩ qa_nil))))))))))))), ?_⟩
    case leaf =>
      rintro σ H1 Q' ⟨wy, rfl, c1, h1, e⟩
      refine ⟨(by show 1 ≤ sizeLine; decide), fun p1 hp1 => ?_⟩
      have s2 : Same H1 (L2.upd H1 p1 (.tup [.str "same"])) := Same.upd hp1
      have e1 : L2.upd H1 p1 (.tup [.str "same"]) p1 = some (.tup [.str "same"]) := upd_same
      have f1 := h1.free hp1
      generalize L2.upd H1 p1 (.tup [.str "same"]) = H2 at s2 e1 ⊢
      have h2 := h1.same s2
      refine ⟨(by show 1 ≤ sizeLine; decide), fun p2 hp2 => ?_⟩
      have s3 : Same H2 (L2.upd H2 p2 (.tup [.str "tie"])) := Same.upd hp2
      have e2 : L2.upd H2 p2 (.tup [.str "tie"]) p2 = some (.tup [.str "tie"]) := upd_same
      have f2 := h2.free hp2
      generalize L2.upd H2 p2 (.tup [.str "tie"]) = H3 at s3 e2 ⊢
      have h3 := h2.same s3
      refine ⟨(by show 1 ≤ sizeLine; decide), fun p3 hp3 => ?_⟩
      have s4 : Same H3 (L2.upd H3 p3 (.tup [.str "all"])) := Same.upd hp3
      have e3 : L2.upd H3 p3 (.tup [.str "all"]) p3 = some (.tup [.str "all"]) := upd_same
      have f3 := h3.free hp3
      generalize L2.upd H3 p3 (.tup [.str "all"]) = H4 at s4 e3 ⊢
      have h4 := h3.same s4
      refine ⟨(by show 3 ≤ sizeLine; decide), fun L hL => ?_⟩
      have s6 : Same H4 (L2.upd H4 L (.lst [.ref p1, .ref p2, .ref p3])) := Same.upd hL
      have eL : L2.upd H4 L (.lst [.ref p1, .ref p2, .ref p3]) L = some (.lst [.ref p1, .ref p2, .ref p3]) := upd_same
      generalize L2.upd H4 L (.lst [.ref p1, .ref p2, .ref p3]) = H6 at s6 eL ⊢
      have h6 := h4.same s6
      have t4 := s4.trans s6
      have t3 := s3.trans t4
      have t2 := s2.trans t3
      have m0 := Int.emod_nonneg wy (b := 3) (by decide)
      have m1 := Int.emod_lt_of_pos wy (b := 3) (by decide)
      refine ⟨_, rfl, _, _, rfl, rfl, (by show (0 : Int) < 3; decide), ?_⟩
      obtain ⟨p, k, wd, ha, hk, hr', ho, hz, fp, ep⟩ : ∃ (p : Addr) (k : Lf) (wd : Str), atI [V.ref p1, .ref p2, .ref p3] (wy % 3) = some (.ref p) ∧ k.word = wd ∧ k.rest = [] ∧ k ≠ .one ∧ lfZ k = 61 ∧ Ok3 d S Z p ∧ H6 p = some (.tup [.str wd]) := by
        by_cases g0 : wy % 3 = 0
        · exact ⟨p1, .same, _, by rw [g0]; rfl, rfl, rfl, (fun z => by cases z), rfl, f1, t3 _ _ e1⟩
        · by_cases g1 : wy % 3 = 1
          · exact ⟨p2, .tie, _, by rw [g1]; rfl, rfl, rfl, (fun z => by cases z), rfl, f2, t4 _ _ e2⟩
          · exact ⟨p3, .all, _, by rw [show wy % 3 = 2 by omega]; rfl, rfl, rfl, (fun z => by cases z), rfl, f3, s6 _ _ e3⟩
      refine ⟨L, _, _, .ref p, rfl, rfl, SqL.of eL, ha, (by show 2 ≤ sizeLine; decide), fun pr hpr => ?_⟩
      have s7 : Same H6 (L2.upd H6 pr (.tup [.ref p, .int 61])) := Same.upd hpr
      have ez : szOf (szs ss) (.lf k) = 61 := hz
      refine e pr (.ref p) (.lf k) _ (c1.trans (same_but (t2.trans s7))) ((drw_same h6.drw s7).mono (by omega)) (by rw [upd_same, ez]; rfl) (.tup fp (SqT.of (s7 _ _ ep)) ?_) (leaf_ok ho) (by rw [ez]; decide)
      subst hk
      show DAs K _ _ [_] (_ :: (k.rest ++ []))
      rw [hr']
      exact .cons (.str _) .nil
    refine ⟨_, rfl, d, 9, n, rfl, by decide, by decide, hT.drw, by omega, fun wy H1 y0 y1 hB1 D1 => ?_⟩
    have h1 := hT.take hB1 D1
    have c1 := hB1
    clear hT hB1 D1
    have lz : (vN (szs ss)).length = ss.length := by rw [vN_len, szs_len]
    refine ⟨fun σ H2 => σ = [some (.ref d), some (.ref Z), some (.int wy), none, none, none] ∧ But d H H2 ∧ StD K d S Z H2 (n + 2) us ss ∧ 3 ≤ wy ∧ 0 < ss.length, ?_, ?_⟩
    · refine ⟨_, rfl, _, _, rfl, rfl, _, rfl, ?_⟩
      by_cases hw : wy < 3
      · exact itDP hw (iteT ⟨wy, rfl, c1, h1, q⟩)
      · refine itDN hw ?_
        refine ⟨_, rfl, eq_empty h1.tZ fun H2 s2 => ⟨_, rfl, ?_⟩⟩
        have c2 := c1.trans (same_but s2)
        cases hz : szs ss with
        | nil => exact iteT ⟨wy, rfl, c2, h1.same s2, q⟩
        | cons a r =>
          have lp : 0 < ss.length := by rw [← szs_len, hz]; exact Nat.succ_pos _
          exact iteF ⟨rfl, c2, h1.same s2, by omega, lp⟩
    clear c1 h1 H1
    rintro σ H1 ⟨rfl, c1, h1, g3, l0⟩
    refine ⟨fun σ H2 => σ = [some (.ref d), some (.ref Z), some (.int wy), none, none, none] ∧ But d H H2 ∧ StD K d S Z H2 (n + 2) us ss ∧ 4 ≤ wy, ?_, ?_⟩
    · refine ⟨_, rfl, rfl, _, rfl, ?_⟩
      by_cases hw : wy = 3
      · refine itDP (by rw [hw]) ?_
        refine ⟨_, _, rfl, rfl, pow60, _, _, rfl, rfl, (by show 4 ≤ sizeLine; decide), fun l hl => ?_⟩
        have s3 : Same H1 (L2.upd H1 l (.lst [.int 0, .int 1, .int 7, .int (10 ^ (60 : Int).toNat - 1)])) := Same.upd hl
        have el : L2.upd H1 l (.lst [.int 0, .int 1, .int 7, .int (10 ^ (60 : Int).toNat - 1)]) l = some (.lst [.int 0, .int 1, .int 7, .int (10 ^ (60 : Int).toNat - 1)]) := upd_same
        have nl := drw_ne h1.drw hl
        generalize L2.upd H1 l (.lst [.int 0, .int 1, .int 7, .int (10 ^ (60 : Int).toNat - 1)]) = H3 at s3 el ⊢
        have h3 := h1.same s3
        refine ⟨_, rfl, d, 4, n + 2, rfl, by decide, by decide, h3.drw, by omega, fun r H4 r0 r1 hB4 D4 => ?_⟩
        have h4 := h3.take hB4 D4
        obtain ⟨r, rfl⟩ := Int.eq_ofNat_of_zero_le r0
        obtain ⟨c, hc, _⟩ := hues4 r (by omega)
        refine ⟨l, _, _, .int c, rfl, rfl, SqL.of (hB4 l _ nl el), atI_nat hc, ?_⟩
        have c4 := (c1.trans (same_but s3)).trans hB4
        refine ⟨(by show 2 ≤ sizeLine; decide), fun p2 hp2 => ?_⟩
        have s5 : Same H4 (L2.upd H4 p2 (.tup [.str "hue", .int c])) := Same.upd hp2
        exact step_end q (c4.trans (same_but s5)) (h4.same s5) (by omega) (t := .lf (.hue c)) (.tup (h4.free hp2) (SqT.of upd_same) (.cons (.str _) (.cons (.int _) .nil))) (leaf_ok (fun z => by cases z)) rfl (by show (1 : Nat) ≤ 800; decide)
      · exact itDN (fun z => hw (V.int.inj z)) ⟨rfl, c1, h1, by omega⟩
    clear c1 h1 H1 g3
    rintro σ H1 ⟨rfl, c1, h1, g4⟩
    refine ⟨_, rfl, _, rfl, Z, _, rfl, .inl (SqL.of h1.tZ), d, _, n + 2, rfl, by rw [lz]; omega, by rw [lz]; omega, h1.drw, by omega, fun i H2 i0 i1 hB2 D2 => ?_⟩
    have h2 := h1.take hB2 D2
    have c2 := c1.trans hB2
    rw [lz] at i1
    obtain ⟨i, rfl⟩ := Int.eq_ofNat_of_zero_le i0
    have hi : i < ss.length := by omega
    obtain ⟨z, ez, dz⟩ := sz_get hi
    have az := atI_nat (vN_get ez)
    have z8 := h2.few z (List.mem_of_getElem? ez)
    clear c1 h1 H1 hB2 D2 i0 i1
    refine ⟨fun σ H3 => σ = [some (.ref d), some (.ref Z), some (.int wy), some (.int (i : Int)), none, none] ∧ But d H H3 ∧ StD K d S Z H3 (n + 4) us ss ∧ 5 ≤ wy, ?_, ?_⟩
    · refine ⟨_, rfl, rfl, _, rfl, ?_⟩
      by_cases hw : wy = 4
      · refine itDP (by rw [hw]) ?_
        refine ⟨_, rfl, (by show 2 ≤ sizeLine; decide), fun p1 hp1 => ?_⟩
        have s3 : Same H2 (L2.upd H2 p1 (.tup [.str "turned", .int (i : Int)])) := Same.upd hp1
        refine ⟨_, rfl, _, rfl, Z, _, _, _, rfl, rfl, SqL.of (s3 _ _ h2.tZ), az, ?_⟩
        exact step_end q (c2.trans (same_but s3)) (h2.same s3) (by omega) (t := .turned i) (.tup (h2.free hp1) (SqT.of upd_same) (.cons (.str _) (.cons (.int _) .nil))) ⟨(fun k hk => by rw [List.mem_singleton.mp hk]; exact hi), trivial⟩ (by show (z : Int) = (((szs ss).getD i 0 : Nat) : Int); rw [dz]) (by show (szs ss).getD i 0 ≤ 800; rw [dz]; exact z8)
      · exact itDN (fun z => hw (V.int.inj z)) ⟨rfl, c2, h2, by omega⟩
    clear c2 h2 H2 g4
    rintro σ H2 ⟨rfl, c2, h2, g5⟩
    refine ⟨fun σ H3 => σ = [some (.ref d), some (.ref Z), some (.int wy), some (.int (i : Int)), none, none] ∧ But d H H3 ∧ StD K d S Z H3 (n + 4) us ss ∧ 6 ≤ wy, ?_, ?_⟩
    · refine ⟨_, rfl, rfl, _, rfl, ?_⟩
      by_cases hw : wy = 5
      · refine itDP (by rw [hw]) ?_
        refine ⟨_, rfl, d, n + 4, rfl, h2.drw, by omega, fun fp a b H3 hB3 D3 ef nfd hf0 gf => ?_⟩
        have h3 := h2.take hB3 D3
        have c3 := c2.trans hB3
        have nf := h2.free hf0
        refine ⟨_, rfl, _, rfl, Z, _, _, _, rfl, rfl, SqL.of h3.tZ, az, _, _, rfl, rfl, _, rfl, ?_⟩
        by_cases hz : (700 : Int) < (z : Int)
        · refine itDP hz ?_
          refine ⟨_, rfl, (by show 2 ≤ sizeLine; decide), fun p1 hp1 => ?_⟩
          have s4 : Same H3 (L2.upd H3 p1 (.tup [.str "turned", .int (i : Int)])) := Same.upd hp1
          refine ⟨_, rfl, _, rfl, Z, _, _, _, rfl, rfl, SqL.of (s4 _ _ h3.tZ), az, ?_⟩
          exact step_end q (c3.trans (same_but s4)) (h3.same s4) (by omega) (t := .turned i) (.tup (h3.free hp1) (SqT.of upd_same) (.cons (.str _) (.cons (.int _) .nil))) ⟨(fun k hk => by rw [List.mem_singleton.mp hk]; exact hi), trivial⟩ (by show (z : Int) = (((szs ss).getD i 0 : Nat) : Int); rw [dz]) (by show (szs ss).getD i 0 ≤ 800; rw [dz]; exact z8)
        · refine itDN hz ?_
          refine ⟨_, rfl, _, rfl, (by show 3 ≤ sizeLine; decide), fun p1 hp1 => ?_⟩
          have s4 : Same H3 (L2.upd H3 p1 (.tup [.str "many", .ref fp, .int (i : Int)])) := Same.upd hp1
          refine ⟨_, rfl, _, rfl, Z, _, _, _, rfl, rfl, SqL.of (s4 _ _ h3.tZ), az, _, _, rfl, rfl, ?_⟩
          exact step_end q (c3.trans (same_but s4)) (h3.same s4) (by omega) (t := .many a b i) (.tup (h3.free hp1) (SqT.of upd_same) (.cons (.str _) (.cons (.tup nf (SqT.of (s4 _ _ ef)) (.cons (.int _) (.cons (.int _) .nil))) (.cons (.int _) .nil)))) ⟨(fun k hk => by rw [List.mem_singleton.mp hk]; exact hi), ⟨gf.1, gf.2.1, gf.2.2.1, gf.2.2.2⟩⟩ (by show (z : Int) + 61 = (((szs ss).getD i 0 + 61 : Nat) : Int); rw [dz]; omega) (by show (szs ss).getD i 0 + 61 ≤ 800; rw [dz]; omega)
      · exact itDN (fun z => hw (V.int.inj z)) ⟨rfl, c2, h2, by omega⟩
    clear c2 h2 H2 g5
    rintro σ H2 ⟨rfl, c2, h2, g6⟩
    refine ⟨_, rfl, _, rfl, Z, _, rfl, .inl (SqL.of h2.tZ), d, _, n + 4, rfl, by rw [lz]; omega, by rw [lz]; omega, h2.drw, by omega, fun j H3 j0 j1 hB3 D3 => ?_⟩
    have h3 := h2.take hB3 D3
    have c3 := c2.trans hB3
    rw [lz] at j1
    obtain ⟨j, rfl⟩ := Int.eq_ofNat_of_zero_le j0
    have hj : j < ss.length := by omega
    obtain ⟨z', ez', dz'⟩ := sz_get hj
    have az' := atI_nat (vN_get ez')
    refine ⟨_, rfl, _, rfl, Z, _, _, _, rfl, rfl, SqL.of h3.tZ, az, _, rfl, _, rfl, Z, _, _, _, rfl, rfl, SqL.of h3.tZ, az', _, _, rfl, rfl, _, _, rfl, rfl, _, rfl, ?_⟩
    by_cases hz : (700 : Int) < (z : Int) + (z' : Int)
    · refine itDP hz ?_
      refine ⟨(by show 2 ≤ sizeLine; decide), fun p1 hp1 => ?_⟩
      have s4 : Same H3 (L2.upd H3 p1 (.tup [.str "hue", .int 1])) := Same.upd hp1
      exact step_end q (c3.trans (same_but s4)) (h3.same s4) (by omega) (t := .lf (.hue 1)) (.tup (h3.free hp1) (SqT.of upd_same) (.cons (.str _) (.cons (.int _) .nil))) (leaf_ok (fun z => by cases z)) rfl (by show (1 : Nat) ≤ 800; decide)
    · refine itDN hz ?_
      refine ⟨(by show 3 ≤ sizeLine; decide), fun l hl => ?_⟩
      have s4 : Same H3 (L2.upd H3 l (.lst [.str "then", .str "meet", .str "plus"])) := Same.upd hl
      have e4 : L2.upd H3 l (.lst [.str "then", .str "meet", .str "plus"]) l = some (.lst [.str "then", .str "meet", .str "plus"]) := upd_same
      generalize L2.upd H3 l (.lst [.str "then", .str "meet", .str "plus"]) = H4 at s4 e4 ⊢
      have h4 := h3.same s4
      obtain ⟨k, wd, hk, gk, ha⟩ : ∃ (k : Bi) (wd : Str), k.word = wd ∧ (Stp.two k i j).fit ∧ atI [V.str "then", .str "meet", .str "plus"] (wy - 6) = some (.str wd) := by
        by_cases h7 : wy = 6
        · exact ⟨.thn, _, rfl, trivial, by rw [h7]; rfl⟩
        · by_cases h8 : wy = 7
          · exact ⟨.meet, _, rfl, trivial, by rw [h8]; rfl⟩
          · have h9 : wy = 8 := by omega
            exact ⟨.plus, _, rfl, trivial, by rw [h9]; rfl⟩
      refine ⟨_, rfl, _, _, rfl, rfl, l, _, _, .str wd, rfl, rfl, SqL.of e4, ha, _, rfl, _, rfl, (by show 3 ≤ sizeLine; decide), fun p1 hp1 => ?_⟩
      have s5 : Same H4 (L2.upd H4 p1 (.tup [.str wd, .int (i : Int), .int (j : Int)])) := Same.upd hp1
      refine ⟨_, rfl, _, rfl, Z, _, _, _, rfl, rfl, SqL.of (s5 _ _ h4.tZ), az, _, rfl, _, rfl, Z, _, _, _, rfl, rfl, SqL.of (s5 _ _ h4.tZ), az', _, _, rfl, rfl, _, _, rfl, rfl, ?_⟩
      subst hk
      exact step_end q (c3.trans (same_but (s4.trans s5))) (h4.same s5) (by omega) (t := .two k i j) (.tup (h4.free hp1) (SqT.of upd_same) (.cons (.str _) (.cons (.int _) (.cons (.int _) .nil)))) ⟨(fun m hm => by
        rcases List.mem_cons.mp hm with rfl | hm
        · exact hi
        · rw [List.mem_singleton.mp hm]; exact hj), gk⟩ (by show (z : Int) + (z' : Int) + 1 = (((szs ss).getD i 0 + (szs ss).getD j 0 + 1 : Nat) : Int); rw [dz, dz']; omega) (by show (szs ss).getD i 0 + (szs ss).getD j 0 + 1 ≤ 800; rw [dz, dz']; omega)
end
section
variable {P : Program} {w : World} {K : PySem.W.Frag} {mg : Str → Option Value} {base : Heap}
open TM
theorem das_app {ok : Addr → Prop} {H : Hp} : ∀ {ys : List V} {ds : List PyData} {ys' : List V} {ds' : List PyData}, DAs K ok H ys ds → DAs K ok H ys' ds' → DAs K ok H (ys ++ ys') (ds ++ ds')
  | _, _, _, _, .nil, h => h
  | _, _, _, _, .cons a r, h => .cons a (das_app r h)
def spSteps (K : PySem.W.Frag) : Sp := fun vs H Q _ => ∃ (d : Addr) (m n : Nat), vs = [.ref d, .int (m : Int)] ∧ m ≤ 12 ∧ Drw H d n ∧ n ≤ 700000 ∧
  ∀ (S : Addr) (ss : List Stp) (H' : Hp), But d H H' → S ≠ d → StsAt K H' S ss → StsOk ss → Few ss → ss.length = m → Q (.ref S) H'
abbrev nSts : List Str := ["_law_draw", "_law_many", "_law_steps_here", "_law_sizes", "_law_k", "_law_step_here", "_law_size"]
theorem scSts : FnScope nSts ["_law_draw", "_law_many"] (defScope sSteps) := ⟨rfl, rfl, rfl, by decide +kernel, rfl, by decide +kernel, by decide +kernel⟩
theorem vN_snoc (l : List Nat) (z : Nat) : vN l ++ [.int (z : Int)] = vN (l ++ [z]) := by simp
theorem szs_snoc (ss : List Stp) (t : Stp) : szs (ss ++ [t]) = szs ss ++ [szOf (szs ss) t] := grow_snoc _ _ _
theorem ok_steps {f fT : Addr} {fd fdT : FuncData} (B : BltF mg) (F : Fun K "_law_steps" "_law_steps" sSteps f fd) (DT : Dn K mg "_law_step" sStep ["_law_draw", "_law_sizes"] fT fdT) (GT : FnOk P w K mg base CX0 4 fT fdT ["_law_draw", "_law_sizes"] (spStep K)) : FnOk P w K mg base CX0 5 f fd ["_law_draw", "_law_many"] (spSteps K) := by
  refine F.ok scSts (fun vs H Q E h => ?_) (fun cdv A outer s H vs Q E hr h => ?_)
  · obtain ⟨d, m, n, rfl, _⟩ := h
    rfl
  · obtain ⟨d, m, n, rfl, hm, hd, hn, q⟩ := h
    refine ⟨_, pss_cons (ps_set (i := 2) scSts.nd rfl (Or.inl rfl) (pe_lst pa_nil))
      (pss_cons (ps_set (i := 3) scSts.nd rfl (Or.inl rfl) (pe_lst pa_nil))
      (pss_cons (ps_for PassesOwn.never rfl (pi_range1 rfl B.range (pa_cons (pv 1) pa_nil)) (pg_name (i := 4) scSts.nd rfl (Or.inl rfl))
        (pss_cons (ps_asg (pe_fn DT GT hr rfl (pa_cons (pv 0) (pa_cons (pv 3) pa_nil))) (pg_tup rfl (pgs_cons (pg_name (i := 5) scSts.nd rfl (Or.inl rfl)) (pgs_cons (pg_name (i := 6) scSts.nd rfl (Or.inl rfl)) pgs_nil))))
        (pss_cons (ps_expr (pe_bm PySem.F.plainAttrs_list PySem.F.slot_list_append PySem.F.type_list_append mt_append (pv 2) (pa_cons (pv 5) pa_nil)))
        (pss_one (ps_expr (pe_bm PySem.F.plainAttrs_list PySem.F.slot_list_append PySem.F.type_list_append mt_append (pv 3) (pa_cons (pv 6) pa_nil)))))))
      (pss_one (ps_ret (pv 2))))), ?_⟩
    refine ⟨Nat.zero_le _, fun S hS => ?_⟩
    have nSd := drw_ne hd hS
    have s1 : Same H (L2.upd H S (.lst [])) := Same.upd hS
    have e1 : L2.upd H S (.lst []) S = some (.lst []) := upd_same
    have D1 := drw_same hd s1
    generalize L2.upd H S (.lst []) = H1 at s1 e1 D1 ⊢
    refine ⟨Nat.zero_le _, fun Z hZ => ?_⟩
    have nZd := drw_ne D1 hZ
    have nSZ : S ≠ Z := ne_of_none e1 hZ
    have s2 : Same H1 (L2.upd H1 Z (.lst [])) := Same.upd hZ
    have e2 : L2.upd H1 Z (.lst []) Z = some (.lst []) := upd_same
    have D2 := drw_same D1 s2
    have e1' := s2 _ _ e1
    generalize L2.upd H1 Z (.lst []) = H2 at s2 e2 D2 e1' ⊢
    have hZ0 : H Z = none := s1.free hZ
    refine ⟨_, rfl, (m : Int), rfl, by omega, by omega, ?_⟩
    show ∃ W : Nat → Nat → L2.St → Hp → Prop, _
    rw [Int.toNat_natCast]
    refine for_range (n := m) (fun j σ H' => ∃ (o4 o5 o6 : Option V) (us : List V) (ss : List Stp), σ = [some (.ref d), some (.int (m : Int)), some (.ref S), some (.ref Z), o4, o5, o6] ∧ But3 d S Z H2 H' ∧ StD K d S Z H' (n + 12 * j) us ss ∧ ss.length = j)
      ⟨none, none, none, [], [], rfl, But3.refl _ _ _ _, ⟨D2, e1', e2, nSd.symm, nZd.symm, nSZ, .nil, StsOk.nil, (fun z hz => by cases hz)⟩, rfl⟩ ?_ ?_
    · rintro j σ H3 hj ⟨o4, o5, o6, us, ss, rfl, b3, h3, ls⟩
      refine ⟨_, rfl, _, rfl, d, S, Z, n + 12 * j, us, ss, rfl, h3, by omega, by omega, fun p v t H4 hB4 D4 ep dv tok tle => ?_⟩
      have h4 := h3.take hB4 D4
      have b4 : But3 d S Z H2 H4 := b3.trans hB4.three
      refine ⟨p, _, rfl, SqT.of ep, rfl, _, _, rfl, _, _, rfl, rfl, ?_⟩
      have lu := das_len h4.dS
      rw [List.length_map] at lu
      refine ⟨_, rfl, .inl ⟨rfl, _, SqL.of h4.tS⟩, _, rfl, S, us, v, rfl, rfl, h4.tS, small1000 (by omega), ?_⟩
      have b5 : But3 d S Z H4 (L2.upd H4 S (.lst (us ++ [v]))) := But3.updT
      have e5 : L2.upd H4 S (.lst (us ++ [v])) S = some (.lst (us ++ [v])) := upd_same
      have z5 : L2.upd H4 S (.lst (us ++ [v])) Z = some (.lst (vN (szs ss))) := by rw [upd_ne nSZ.symm]; exact h4.tZ
      have D5 := h4.drw.updN (o := .lst (us ++ [v])) h4.nS.symm
      generalize L2.upd H4 S (.lst (us ++ [v])) = H5 at b5 e5 z5 D5 ⊢
      refine ⟨_, rfl, .inl ⟨rfl, _, SqL.of z5⟩, _, rfl, Z, _, _, rfl, rfl, z5, small1000 (by rw [vN_len, szs_len]; omega), ?_⟩
      have b6 : But3 d S Z H5 (L2.upd H5 Z (.lst (vN (szs ss) ++ [.int ((szOf (szs ss) t : Nat) : Int)]))) := But3.updR
      refine ⟨_, _, _, us ++ [v], ss ++ [t], rfl, (b4.trans b5).trans b6, ⟨(D5.updN h4.nZ.symm).mono (by omega), by rw [upd_ne nSZ]; exact e5, by rw [upd_same, vN_snoc, szs_snoc], h4.nS, h4.nZ, nSZ, ?_, h4.ok.snoc tok, fun z hz => ?_⟩, by rw [List.length_append, ls]; rfl⟩
      · rw [List.map_append]
        exact das_app (das3 h4.dS (b5.trans b6)) (.cons (da3 dv (b5.trans b6)) .nil)
      · rw [szs_snoc] at hz
        rcases List.mem_append.mp hz with hz | hz
        · exact h4.few z hz
        · rw [List.mem_singleton.mp hz]; exact tle
    · rintro σ H3 ⟨o4, o5, o6, us, ss, rfl, b3, h3, ls⟩
      refine ⟨_, rfl, q S ss H3 (fun b o nb e => b3 b o nb (ne_of_none e hS) (ne_of_none e hZ0) ((s1.trans s2) b o e)) nSd ⟨us, h3.tS, DAs.mono (Keep.refl _ _) (fun _ _ => trivial) h3.dS⟩ h3.ok (fun z hz => Nat.le_trans (h3.few z hz) (by decide)) ls⟩
end
section
variable {P : Program} {w : World} {K : PySem.W.Frag} {mg : Str → Option Value} {base : Heap}
open Q6 TM
structure EnW (K : PySem.W.Frag) (H : Hp) (wA R : Addr) (v : V) (t : Stp) (hs : List Int) (M : List (List Int)) (n k : Nat) (zs : List Nat) (fs : List (Nat → Rat)) : Prop where
  wr : WR H wA hs M
  mo : MOk n hs M
  da : DA K any H v t.dat
  ok : t.ok k
  tb : ∃ bs : List Addr, H R = some (.lst (bs.map V.ref)) ∧ k ≤ bs.length ∧ ∀ (j : Nat) (b : Addr), bs[j]? = some b → TabR H (.ref b) n (fs.getD j F0)
  sh : ∀ j < k, Shr (n * n) (zs.getD j 0) (fs.getD j F0)
  own : Shr (n * n) (szOf zs t) (mnOf hs M fs t)
  few : szOf zs t ≤ 1400
theorem EnW.mono {H H' : Hp} {wA R : Addr} {v : V} {t : Stp} {hs : List Int} {M : List (List Int)} {n k : Nat} {zs : List Nat} {fs : List (Nat → Rat)} (h : EnW K H wA R v t hs M n k zs fs) (s : Same H H') : EnW K H' wA R v t hs M n k zs fs :=
  ⟨h.wr.mono s, h.mo, h.da.mono s.keep fun _ _ => trivial, h.ok, (by
    obtain ⟨bs, e, l, t⟩ := h.tb
    exact ⟨bs, s _ _ e, l, fun j b e' => (t j b e').mono s⟩), h.sh, h.own, h.few⟩
def spEntry (K : PySem.W.Frag) : Sp := fun vs H Q _ => ∃ (wA R : Addr) (v : V) (t : Stp) (hs : List Int) (M : List (List Int)) (n k : Nat) (zs : List Nat) (fs : List (Nat → Rat)) (i j : Nat), vs = [.ref wA, v, .ref R, .int (i : Int), .int (j : Int)] ∧ EnW K H wA R v t hs M n k zs fs ∧ i < n ∧ j < n ∧
  ∀ u H', Same H H' → FrAt H' u (mnOf hs M fs t (i * n + j)) → Q u H'
abbrev nEntry : List Str := ["_law_web_here", "_law_step_here", "_law_tables", "_law_u", "_law_v", "_law_word", "_law_one", "_law_other", "_law_total", "_law_w"]
abbrev aEntry : List Str := ["_law_web_here", "_law_step_here", "_law_tables", "_law_u", "_law_v"]
theorem scEntry : FnScope nEntry aEntry (defScope sEntry) := ⟨rfl, rfl, rfl, by decide +kernel, rfl, by decide +kernel, by decide +kernel⟩
theorem at_thd (x y z : V) (xs : List V) : atI (x :: y :: z :: xs) 2 = some z := atI_nat (xs := x :: y :: z :: xs) (j := 2) rfl
theorem das_nil {ok : Addr → Prop} {H : Hp} {pre : List V} (h : DAs K ok H pre []) : pre = [] := by cases h; rfl
theorem ok_entry {f fP fT : Addr} {fd fdP fdT : FuncData} (B : BltF mg) (F : Fun K "_law_entry" "_law_entry" sEntry f fd) (DP : Dn K mg "_law_plus" sPlus ["_law_f", "_law_g"] fP fdP) (GP : FnOk P w K mg base CX0 3 fP fdP ["_law_f", "_law_g"] (sp2 K gSum))
    (DT : Dn K mg "_law_times" sTimes ["_law_f", "_law_g"] fT fdT) (GT : FnOk P w K mg base CX0 3 fT fdT ["_law_f", "_law_g"] (sp2 K gPro)) : FnOk P w K mg base CX0 4 f fd aEntry (spEntry K) := by
  refine F.ok scEntry (fun vs H Q E h => ?_) (fun cdv A outer s H vs Q E hr h => ?_)
  · obtain ⟨wA, R, v, t, hs, M, n, k, zs, fs, i, j, rfl, _⟩ := h
    rfl
  · obtain ⟨wA, R, v, t, hs, M, n, k, zs, fs, i, j, rfl, hE, hi, hj, q⟩ := h
    obtain ⟨p, pre, rfl, hp, dp⟩ := st_at t hE.da
    obtain ⟨hA, rA, rs, w1, w2, w3, RR⟩ := hE.wr.ex
    obtain ⟨bs, eR, lb, tb⟩ := hE.tb
    have hn := hE.mo.few
    have hl := hE.mo.hl
    have sz : szOf zs t ≤ 1500 := Nat.le_trans hE.few (by decide)
    have S := hE.own
    have lt := nn_lt hi hj
    have nums := hE.ok.num
    have tabAt : ∀ {m : Nat}, m < k → ∃ b, atI (bs.map V.ref) (m : Int) = some (.ref b) ∧ TabR H (.ref b) n (fs.getD m F0) := fun {m} hm => by
      obtain ⟨b, eb⟩ := get_lt (l := bs) (i := m) (by omega)
      exact ⟨b, at_ref eb, tb m b eb⟩
    obtain ⟨d1, d2⟩ := nn_div (i := i) hj
    refine ⟨_, pss_cons (ps_set (i := 5) scEntry.nd rfl (Or.inl rfl) (pe_ix ix_tup (pv 1) pe_int (fun _ _ => rfl)))
      (pss_cons (ps_if (pt_cmpR op_eq (pv 5) pe_str (nomark _)) (pss_one (ps_ret (pe_tup (pa_cons (pe_callTy call_int1 (by rfl) B.int boot_int (pa_cons (pe_cmpR op_eq (pv 3) (pv 4) (nomark _)) pa_nil)) (pa_cons pe_int pa_nil))))) pss_nil)
      (pss_cons (ps_if (pt_cmpR op_eq (pv 5) pe_str (nomark _)) (pss_one (ps_ret (pe_tup (pa_cons (pe_callTy call_int1 (by rfl) B.int boot_int (pa_cons (pe_and (pe_cmpR op_eq (pv 3) (pv 4) (nomark _)) (pe_one (pe_cmpR op_eq (pe_ix ix_list (pe_ix ix_tup (pv 0) pe_int (fun _ _ => rfl)) (pv 3) (fun _ _ => rfl)) (pe_ix ix_tup (pv 1) pe_int (fun _ _ => rfl)) (nomark _)))) pa_nil)) (pa_cons pe_int pa_nil))))) pss_nil)
      (pss_cons (ps_if (pt_cmpR op_eq (pv 5) pe_str (nomark _)) (pss_one (ps_ret (pe_tup (pa_cons (pe_ix ix_list (pe_ix ix_list (pe_ix ix_tup (pv 0) pe_int (fun _ _ => rfl)) (pv 3) (fun _ _ => rfl)) (pv 4) (fun _ _ => rfl)) (pa_cons pe_int pa_nil))))) pss_nil)
      (pss_cons (ps_if (pt_cmpR op_eq (pv 5) pe_str (nomark _)) (pss_one (ps_ret (pe_tup (pa_cons pe_int (pa_cons pe_int pa_nil))))) pss_nil)
      (pss_cons (ps_if (pt_cmpR op_eq (pv 5) pe_str (nomark _)) (pss_one (ps_ret (pe_ix ix_list (pe_ix ix_list (pe_ix ix_list (pv 2) (pe_ix ix_tup (pv 1) pe_int (fun _ _ => rfl)) (fun _ _ => rfl)) (pv 4) (fun _ _ => rfl)) (pv 3) (fun _ _ => rfl)))) pss_nil)
      (pss_cons (ps_if (pt_cmpR op_eq (pv 5) pe_str (nomark _)) (pss_one (ps_ret (pe_fn DT GT hr rfl (pa_cons (pe_ix ix_tup (pv 1) pe_int (fun _ _ => rfl)) (pa_cons (pe_ix ix_list (pe_ix ix_list (pe_ix ix_list (pv 2) (pe_ix ix_tup (pv 1) pe_int (fun _ _ => rfl)) (fun _ _ => rfl)) (pv 3) (fun _ _ => rfl)) (pv 4) (fun _ _ => rfl)) pa_nil))))) pss_nil)
      (pss_cons (ps_set (i := 6) scEntry.nd rfl (Or.inl rfl) (pe_ix ix_list (pv 2) (pe_ix ix_tup (pv 1) pe_int (fun _ _ => rfl)) (fun _ _ => rfl)))
      (pss_cons (ps_set (i := 7) scEntry.nd rfl (Or.inl rfl) (pe_ix ix_list (pv 2) (pe_ix ix_tup (pv 1) pe_int (fun _ _ => rfl)) (fun _ _ => rfl)))
      (pss_cons (ps_if (pt_cmpR op_eq (pv 5) pe_str (nomark _)) (pss_one (ps_ret (pe_fn DT GT hr rfl (pa_cons (pe_ix ix_list (pe_ix ix_list (pv 6) (pv 3) (fun _ _ => rfl)) (pv 4) (fun _ _ => rfl)) (pa_cons (pe_ix ix_list (pe_ix ix_list (pv 7) (pv 3) (fun _ _ => rfl)) (pv 4) (fun _ _ => rfl)) pa_nil))))) pss_nil)
      (pss_cons (ps_if (pt_cmpR op_eq (pv 5) pe_str (nomark _)) (pss_one (ps_ret (pe_fn DP GP hr rfl (pa_cons (pe_ix ix_list (pe_ix ix_list (pv 6) (pv 3) (fun _ _ => rfl)) (pv 4) (fun _ _ => rfl)) (pa_cons (pe_ix ix_list (pe_ix ix_list (pv 7) (pv 3) (fun _ _ => rfl)) (pv 4) (fun _ _ => rfl)) pa_nil))))) pss_nil)
      (pss_cons (ps_set (i := 8) scEntry.nd rfl (Or.inl rfl) (pe_tup (pa_cons pe_int (pa_cons pe_int pa_nil))))
      (pss_cons (ps_for PassesOwn.never rfl (pi_range1 rfl B.range (pa_cons (pe_callB call_len_seq (by rfl) B.len PySem.boot_len (pa_cons (pe_ix ix_tup (pv 0) pe_int (fun _ _ => rfl)) pa_nil)) pa_nil)) (pg_name (i := 9) scEntry.nd rfl (Or.inl rfl)) (pss_one (ps_set (i := 8) scEntry.nd rfl (Or.inl rfl) (pe_fn DP GP hr rfl (pa_cons (pv 8) (pa_cons (pe_fn DT GT hr rfl (pa_cons (pe_ix ix_list (pe_ix ix_list (pv 6) (pv 3) (fun _ _ => rfl)) (pv 9) (fun _ _ => rfl)) (pa_cons (pe_ix ix_list (pe_ix ix_list (pv 7) (pv 9) (fun _ _ => rfl)) (pv 4) (fun _ _ => rfl)) pa_nil))) pa_nil))))))
      (pss_one (ps_ret (pv 8))))))))))))))), ?_⟩
    refine ⟨_, rfl, p, _, _, _, rfl, rfl, hp, at_hd _ _, ?_⟩
    have word : ∀ {a b : Str}, a ≠ b → ¬ V.str a = V.str b := fun h => sne h
    refine ⟨_, rfl, rfl, _, rfl, ?_⟩
    cases t with
    | lf k =>
      cases k with
      | one => exact absurd hE.ok.fit (fun z => z)
      | same =>
        refine itDP rfl ?_
        refine ⟨_, rfl, _, rfl, rfl, .inr ⟨_, rfl, (by show 2 ≤ sizeLine; decide), fun p' hp' => ?_⟩⟩
        refine q _ _ (Same.upd hp') ?_
        have e : mnOf hs M fs (.lf .same) (i * n + j) = ((if i = j then 1 else 0 : Int) : Rat) := by
          simp only [mnOf, lfM, mean]
          rw [hl, d1, d2]
          split
          · rw [Rat.intCast_one]
          · rw [Rat.intCast_zero]
        refine frAt_of S sz lt (pr := (if i = j then 1 else 0, 1)) ?_ (by rw [e]; exact isFr_int _)
        rw [upd_same]
        by_cases c : i = j
        · subst c; simp [tupF]
        · have : ¬ (i : Int) = (j : Int) := by omega
          simp [tupF, c, this]
      | hue c =>
        rw [das_int dp] at hp
        refine itDN (word (show ("hue" : Str) ≠ "same" by decide +kernel)) ⟨_, rfl, rfl, _, rfl, itDP rfl ?_⟩
        obtain ⟨h, eh⟩ := get_lt (l := hs) (i := i) (by rw [hl]; exact hi)
        have e : mnOf hs M fs (.lf (.hue c)) (i * n + j) = ((if i = j ∧ h = c then 1 else 0 : Int) : Rat) := by
          simp only [mnOf, lfM, unF, mean]
          rw [hl, d1, d2, getD_of eh]
          by_cases c1 : i = j
          · rw [if_pos c1]
            by_cases c2 : h = c
            · rw [if_pos c2, if_pos ⟨c1, c2⟩, Rat.intCast_one]
            · rw [if_neg c2, if_neg (fun z => c2 z.2), Rat.intCast_zero]
          · rw [if_neg c1, if_neg (fun z => c1 z.1), Rat.intCast_zero]
        have fin : ∀ (b : Bool) (H' : Hp) (p' : Addr), b = decide (i = j ∧ h = c) → H p' = none → FrAt (L2.upd H p' (.tup [.int (if b = true then 1 else 0), .int 1])) (.ref p') (mnOf hs M fs (.lf (.hue c)) (i * n + j)) := fun b H' p' hb hp' => by
          refine frAt_of S sz lt (pr := (if i = j ∧ h = c then 1 else 0, 1)) ?_ (by rw [e]; exact isFr_int _)
          rw [upd_same, hb]
          by_cases c : i = j ∧ h = c
          · rw [if_pos c, decide_eq_true c]; rfl
          · rw [if_neg c, decide_eq_false c]; rfl
        refine ⟨_, rfl, _, rfl, rfl, _, rfl, ?_⟩
        by_cases c1 : i = j
        · refine itDP (by rw [c1]) ?_
          refine ⟨_, rfl, wA, _, _, _, rfl, rfl, SqT.of w1, rfl, _, rfl, hA, _, _, .int h, rfl, rfl, SqL.of w2, atI_nat (by rw [List.getElem?_map, eh]; rfl), _, rfl, p, _, _, _, rfl, rfl, hp, at_snd _ _ _, rfl, .inr ⟨_, rfl, (by show 2 ≤ sizeLine; decide), fun p' hp' => q _ _ (Same.upd hp') ?_⟩⟩
          exact fin _ H p' (by
            by_cases c2 : h = c
            · rw [decide_eq_true (by rw [c2]), decide_eq_true ⟨c1, c2⟩]
            · rw [decide_eq_false (fun z => c2 (V.int.inj z)), decide_eq_false (fun z => c2 z.2)]) hp'
        · have c1' : ¬ V.int (i : Int) = V.int (j : Int) := fun z => c1 (by have := V.int.inj z; omega)
          refine itDN c1' (.inr ⟨_, rfl, (by show 2 ≤ sizeLine; decide), fun p' hp' => q _ _ (Same.upd hp') ?_⟩)
          exact fin false H p' (by rw [decide_eq_false (fun z => c1 z.1)]) hp'
      | tie =>
        refine itDN (word (show ("tie" : Str) ≠ "same" by decide +kernel)) ⟨_, rfl, rfl, _, rfl, itDN (word (show ("tie" : Str) ≠ "hue" by decide +kernel)) ⟨_, rfl, rfl, _, rfl, itDP rfl ?_⟩⟩
        obtain ⟨x, ex⟩ := get_lt (l := M) (i := i) (by rw [hE.mo.ml]; exact hi)
        obtain ⟨r, er⟩ := get_lt (l := rs) (i := i) (by rw [RR.len, hE.mo.ml]; exact hi)
        obtain ⟨z, ez⟩ := get_lt (l := x) (i := j) (by rw [(hE.mo.row x (List.mem_of_getElem? ex)).1]; exact hj)
        refine ⟨_, rfl, wA, _, _, _, rfl, rfl, SqT.of w1, rfl, _, rfl, rA, _, _, _, rfl, rfl, SqL.of w3, at_ref er, _, rfl, r, _, _, .int z, rfl, rfl, SqL.of (RR.row i r x er ex), atI_nat (by rw [List.getElem?_map, ez]; rfl), (by show 2 ≤ sizeLine; decide), fun p' hp' => q _ _ (Same.upd hp') ?_⟩
        have e : mnOf hs M fs (.lf .tie) (i * n + j) = (z : Rat) := by
          simp only [mnOf, lfM, mean]
          rw [hl, d1, d2, getD_of ex, getD_of ez]
        exact frAt_of S sz lt (pr := (z, 1)) upd_same (by rw [e]; exact isFr_int z)
      | all =>
        refine itDN (word (show ("all" : Str) ≠ "same" by decide +kernel)) ⟨_, rfl, rfl, _, rfl, itDN (word (show ("all" : Str) ≠ "hue" by decide +kernel)) ⟨_, rfl, rfl, _, rfl, itDN (word (show ("all" : Str) ≠ "tie" by decide +kernel)) ⟨_, rfl, rfl, _, rfl, itDP rfl ?_⟩⟩⟩
        refine ⟨(by show 2 ≤ sizeLine; decide), fun p' hp' => q _ _ (Same.upd hp') ?_⟩
        exact frAt_of S sz lt (pr := (1, 1)) upd_same (isFr_int 1)
    | turned m =>
      obtain rfl := das_nil dp
      obtain ⟨b, ab, hv⟩ := tabAt (nums m (by simp [Stp.nums]))
      refine itDN (word (show ("turned" : Str) ≠ "same" by decide +kernel)) ⟨_, rfl, rfl, _, rfl, itDN (word (show ("turned" : Str) ≠ "hue" by decide +kernel)) ⟨_, rfl, rfl, _, rfl, itDN (word (show ("turned" : Str) ≠ "tie" by decide +kernel)) ⟨_, rfl, rfl, _, rfl, itDN (word (show ("turned" : Str) ≠ "all" by decide +kernel)) ⟨_, rfl, rfl, _, rfl, itDP rfl ?_⟩⟩⟩⟩
      obtain ⟨a, r, rs', x, u, ea, ha, at1', hr', at2, fu⟩ := hv.cell hj hi
      cases ea
      refine ⟨_, rfl, _, rfl, p, _, _, _, rfl, rfl, hp, at_snd _ _ _, R, _, _, _, rfl, rfl, SqL.of eR, ab, _, rfl, b, _, _, _, rfl, rfl, SqL.of ha, at1', _, rfl, r, _, _, u, rfl, rfl, SqL.of hr', at2, q _ _ (Same.refl _) ?_⟩
      simp only [mnOf, unF]
      rw [hl, d1, d2]
      exact fu
    | many c d m =>
      obtain ⟨fa, rfl, hf⟩ := das_fr dp
      obtain ⟨b, ab, hv⟩ := tabAt (nums m (by simp [Stp.nums]))
      refine itDN (word (show ("many" : Str) ≠ "same" by decide +kernel)) ⟨_, rfl, rfl, _, rfl, itDN (word (show ("many" : Str) ≠ "hue" by decide +kernel)) ⟨_, rfl, rfl, _, rfl, itDN (word (show ("many" : Str) ≠ "tie" by decide +kernel)) ⟨_, rfl, rfl, _, rfl, itDN (word (show ("many" : Str) ≠ "all" by decide +kernel)) ⟨_, rfl, rfl, _, rfl, itDN (word (show ("many" : Str) ≠ "turned" by decide +kernel)) ⟨_, rfl, rfl, _, rfl, itDP rfl ?_⟩⟩⟩⟩⟩
      obtain ⟨a, r, rs', x, u, ea, ha, at1', hr', at2, fu⟩ := hv.cell hi hj
      cases ea
      obtain ⟨p2, pr, rfl, g1, g2, g3⟩ := fu.frn
      have fo : FrOk c d := hE.ok.fit
      have qb : M11.Bn 499 d := Nat.lt_of_le_of_lt (show d.natAbs ≤ 2 ^ 20 by have := fo.pos; have := fo.bot; omega) (by decide)
      have fr : IsFr ((c : Rat) / (d : Rat)) (c, d) := ⟨fo.pos, fo.cop, by have := cast_ne fo.pos; show (c : Rat) = c / d * d; grind⟩
      have em : mnOf hs M fs (.many c d m) (i * n + j) = ((c : Rat) / (d : Rat)) * fs.getD m F0 (i * n + j) := by
        simp only [mnOf, unF]
        exact Rat.mul_comm _ _
      refine ⟨_, rfl, p, _, _, _, rfl, rfl, hp, at_snd _ _ _, _, rfl, _, rfl, p, _, _, _, rfl, rfl, hp, at_thd _ _ _ _, R, _, _, _, rfl, rfl, SqL.of eR, ab, _, rfl, b, _, _, _, rfl, rfl, SqL.of ha, at1', _, rfl, r, _, _, _, rfl, rfl, SqL.of hr', at2, fa, p2, c, d, pr.1, pr.2, rfl, hf, SqT.of g1, ⟨(bn200 fo.top).mono (by decide), qb, fo.pos⟩, g3, fun r' hr'' => q _ _ (Same.upd hr'') ?_⟩
      refine frAt_of S sz lt upd_same ?_
      rw [em]
      exact fr.times g2
    | two k' m m' =>
      obtain rfl := das_nil dp
      have km := nums m (by simp [Stp.nums])
      have km' := nums m' (by simp [Stp.nums])
      obtain ⟨b, ab, hv⟩ := tabAt km
      obtain ⟨b', ab', hv'⟩ := tabAt km'
      have wd : ∀ x ∈ (["same", "hue", "tie", "all", "turned", "many"] : List Str), k'.word ≠ x := by
        have := hE.ok.fit
        cases k' with
        | both => exact absurd this (fun z => z)
        | _ => show ∀ x ∈ _, (_ : Str) ≠ x; decide +kernel
      refine itDN (word (wd _ (by simp))) ⟨_, rfl, rfl, _, rfl, itDN (word (wd _ (by simp))) ⟨_, rfl, rfl, _, rfl, itDN (word (wd _ (by simp))) ⟨_, rfl, rfl, _, rfl, itDN (word (wd _ (by simp))) ⟨_, rfl, rfl, _, rfl, itDN (word (wd _ (by simp))) ⟨_, rfl, rfl, _, rfl, itDN (word (wd _ (by simp))) ?_⟩⟩⟩⟩⟩
      refine ⟨_, rfl, _, rfl, p, _, _, _, rfl, rfl, hp, at_snd _ _ _, R, _, _, _, rfl, rfl, SqL.of eR, ab, ?_⟩
      refine ⟨_, rfl, _, rfl, p, _, _, _, rfl, rfl, hp, at_thd _ _ _ _, R, _, _, _, rfl, rfl, SqL.of eR, ab', ?_⟩
      refine ⟨_, rfl, rfl, _, rfl, ?_⟩
      cases k' with
      | both => exact absurd hE.ok.fit (fun z => z)
      | meet =>
        refine itDP rfl ?_
        obtain ⟨a, r, rs', x, y, ea, ha, b1, hr', b2, fu⟩ := hv.cell hi hj
        cases ea
        obtain ⟨p2, pr, rfl, g1, g2, g3⟩ := fu.frn
        obtain ⟨a', r', rs2, x', y', ea', ha', b1', hr2, b2', fu'⟩ := hv'.cell hi hj
        cases ea'
        obtain ⟨p3, pr', rfl, g1', g2', g3'⟩ := fu'.frn
        refine ⟨_, rfl, _, rfl, b, _, _, _, rfl, rfl, SqL.of ha, b1, _, rfl, r, _, _, _, rfl, rfl, SqL.of hr', b2, _, rfl, _, rfl, b', _, _, _, rfl, rfl, SqL.of ha', b1', _, rfl, r', _, _, _, rfl, rfl, SqL.of hr2, b2', p2, p3, pr.1, pr.2, pr'.1, pr'.2, rfl, SqT.of g1, SqT.of g1', g3, g3', fun r2 hr3 => q _ _ (Same.upd hr3) (frAt_of S sz lt upd_same (g2.times g2'))⟩
      | plus =>
        refine itDN (word (show ("plus" : Str) ≠ "meet" by decide +kernel)) ⟨_, rfl, rfl, _, rfl, itDP rfl ?_⟩
        obtain ⟨a, r, rs', x, y, ea, ha, b1, hr', b2, fu⟩ := hv.cell hi hj
        cases ea
        obtain ⟨p2, pr, rfl, g1, g2, g3⟩ := fu.frn
        obtain ⟨a', r', rs2, x', y', ea', ha', b1', hr2, b2', fu'⟩ := hv'.cell hi hj
        cases ea'
        obtain ⟨p3, pr', rfl, g1', g2', g3'⟩ := fu'.frn
        refine ⟨_, rfl, _, rfl, b, _, _, _, rfl, rfl, SqL.of ha, b1, _, rfl, r, _, _, _, rfl, rfl, SqL.of hr', b2, _, rfl, _, rfl, b', _, _, _, rfl, rfl, SqL.of ha', b1', _, rfl, r', _, _, _, rfl, rfl, SqL.of hr2, b2', p2, p3, pr.1, pr.2, pr'.1, pr'.2, rfl, SqT.of g1, SqT.of g1', g3, g3', fun r2 hr3 => q _ _ (Same.upd hr3) (frAt_of S sz lt upd_same (g2.plus g2'))⟩
      | thn =>
        refine itDN (word (show ("then" : Str) ≠ "meet" by decide +kernel)) ⟨_, rfl, rfl, _, rfl, itDN (word (show ("then" : Str) ≠ "plus" by decide +kernel)) ?_⟩
        obtain ⟨r1', S1⟩ := hE.sh m km
        obtain ⟨r2', S2⟩ := hE.sh m' km'
        have sz' : zs.getD m 0 + zs.getD m' 0 + 1 ≤ 1500 := sz
        have Sp : Shr n (zs.getD m 0 + zs.getD m' 0) (fun x => fs.getD m F0 (i * n + x) * fs.getD m' F0 (x * n + j)) := ⟨(_, _), (va_row S1 hi).mul (va_col S2 hj)⟩
        have em : mnOf hs M fs (.two .thn m m') (i * n + j) = sm (fun x => fs.getD m F0 (i * n + x) * fs.getD m' F0 (x * n + j)) n := by
          simp only [mnOf, biF, fThen]
          rw [hl, d1, d2]
        refine ⟨(by show 2 ≤ sizeLine; decide), fun p0 hp0 => ?_⟩
        have s1 : Same H (L2.upd H p0 (.tup [.int 0, .int 1])) := Same.upd hp0
        have e1 : L2.upd H p0 (.tup [.int 0, .int 1]) p0 = some (tupF (0, 1)) := upd_same
        generalize L2.upd H p0 (.tup [.int 0, .int 1]) = H1 at s1 e1 ⊢
        refine ⟨_, rfl, wA, _, _, _, rfl, rfl, SqT.of (s1 _ _ w1), rfl, hA, _, rfl, .inl (SqL.of (s1 _ _ w2)), ?_⟩
        rw [List.length_map, hl]
        refine ⟨(n : Int), rfl, by omega, by omega, for_range (n := n) (fun k σ H' => ∃ (z : V) (o : Option V), σ = [some (.ref wA), some (.ref p), some (.ref R), some (.int (i : Int)), some (.int (j : Int)), some (.str "then"), some (.ref b), some (.ref b'), some z, o] ∧ Same H H' ∧ FrAt H' z (sm (fun x => fs.getD m F0 (i * n + x) * fs.getD m' F0 (x * n + j)) k))
          ⟨_, none, rfl, s1, frAt_sum Sp (by omega) (by omega) (Nat.zero_le _) e1 (isFr_int 0)⟩ ?_ ?_⟩
        · rintro k σ H2 hk ⟨z, o, rfl, s2, fz⟩
          have e0 : ((0 : Int) + (k : Nat)) = (k : Int) := by omega
          rw [e0]
          obtain ⟨pz, prz, rfl, z1, z2, z3⟩ := fz.frn
          obtain ⟨a, r, rs', x, y, ea, ha, b1, hr', b2, fu⟩ := (hv.mono s2).cell hi hk
          cases ea
          obtain ⟨p2, pr, rfl, g1, g2, g3⟩ := fu.frn
          obtain ⟨a', r', rs2, x', y', ea', ha', b1', hr2, b2', fu'⟩ := (hv'.mono s2).cell hk hj
          cases ea'
          obtain ⟨p3, pr', rfl, g1', g2', g3'⟩ := fu'.frn
          refine ⟨_, rfl, _, rfl, _, rfl, b, _, _, _, rfl, rfl, SqL.of ha, b1, _, rfl, r, _, _, _, rfl, rfl, SqL.of hr', b2, _, rfl, _, rfl, b', _, _, _, rfl, rfl, SqL.of ha', b1', _, rfl, r', _, _, _, rfl, rfl, SqL.of hr2, b2', p2, p3, pr.1, pr.2, pr'.1, pr'.2, rfl, SqT.of g1, SqT.of g1', g3, g3', fun r3 hr3 => ?_⟩
          have s3 : Same H2 (L2.upd H2 r3 (tupF (gPro pr.1 pr.2 pr'.1 pr'.2))) := Same.upd hr3
          have f3 : FrAt (L2.upd H2 r3 (tupF (gPro pr.1 pr.2 pr'.1 pr'.2))) (.ref r3) _ := frAt_of (H := L2.upd H2 r3 (tupF (gPro pr.1 pr.2 pr'.1 pr'.2))) Sp (by omega) hk upd_same (g2.times g2')
          generalize L2.upd H2 r3 (tupF (gPro pr.1 pr.2 pr'.1 pr'.2)) = H3 at s3 f3 ⊢
          obtain ⟨p4, pr4, e4, q1, q2, q3⟩ := f3.frn
          cases e4
          refine ⟨pz, r3, prz.1, prz.2, pr4.1, pr4.2, rfl, SqT.of (s3 _ _ z1), SqT.of q1, z3, q3, fun r5 hr5 => ?_⟩
          exact ⟨_, _, rfl, (s2.trans s3).trans (Same.upd hr5), frAt_sum Sp (by omega) (by omega) (i := k + 1) (by omega) upd_same (z2.plus q2)⟩
        · rintro σ H2 ⟨z, o, rfl, s2, fz⟩
          refine ⟨_, rfl, q z H2 s2 ?_⟩
          rw [em]
          exact fz
end
section
variable {P : Program} {w : World} {K : PySem.W.Frag} {mg : Str → Option Value} {base : Heap}
open Q6 TM
theorem FrAt.updL {d : Addr} {H : Hp} {v : V} {q : Rat} {xs : List V} {o : HO} (h : FrAt H v q) (hd : H d = some (.lst xs)) : FrAt (L2.upd H d o) v q := by
  have h1 := h.off hd
  rw [← off_upd d H o] at h1
  exact h1.mono (off_same d _)
theorem lc_frM {a : Addr} {xs : List V} {te : TE} {Q : Hp → Prop} {σ : L2.St} {H1 : Hp} {D : Addr} (f : Nat → Rat) (hm : xs.length ≤ 900) (hD : H1 D = none) (hxs : SqL K H1 a xs)
    (hs : ∀ (i : Nat) (x : V) (H' : Hp), xs[i]? = some x → Same H1 H' → te (σ ++ [some x]) H' fun v H3 => Same H' H3 ∧ FrAt H3 v (f i))
    (hd : ∀ (ys : List V) (H' : Hp), Same H1 H' → H' D = some (.lst ys) → ys.length = xs.length → (∀ (i : Nat) (v : V), ys[i]? = some v → FrAt H' v (f i)) → Q H')
    (mono : ∀ σ H Q Q', (∀ v H1, Q v H1 → Q' v H1) → te σ H Q → te σ H Q') :
    ∃ W : Nat → Nat → List V → Hp → Prop, (∃ m, W 0 m [] (upd H1 D (.lst []))) ∧
      ∀ i m ys H', W i m ys H' → H' D = some (.lst ys) ∧ (((Itl K a).stop i H' ∧ Q H') ∨ ((Itl K a).go i H' ∧ ∀ z H2, (Itl K a).yld i H' z H2 → te (σ ++ [some z]) H2 fun v H3 => H3 D = some (.lst ys) ∧ ys.length < sizeLine ∧ ∃ m', m' < m ∧ W (i + 1) m' (ys ++ [v]) (upd H3 D (.lst (ys ++ [v]))))) := by
  refine lc_list (xs := xs) (fun i ys H' => ys.length = i ∧ Same H1 H' ∧ H' D = some (.lst ys) ∧ ∀ (j : Nat) (v : V), ys[j]? = some v → FrAt H' v (f j)) ⟨rfl, Same.upd hD, upd_same, fun j v h => by cases h⟩ ?_ ?_ ?_ mono
  · rintro i ys H' _ ⟨_, s', eD, _⟩
    exact ⟨s'.seq hxs, eD⟩
  · rintro i x ys H' hx ⟨ly, s', eD, hv⟩
    have li := lt_get hx
    refine mono _ _ _ _ ?_ (hs i x H' hx s')
    rintro v H3 ⟨s3, fv⟩
    have eD3 := s3 _ _ eD
    refine ⟨eD3, small1000 (by omega), by rw [List.length_append, ly]; rfl, fun b o e => ?_, upd_same, fun j u hj => ?_⟩
    · rw [upd_ne (ne_of_none e hD)]
      exact s3 _ _ (s' _ _ e)
    · rcases snoc_get hj with e | ⟨e, rfl⟩
      · exact ((hv j u e).mono s3).updL eD3
      · rw [e, ly]
        exact fv.updL eD3
  · rintro ys H' ⟨ly, s', eD, hv⟩
    exact hd ys H' s' eD ly hv
def RowF (H : Hp) (r : Addr) (n : Nat) (f : Nat → Rat) : Prop := ∃ ys : List V, H r = some (.lst ys) ∧ ys.length = n ∧ ∀ (j : Nat) (u : V), ys[j]? = some u → FrAt H u (f j)
theorem RowF.updL {d r : Addr} {H : Hp} {n : Nat} {f : Nat → Rat} {xs : List V} {o : HO} (h : RowF H r n f) (hr : r ≠ d) (hd : H d = some (.lst xs)) : RowF (L2.upd H d o) r n f := by
  obtain ⟨ys, h1, h2, h3⟩ := h
  exact ⟨ys, by rw [upd_ne hr]; exact h1, h2, fun j u e => (h3 j u e).updL hd⟩
theorem RowF.mono {r : Addr} {H H' : Hp} {n : Nat} {f : Nat → Rat} (h : RowF H r n f) (s : Same H H') : RowF H' r n f := by
  obtain ⟨ys, h1, h2, h3⟩ := h
  exact ⟨ys, s _ _ h1, h2, fun j u e => (h3 j u e).mono s⟩
theorem lc_tabM {a : Addr} {xs : List V} {te : TE} {Q : Hp → Prop} {σ : L2.St} {H1 : Hp} {D : Addr} (n : Nat) (f : Nat → Rat) (lx : xs.length = n) (hm : n ≤ 900) (hD : H1 D = none) (hxs : SqL K H1 a xs)
    (hs : ∀ (i : Nat) (x : V) (H' : Hp), xs[i]? = some x → Same H1 H' → te (σ ++ [some x]) H' fun v H3 => Same H' H3 ∧ ∃ r, v = .ref r ∧ H' r = none ∧ RowF H3 r n fun j => f (i * n + j))
    (hd : ∀ H' : Hp, Same H1 H' → TabR H' (.ref D) n f → Q H')
    (mono : ∀ σ H Q Q', (∀ v H1, Q v H1 → Q' v H1) → te σ H Q → te σ H Q') :
    ∃ W : Nat → Nat → List V → Hp → Prop, (∃ m, W 0 m [] (upd H1 D (.lst []))) ∧
      ∀ i m ys H', W i m ys H' → H' D = some (.lst ys) ∧ (((Itl K a).stop i H' ∧ Q H') ∨ ((Itl K a).go i H' ∧ ∀ z H2, (Itl K a).yld i H' z H2 → te (σ ++ [some z]) H2 fun v H3 => H3 D = some (.lst ys) ∧ ys.length < sizeLine ∧ ∃ m', m' < m ∧ W (i + 1) m' (ys ++ [v]) (upd H3 D (.lst (ys ++ [v]))))) := by
  refine lc_list (xs := xs) (fun i ys H' => ∃ rs : List Addr, ys = rs.map V.ref ∧ rs.length = i ∧ Same H1 H' ∧ H' D = some (.lst ys) ∧ (∀ r ∈ rs, r ≠ D) ∧ ∀ (j : Nat) (r : Addr), rs[j]? = some r → RowF H' r n fun m => f (j * n + m)) ⟨[], rfl, rfl, Same.upd hD, upd_same, fun r h => (by cases h), fun j v h => (by cases h)⟩ ?_ ?_ ?_ mono
  · rintro i ys H' _ ⟨rs, _, _, s', eD, _⟩
    exact ⟨s'.seq hxs, eD⟩
  · rintro i x ys H' hx ⟨rs, rfl, lr, s', eD, nD, hv⟩
    have li := lt_get hx
    refine mono _ _ _ _ ?_ (hs i x H' hx s')
    rintro v H3 ⟨s3, r, rfl, nr, fv⟩
    have eD3 := s3 _ _ eD
    have nrD : r ≠ D := fun z => by rw [z, eD] at nr; cases nr
    refine ⟨eD3, small1000 (by rw [List.length_map]; omega), rs ++ [r], by rw [List.map_append]; rfl, by rw [List.length_append, lr]; rfl, fun b o e => ?_, upd_same, fun r' h => ?_, fun j u hj => ?_⟩
    · rw [upd_ne (ne_of_none e hD)]
      exact s3 _ _ (s' _ _ e)
    · rcases List.mem_append.mp h with z | z
      · exact nD r' z
      · rw [List.mem_singleton.mp z]; exact nrD
    · rcases snoc_get hj with e | ⟨e, rfl⟩
      · exact ((hv j u e).mono s3).updL (nD u (List.mem_of_getElem? e)) eD3
      · rw [e, lr]
        exact fv.updL nrD eD3
  · rintro ys H' ⟨rs, rfl, lr, s', eD, nD, hv⟩
    have key : ∀ (k : Nat), k ≤ n → ∃ X : List (List V), X.length = k ∧ ∀ (i : Nat) (r : Addr) (x : List V), rs[i]? = some r → X[i]? = some x → H' r = some (.lst x) ∧ x.length = n ∧ ∀ (j : Nat) (u : V), x[j]? = some u → FrAt H' u (f (i * n + j)) := by
      intro k
      induction k with
      | zero => exact fun _ => ⟨[], rfl, fun i r x _ h => by cases h⟩
      | succ k ih =>
        intro hk
        obtain ⟨X, lX, hX⟩ := ih (by omega)
        obtain ⟨r, er⟩ := get_lt (l := rs) (i := k) (by omega)
        obtain ⟨x, h1, h2, h3⟩ := hv k r er
        refine ⟨X ++ [x], by rw [List.length_append, lX]; rfl, fun i r' x' e1 e2 => ?_⟩
        rcases snoc_get e2 with e | ⟨e, rfl⟩
        · exact hX i r' x' e1 e
        · rw [e, lX] at e1 ⊢
          rw [er] at e1
          cases e1
          exact ⟨h1, h2, h3⟩
    obtain ⟨X, lX, hX⟩ := key n (Nat.le_refl _)
    refine hd H' s' ⟨D, X, rfl, ⟨rs, eD, by omega, fun i r x e1 e2 => (hX i r x e1 e2).1⟩, lX, fun i x e => ?_⟩
    obtain ⟨r, er⟩ := get_lt (l := rs) (i := i) (by have := lt_get e; omega)
    exact (hX i r x er e).2
end
section
variable {P : Program} {w : World} {K : PySem.W.Frag} {mg : Str → Option Value} {base : Heap}
open Q6 TM
theorem set1 (σ : L2.St) (o v : Option V) : (σ ++ [o]).set σ.length v = σ ++ [v] := by simp
theorem lc_none {a : Addr} {xs : List V} {N : Nat} {tt : TT} {te : TE} {σ : L2.St} {H1 : Hp} {Q : VK} (hN : σ.length = N) (hx : SqL K H1 a xs)
    (ht : ∀ (x : V) (H' : Hp) (R : Bool → Hp → Prop), x ∈ xs → Same H1 H' → R false H' → tt (σ ++ [some x]) H' R)
    (hd : ∀ (D : Addr) (H' : Hp), Same H1 H' → H' D = some (.lst []) → Q (.ref D) H') : LcW 1 (Itl K a) (gName N) tt te σ H1 Q := by
  subst hN
  intro D hD
  refine ⟨fun i m ys H' => m = xs.length - i ∧ i ≤ xs.length ∧ ys = [] ∧ Same H1 H' ∧ H' D = some (.lst []), ⟨xs.length, by simp, Nat.zero_le _, rfl, Same.upd hD, upd_same⟩, ?_⟩
  rintro i m ys H3 ⟨rfl, hi, rfl, s3, eD⟩
  refine ⟨eD, ?_⟩
  by_cases hlt : i < xs.length
  · have gx : xs[i]? = some xs[i] := List.getElem?_eq_getElem hlt
    refine .inr ⟨⟨xs, xs[i], s3.seq hx, gx⟩, ?_⟩
    rintro z H4 ⟨rfl, hz⟩ os los
    have hzi := hz xs (s3.seq hx)
    match os, los with
    | [o], _ =>
      refine ⟨⟨[some z], set1 σ o _, rfl⟩, ?_⟩
      rw [set1 σ o _]
      refine ht z _ _ (List.mem_of_getElem? hzi) s3 ?_
      exact iteF ⟨xs.length - (i + 1), by omega, rfl, hlt, rfl, s3, eD⟩
  · exact .inl ⟨⟨xs, s3.seq hx, by omega⟩, hd D H3 s3 eD⟩
theorem nil_ne {H : Hp} {D : Addr} {Q : VK} (e : H D = some (.lst [])) (k : ∀ H', Same H H' → Q (.bl false) H') : 0 ≤ sizeLine ∧ ∀ l, H l = none → rNeD K (.ref D) (.ref l) (L2.upd H l (.lst [])) Q := by
  refine ⟨Nat.zero_le _, fun l hl => ?_⟩
  have s : Same H (L2.upd H l (.lst [])) := Same.upd hl
  exact ⟨.list [], .list [], .lst trivial (SqL.of (s _ _ e)) .nil, .lst trivial (SqL.of upd_same) .nil, ⟨rfl, rfl, by show (1 : Nat) ≤ 64; decide⟩, k _ s⟩
def cmpE (e : Expr) : Expr := match e with
  | .Compare a _ _ _ => a
  | _ => .Constant .none 0 ⟨0, 0, 0, 0⟩
def cmpR (e : Expr) : Expr := match e with
  | .Compare _ _ (b :: _) _ => b
  | _ => .Constant .none 0 ⟨0, 0, 0, 0⟩
def forBody (s : Stmt) (i : Nat) : Stmt := match s with
  | .For _ _ b _ _ => b.getD i (.Pass ⟨0, 0, 0, 0⟩)
  | _ => .Pass ⟨0, 0, 0, 0⟩
theorem kitLL : PySem.W.kitOne K (.type "list") (.type "list") = some true := rfl
theorem isFr_of {H : Hp} {u : V} {q : Rat} (h : FrAt H u q) : ∃ (p : Addr) (x y : Int), u = .ref p ∧ H p = some (tupF (x, y)) ∧ 0 < y ∧ Int.gcd x y = 1 := by
  obtain ⟨p, ⟨x, y⟩, e, hp, hf, _⟩ := h
  exact ⟨p, x, y, e, hp, hf.1, hf.2⟩
def lcElt (e : Expr) : Expr := match e with
  | .ListComp x _ _ _ => x
  | _ => .Constant .none 0 ⟨0, 0, 0, 0⟩
theorem for_zip {a b : Addr} {xs ys : List V} {g : TG} {tb : TS} {D : Ends} {σ : L2.St} {H : Hp} (e : ys.length = xs.length) (Pv : Nat → L2.St → Hp → Prop) (h0 : Pv 0 σ H) (hl : ∀ i σ H, i ≤ xs.length → Pv i σ H → SqL K H a xs ∧ SqL K H b ys)
    (hs : ∀ (i : Nat) (x y : V) (t : Addr) σ H, xs[i]? = some x → ys[i]? = some y → Pv i σ H → H t = none → g (.ref t) σ (upd H t (.tup [x, y])) fun σ2 H2 => tb { D with nx := Pv (i + 1), ct := Pv (i + 1), bk := D.nx } σ2 H2) (hd : ∀ σ H, Pv xs.length σ H → D.nx σ H) :
    ∃ W : Nat → Nat → L2.St → Hp → Prop, (∃ m, W 0 m σ H) ∧ ∀ i m σ H, W i m σ H →
      ((Itz K a b).stop i H ∧ D.nx σ H) ∨ ((Itz K a b).go i H ∧ ∃ N : L2.St → Hp → Prop, (∀ σ' H', N σ' H' → ∃ m', m' < m ∧ W (i + 1) m' σ' H') ∧ ∀ x H', (Itz K a b).yld i H x H' → g x σ H' fun σ2 H2 => tb { D with nx := N, ct := N, bk := D.nx } σ2 H2) := by
  refine ⟨fun i m σ H => m = xs.length - i ∧ i ≤ xs.length ∧ Pv i σ H, ⟨xs.length, by simp, Nat.zero_le _, h0⟩, ?_⟩
  rintro i m σ H ⟨rfl, hi, p⟩
  obtain ⟨q1, q2⟩ := hl i σ H hi p
  by_cases lt : i < xs.length
  · have lt' : i < ys.length := by omega
    refine .inr ⟨⟨xs, ys, xs[i], ys[i], q1, q2, List.getElem?_eq_getElem lt, List.getElem?_eq_getElem lt'⟩, Pv (i + 1), fun σ' H' p' => ⟨xs.length - (i + 1), by omega, rfl, lt, p'⟩, fun x H' y => ?_⟩
    obtain ⟨t, x1, y1, rfl, ht, rfl, g1, g2⟩ := y
    exact hs i x1 y1 t σ H (g1 xs q1) (g2 ys q2) p ht
  · have ei : i = xs.length := by omega
    subst ei
    exact .inl ⟨⟨xs, ys, q1, q2, .inl (Nat.le_refl _)⟩, hd σ H p⟩
end
section
variable {P : Program} {w : World} {K : PySem.W.Frag} {mg : Str → Option Value} {base : Heap}
open Q6 TM
def spLSum : Sp := fun vs H Q _ => ∃ (b : Addr) (n s : Nat) (f : Nat → Rat), vs = [.ref b] ∧ TabR H (.ref b) n f ∧ n ≤ 16 ∧ s ≤ 1500 ∧ Shr (n * n) s f ∧ ∀ u H', Same H H' → FrAt H' u (sm f (n * n)) → Q u H'
abbrev nLSum : List Str := ["_law_table", "_law_total", "_law_row", "_law_one"]
theorem scLSum : FnScope nLSum ["_law_table"] (defScope sLSum) := ⟨rfl, rfl, rfl, by decide +kernel, rfl, by decide +kernel, by decide +kernel⟩
theorem ok_lsum {f fP : Addr} {fd fdP : FuncData} (F : Fun K "_law_sum" "_law_sum" sLSum f fd) (DP : Dn K mg "_law_plus" sPlus ["_law_f", "_law_g"] fP fdP) (GP : FnOk P w K mg base CX0 3 fP fdP ["_law_f", "_law_g"] (sp2 K gSum)) : FnOk P w K mg base CX0 4 f fd ["_law_table"] spLSum := by
  refine F.ok scLSum (fun vs H Q E h => ?_) (fun cdv A outer s H vs Q E hr h => ?_)
  · obtain ⟨b, n, s, f, rfl, _⟩ := h
    rfl
  · obtain ⟨b, n, z, f, rfl, ⟨_, X, e0, ⟨rs, ha, gv⟩, lX, hX⟩, hn, hz, S, q⟩ := h
    cases e0
    refine ⟨_, pss_cons (ps_set (i := 1) scLSum.nd rfl (Or.inl rfl) (pe_tup (pa_cons pe_int (pa_cons pe_int pa_nil))))
      (pss_cons (ps_for PassesOwn.never rfl (pi_list (pv 0)) (pg_name (i := 2) scLSum.nd rfl (Or.inl rfl))
        (pss_one (ps_for PassesOwn.never rfl (pi_list (pv 2)) (pg_name (i := 3) scLSum.nd rfl (Or.inl rfl))
          (pss_one (ps_set (i := 1) scLSum.nd rfl (Or.inl rfl) (pe_fn DP GP hr rfl (pa_cons (pv 1) (pa_cons (pv 3) pa_nil))))))))
      (pss_one (ps_ret (pv 1)))), ?_⟩
    have nn : n * n ≤ 256 := Nat.mul_le_mul hn hn
    have lr : (rs.map V.ref).length = n := by rw [List.length_map, gv.len, lX]
    refine ⟨(by show 2 ≤ sizeLine; decide), fun p0 hp0 => ?_⟩
    have s1 : Same H (L2.upd H p0 (.tup [.int 0, .int 1])) := Same.upd hp0
    have e1 : L2.upd H p0 (.tup [.int 0, .int 1]) p0 = some (tupF (0, 1)) := upd_same
    generalize L2.upd H p0 (.tup [.int 0, .int 1]) = H1 at s1 e1 ⊢
    refine ⟨_, rfl, b, rfl, ⟨_, SqL.of (s1 _ _ ha)⟩, for_list (xs := rs.map V.ref) (fun i σ H' => ∃ (z : V) (o2 o3 : Option V), σ = [some (.ref b), some z, o2, o3] ∧ Same H H' ∧ FrAt H' z (sm f (i * n))) ⟨_, none, none, rfl, s1, ?_⟩ (fun i σ H' _ ⟨_, _, _, _, s', _⟩ => SqL.of (s' _ _ ha)) ?_ ?_⟩
    · rw [Nat.zero_mul]
      exact frAt_sum S hz nn (i := 0) (Nat.zero_le _) e1 (isFr_int 0)
    · rintro i x σ H2 hx ⟨zv, o2, o3, rfl, s2, fz⟩
      obtain ⟨r, er, rfl⟩ := map_get hx
      obtain ⟨y, ey⟩ := get_lt (l := X) (i := i) (by rw [← gv.len]; exact lt_get er)
      have e2 := s2 _ _ (gv.row i r y er ey)
      obtain ⟨ly, fy⟩ := hX i y ey
      have hi : i < n := by rw [← lX]; exact lt_get ey
      have hin : i * n + n ≤ n * n := by
        have := Nat.mul_le_mul_right n (show i + 1 ≤ n from hi)
        rw [Nat.succ_mul] at this
        exact this
      refine ⟨_, rfl, r, rfl, ⟨_, SqL.of e2⟩, for_list (xs := y) (fun j σ H' => ∃ (z : V) (o3 : Option V), σ = [some (.ref b), some z, some (.ref r), o3] ∧ Same H2 H' ∧ FrAt H' z (sm f (i * n + j))) ⟨_, o3, rfl, Same.refl _, fz⟩ (fun j σ H' _ ⟨_, _, _, s', _⟩ => SqL.of (s' _ _ e2)) ?_ ?_⟩
      · rintro j v σ H3 hv ⟨zv', o3', rfl, s3, fz'⟩
        obtain ⟨pz, prz, rfl, z1, z2, z3⟩ := fz'.frn
        obtain ⟨p2, pr, rfl, g1, g2, g3⟩ := (((fy j v hv).mono s2).mono s3).frn
        have hj : j < n := by rw [← ly]; exact lt_get hv
        refine ⟨_, rfl, _, rfl, pz, p2, prz.1, prz.2, pr.1, pr.2, rfl, SqT.of z1, SqT.of g1, z3, g3, fun r5 hr5 => ?_⟩
        exact ⟨_, _, rfl, s3.trans (Same.upd hr5), frAt_sum S hz nn (i := i * n + j + 1) (by omega) upd_same (z2.plus g2)⟩
      · rintro σ H3 ⟨zv', o3', rfl, s3, fz'⟩
        rw [ly] at fz'
        refine ⟨_, _, _, rfl, s2.trans s3, ?_⟩
        rw [Nat.succ_mul]
        exact fz'
    · rintro σ H2 ⟨zv, o2, o3, rfl, s2, fz⟩
      rw [lr] at fz
      exact ⟨_, rfl, q zv H2 s2 fz⟩
end
section
variable {P : Program} {w : World} {K : PySem.W.Frag} {mg : Str → Option Value} {base : Heap}
open Q6 TM
def ifTest (s : Stmt) : Expr := match s with
  | .If t _ _ _ => t
  | _ => .Constant .none 0 ⟨0, 0, 0, 0⟩
def spHolds (K : PySem.W.Frag) : Sp := fun vs H Q _ => ∃ (wA a : Addr) (ss : List Stp) (hs : List Int) (M : List (List Int)) (n : Nat), vs = [.ref wA, .ref a] ∧ StW K H wA a ss hs M n ∧ 0 < ss.length ∧ ss.length ≤ 800 ∧ ∀ H', Same H H' → Q (.bl true) H'
abbrev nH : List Str := ["_law_web_here", "_law_steps_here", "_law_tables", "_law_places", "_law_step_here", "_law_table", "_law_row", "_law_total"]
theorem scH : FnScope nH ["_law_web_here", "_law_steps_here"] (defScope sHolds) := ⟨rfl, rfl, rfl, by decide +kernel, rfl, by decide +kernel, by decide +kernel⟩
theorem lcH1 : LcScope (defScope sHolds) nH (lcScope (cmpR (ifTest (forBody (bodyAt sHolds 3) 0)))) "_law_u" := ⟨by decide +kernel, rfl, by decide +kernel, by decide +kernel, by decide +kernel, by decide +kernel, by decide +kernel, by decide +kernel, by decide +kernel, by decide +kernel⟩
def blkH : Scope := relabel (lcScope (cmpR (ifTest (forBody (bodyAt sHolds 3) 0)))) (envOfC "" (defScope sHolds) 0 0 .none)
theorem lcH2 : LcScopes blkH (blkN nH "_law_u") (lcScope (lcElt (cmpR (ifTest (forBody (bodyAt sHolds 3) 0))))) ["_law_v"] := ⟨by decide +kernel, rfl, by decide +kernel, by decide +kernel, by decide +kernel, by decide +kernel, by decide +kernel, by decide +kernel, by decide +kernel, by decide +kernel⟩
theorem lcH3 : LcScopes (defScope sHolds) nH (lcScope (cmpE (ifTest (forBody (forBody (bodyAt sHolds 3) 1) 0)))) ["_law_one"] := ⟨by decide +kernel, rfl, by decide +kernel, by decide +kernel, by decide +kernel, by decide +kernel, by decide +kernel, by decide +kernel, by decide +kernel, by decide +kernel⟩
def ButL (rs : List Addr) (H H' : Hp) : Prop := ∀ b o, b ∉ rs → H b = some o → H' b = some o
theorem FrAt.but {H H' : Hp} {v : V} {q : Rat} {rs : List Addr} (h : FrAt H v q) (b : ButL rs H H') (hl : ∀ r ∈ rs, ∃ x, H r = some (.lst x)) : FrAt H' v q := by
  obtain ⟨p, pr, rfl, h1, h2⟩ := h
  refine ⟨p, pr, rfl, b _ _ (fun z => ?_) h1, h2⟩
  obtain ⟨y, ey⟩ := hl p z
  rw [ey] at h1
  cases h1
theorem TabR.lst {H : Hp} {b : Addr} {n : Nat} {f : Nat → Rat} (h : TabR H (.ref b) n f) : ∃ x, H b = some (.lst x) ∧ x.length = n := by
  obtain ⟨a, X, e, ⟨rs, ha, gv⟩, lX, _⟩ := h
  cases e
  exact ⟨_, ha, by rw [List.length_map, gv.len, lX]⟩
theorem ok_holds {f fT fE fI fS fO : Addr} {fd fdT fdE fdI fdS fdO : FuncData} (B : BltF mg) (BR : BltR mg) (F : Fun K "_law_holds" "_law_holds" sHolds f fd)
    (DT : Dn K mg "tables_of_steps" sTables ["web", "steps"] fT fdT) (GT : FnOk P w K mg base CX0 9 fT fdT ["web", "steps"] (spTables K))
    (DE : Dn K mg "_law_entry" sEntry aEntry fE fdE) (GE : FnOk P w K mg base CX0 4 fE fdE aEntry (spEntry K))
    (DI : Dn K mg "_law_is_fraction" sIsF ["_law_found"] fI fdI) (GI : FnOk P w K mg base CX0 2 fI fdI ["_law_found"] spIsF)
    (DS : Dn K mg "_law_sum" sLSum ["_law_table"] fS fdS) (GS : FnOk P w K mg base CX0 4 fS fdS ["_law_table"] spLSum)
    (DO : Dn K mg "steps_total" sTotal ["web", "steps"] fO fdO) (GO : FnOk P w K mg base CX0 9 fO fdO ["web", "steps"] (spTotal K)) : FnOk P w K mg base CX0 10 f fd ["_law_web_here", "_law_steps_here"] (spHolds K) := by
  refine F.ok scH (fun vs H Q E h => ?_) (fun cdv A outer s H vs Q E hr h => ?_)
  · obtain ⟨wA, a, ss, hs, M, n, rfl, _⟩ := h
    rfl
  · obtain ⟨wA, a, ss, hs, M, n, rfl, hW, h0, h8, k⟩ := h
    have r2 := hr.mono (j := 2) (by decide)
    have r4 := hr.mono (j := 4) (by decide)
    refine ⟨_, pss_cons (ps_set (i := 2) scH.nd rfl (Or.inr rfl) (pe_fn DT GT hr rfl (pa_cons (pv 0) (pa_cons (pv 1) pa_nil))))
      (pss_cons (ps_if (PW.pt (pw_or (pt_not (pt_val (pe_callB call_isinst (by rfl) B.isi boot_isinstance (pa_cons (pv 2) (pa_cons (pe_bltn (v := .ty "list") rfl B.list boot_list rfl) pa_nil))))) (pw_or1 (pt_cmpR op_ne (pe_callB call_len_seq (by rfl) B.len PySem.boot_len (pa_cons (pv 2) pa_nil)) (pe_callB call_len_seq (by rfl) B.len PySem.boot_len (pa_cons (pv 1) pa_nil)) (nomark _))))) (pss_one (ps_ret pe_bl)) pss_nil)
      (pss_cons (ps_set (i := 3) scH.nd rfl (Or.inr rfl) (pe_callTy (call_list_rng rfl) (by rfl) B.list boot_list (pa_cons (pe_callTy call_range1v (by rfl) B.range boot_range (pa_cons (pe_callB call_len_seq (by rfl) B.len PySem.boot_len (pa_cons (pe_ix ix_tup (pv 0) pe_int (fun _ _ => rfl)) pa_nil)) pa_nil)) pa_nil)))
      (pss_mid (ps_for PassesOwn.never rfl (pi_zip rfl BR.zip (pa_cons (pv 1) (pa_cons (pv 2) pa_nil))) (pg_tup rfl (pgs_cons (pg_name (i := 4) scH.nd rfl (Or.inr rfl)) (pgs_cons (pg_name (i := 5) scH.nd rfl (Or.inl rfl)) pgs_nil)))
        (pss_cons (ps_if (pt_cmpR (op_neD hr.units) (pv 5) (pe_lc rfl lcH1 rfl (pi_list (pv 3)) (fun _ _ _ => pe_lc1 rfl lcH2 rfl (pi_listK (K := K) (pv 3)) (fun _ _ _ => pe_fn DE GE r4 rfl (pa_cons (pv 0) (pa_cons (pv 4) (pa_cons (pv 2) (pa_cons (pv 8) (pa_cons (pv 9) pa_nil)))))))) (nomark _)) (pss_one (ps_ret pe_bl)) pss_nil)
        (pss_one (ps_for PassesOwn.never rfl (pi_list (pv 5)) (pg_name (i := 6) scH.nd rfl (Or.inl rfl))
          (pss_one (ps_if (pt_cmpR (op_neD hr.units) (pe_lcs rfl lcH3 rfl (pi_list (pv 6)) (pg_one lcH3) (fun _ _ _ => pts_one (pt_not (pt_val (pe_fn DI GI r2 rfl (pa_cons (pv 8) pa_nil))))) (fun _ _ _ => pv 8)) (pe_lst pa_nil) (nomark _)) (pss_one (ps_ret pe_bl)) pss_nil))))))
      (pss_cons (ps_set (i := 7) scH.nd rfl (Or.inl rfl) (pe_fn DS GS r4 rfl (pa_cons (pe_ix ix_list (pv 2) (pe_un un_neg pe_int) (fun _ _ => rfl)) pa_nil)))
      (pss_cons (ps_if (pt_cmpR (op_neD hr.units) (pe_fn DO GO hr rfl (pa_cons (pv 0) (pa_cons (pv 1) pa_nil))) (pv 7) (nomark _)) (pss_one (ps_ret pe_bl)) pss_nil)
      (pss_cons (ps_for PassesOwn.never rfl (pi_list (pv 2)) (pg_name (i := 5) scH.nd rfl (Or.inl rfl))
        (pss_one (ps_expr (pe_bm PySem.F.plainAttrs_list PySem.F.slot_list_append PySem.F.type_list_append mt_append (pv 5) (pa_cons (pe_lst (pa_cons (pe_tup (pa_cons pe_int (pa_cons pe_int pa_nil))) pa_nil)) pa_nil)))))
      (pss_one (ps_ret (pe_cmpR (op_eqD hr.units) (pe_fn DS GS r4 rfl (pa_cons (pe_ix ix_list (pe_fn DT GT hr rfl (pa_cons (pv 0) (pa_cons (pv 1) pa_nil))) (pe_un un_neg pe_int) (fun _ _ => rfl)) pa_nil)) (pv 7) (nomark _)))))))))), ?_⟩
    have few := hW.mo.few
    have nn : n * n ≤ 256 := Nat.mul_le_mul few few
    obtain ⟨vs, ha, hd⟩ := hW.st
    have lv := das_len hd
    rw [List.length_map] at lv
    obtain ⟨hA, rA, rs, w1, w2, w3, RR⟩ := hW.wr.ex
    refine ⟨_, rfl, _, rfl, wA, a, ss, hs, M, n, rfl, hW, fun R H1 s1 hM shr => ?_⟩
    obtain ⟨bs, eR, lb, nR, hb⟩ := hM
    have lbr : (bs.map V.ref).length = ss.length := by rw [List.length_map, lb]
    refine ⟨_, rfl, _, _, _, true, rfl, .lst eR, kitLL, _, rfl, iteF ?_⟩
    refine ⟨_, rfl, R, _, rfl, .inl (SqL.of eR), _, rfl, a, _, rfl, .inl (SqL.of (s1 _ _ ha)), rfl, _, rfl, ?_⟩
    refine iteNS (by rw [lbr, lv]) ?_
    refine ⟨_, rfl, wA, _, _, _, rfl, rfl, SqT.of (s1 _ _ w1), rfl, hA, _, rfl, .inl (SqL.of (s1 _ _ w2)), ?_⟩
    rw [List.length_map, hW.mo.hl]
    refine ⟨(n : Int), rfl, fun rA' hrA => ⟨rA', n, rfl, upd_same, by omega, fun lA hlA => ?_⟩⟩
    have s2 : Same H1 (L2.upd (L2.upd H1 rA' (.rng 0 (n : Int))) lA (.lst ((List.range n).map fun (i : Nat) => V.int (i : Int)))) := (Same.upd hrA).trans (Same.upd hlA)
    have e2 : L2.upd (L2.upd H1 rA' (.rng 0 (n : Int))) lA (.lst ((List.range n).map fun (i : Nat) => V.int (i : Int))) lA = some (.lst ((List.range n).map fun (i : Nat) => V.int (i : Int))) := upd_same
    generalize L2.upd (L2.upd H1 rA' (.rng 0 (n : Int))) lA (.lst ((List.range n).map fun (i : Nat) => V.int (i : Int))) = H2 at s2 e2 ⊢
    have s02 := s1.trans s2
    have lr : ((List.range n).map fun (i : Nat) => V.int (i : Int)).length = n := by rw [List.length_map, List.length_range]
    have gr : ∀ {i : Nat} {x : V}, ((List.range n).map fun (i : Nat) => V.int (i : Int))[i]? = some x → i < n ∧ x = .int (i : Int) := fun {i x} h => by
      have hi : i < n := by rw [← lr]; exact lt_get h
      rw [List.getElem?_map, List.getElem?_range hi] at h
      exact ⟨hi, (Option.some.inj h).symm⟩
    refine ⟨fun σ H' => ∃ o4 o5 o6 : Option V, σ = [some (.ref wA), some (.ref a), some (.ref R), some (.ref lA), o4, o5, o6, none] ∧ Same H2 H', ?_, ?_⟩
    · refine ⟨_, rfl, _, rfl, a, R, rfl, ⟨_, SqL.of (s02 _ _ ha)⟩, ⟨_, SqL.of (s2 _ _ eR)⟩, ?_⟩
      refine for_zip (K := K) (xs := vs) (ys := bs.map V.ref) (by rw [lbr, lv]) (fun i σ H' => ∃ o4 o5 o6 : Option V, σ = [some (.ref wA), some (.ref a), some (.ref R), some (.ref lA), o4, o5, o6, none] ∧ Same H2 H') ⟨none, none, none, rfl, Same.refl _⟩ (fun i σ H' _ ⟨_, _, _, _, s'⟩ => ⟨SqL.of (s' _ _ (s02 _ _ ha)), SqL.of (s' _ _ (s2 _ _ eR))⟩) ?_ ?_
      · rintro i x y tA σ H3 hx hy ⟨o4, o5, o6, rfl, s3⟩ htA
        obtain ⟨t, et, dt⟩ := das_st hd hx
        obtain ⟨b, eb, rfl⟩ := map_get hy
        obtain ⟨_, _, tb⟩ := hb i b eb
        have ezs := szs_at hW.ok et
        have ems := mns_at hW.ok hs M et
        have li := lt_get et
        refine ⟨tA, _, rfl, SqT.of upd_same, rfl, _, _, rfl, _, _, rfl, rfl, ?_⟩
        have s4 : Same H3 (upd H3 tA (.tup [x, .ref b])) := Same.upd htA
        generalize upd H3 tA (.tup [x, .ref b]) = H4 at s4 ⊢
        have s24 := s3.trans s4
        have s14 := s2.trans s24
        have s04 := s1.trans s14
        have tb4 := tb.mono s14
        rw [getD_of ems] at tb4
        have en : EnW K H4 wA R x t hs M n i (szs ss) (mns hs M ss) := ⟨hW.wr.mono s04, hW.mo, dt.mono s04.keep (fun _ _ => trivial), hW.ok i t et, ⟨bs, s14 _ _ eR, by omega, fun j b' e' => (hb j b' e').2.2.mono s14⟩, fun j hj => shr j (by omega), (by have := shr i li; rw [getD_of ezs, getD_of ems] at this; exact this), hW.few _ (List.mem_of_getElem? ezs)⟩
        refine ⟨_, rfl, _, rfl, lA, rfl, ⟨_, SqL.of (s24 _ _ e2)⟩, fun D hD => ?_⟩
        refine lc_tabM n (mnOf hs M (mns hs M ss) t) lr (by omega) hD (SqL.of (s24 _ _ e2)) ?_ ?_ ?_
        · intro u x' H5 hx' s5
          obtain ⟨hu, rfl⟩ := gr hx'
          have e25 := s5 _ _ (s24 _ _ e2)
          refine ⟨_, rfl, lA, rfl, ⟨_, SqL.of e25⟩, fun D2 hD2 => ?_⟩
          refine lc_frM (fun j => mnOf hs M (mns hs M ss) t (u * n + j)) (by omega) hD2 (SqL.of e25) ?_ ?_ ?_
          · intro j y' H6 hy' s6
            obtain ⟨hj, rfl⟩ := gr hy'
            exact ⟨_, rfl, _, rfl, _, rfl, _, rfl, _, rfl, wA, R, x, t, hs, M, n, i, szs ss, mns hs M ss, u, j, rfl, en.mono (s5.trans s6), hu, hj, fun z H7 s7 fz => ⟨s7, fz⟩⟩
          · intro ys H6 s6 eD ly hv
            exact ⟨s6, D2, rfl, hD2, ys, eD, by rw [ly, lr], hv⟩
          · rintro σ H' Q1 Q2 hq ⟨v1, e1, v2, e2, v3, e3, v4, e4', v5, e5, c1, c2, c3, c4, c5, c6, c7, c8, c9, c10, c11, c12, a1, a2, a3, a4, g⟩
            exact ⟨v1, e1, v2, e2, v3, e3, v4, e4', v5, e5, c1, c2, c3, c4, c5, c6, c7, c8, c9, c10, c11, c12, a1, a2, a3, a4, fun u H1 s f => hq _ _ (g u H1 s f)⟩
        · intro H5 s5 T5
          obtain ⟨y1, y2⟩ := lay_T n (mnOf hs M (mns hs M ss) t)
          refine ⟨_, _, (tb4.mono s5).da, T5.da, ⟨y1, y1, by omega⟩, _, rfl, ?_⟩
          rw [PySem.SeqAt.eqv_refl _ y1]
          refine iteF ?_
          obtain ⟨_, X, e0, ⟨rs', g1, g2⟩, lX, hX⟩ := tb4.mono s5
          cases e0
          refine ⟨_, rfl, b, rfl, ⟨_, SqL.of g1⟩, for_list (xs := rs'.map V.ref) (fun j σ H' => ∃ o6 : Option V, σ = [some (.ref wA), some (.ref a), some (.ref R), some (.ref lA), some x, some (.ref b), o6, none] ∧ Same H5 H') ⟨_, rfl, Same.refl _⟩ (fun j σ H' _ ⟨_, _, s'⟩ => SqL.of (s' _ _ g1)) ?_ ?_⟩
          · rintro j z σ H6 hz' ⟨o, rfl, s6⟩
            obtain ⟨r, er, rfl⟩ := map_get hz'
            obtain ⟨x', ex⟩ := get_lt (l := X) (i := j) (by rw [← g2.len]; exact lt_get er)
            have e6 := s6 _ _ (g2.row j r x' er ex)
            refine ⟨_, rfl, r, rfl, ⟨_, SqL.of e6⟩, ?_⟩
            refine lc_none rfl (SqL.of e6) ?_ ?_
            · intro u H7 Rr hu s7 hR
              obtain ⟨m, hm⟩ := List.mem_iff_getElem?.mp hu
              obtain ⟨p, x', y', rfl, hp, q0, hg⟩ := isFr_of ((((hX j x' ex).2 m u hm).mono s6).mono s7)
              exact ⟨_, rfl, p, x', y', rfl, hp, q0, hg, _, rfl, hR⟩
            · intro D' H7 s7 eD'
              exact nil_ne eD' fun H8 s8 => ⟨_, rfl, iteF ⟨_, rfl, (s6.trans s7).trans s8⟩⟩
          · rintro σ H6 ⟨o, rfl, s6⟩
            exact ⟨_, _, _, rfl, (s24.trans s5).trans s6⟩
        · rintro σ H' Q1 Q2 hq ⟨v, e, a, e2, e3, g⟩
          exact ⟨v, e, a, e2, e3, fun D hD => let ⟨W, m0, st⟩ := g D hD; ⟨W, m0, fun i m ys H' hw => let ⟨a1, a2⟩ := st i m ys H' hw; ⟨a1, a2.imp (fun ⟨b1, b2⟩ => ⟨b1, hq _ _ b2⟩) id⟩⟩⟩
      · rintro σ H3 ⟨o4, o5, o6, rfl, s3⟩
        exact ⟨o4, o5, o6, rfl, s3⟩
    rintro σ H3 ⟨o4, o5, o6, rfl, s3⟩
    have s13 := s2.trans s3
    have s03 := s1.trans s13
    obtain ⟨bv, hbv, at1⟩ := at_end (vals := bs.map V.ref) (by omega)
    obtain ⟨b, eb, rfl⟩ := map_get hbv
    rw [lbr] at eb
    obtain ⟨_, _, tb⟩ := hb _ b eb
    have shl := shr (ss.length - 1) (by omega)
    have szl := Nat.le_trans (few_at hW.few (ss.length - 1)) (by decide : 1400 ≤ 1500)
    refine ⟨_, rfl, _, rfl, R, _, _, _, rfl, rfl, SqL.of (s13 _ _ eR), at1, b, n, _, _, rfl, tb.mono s13, few, szl, shl, fun tot H4 s4 ft => ?_⟩
    have s04 := s03.trans s4
    refine ⟨_, rfl, _, rfl, wA, a, ss, hs, M, n, rfl, hW.mono s04, h0, fun u H5 s5 fu => ?_⟩
    obtain ⟨z1, z2⟩ := lay_Q (sm ((mns hs M ss).getD (ss.length - 1) F0) (n * n))
    refine ⟨_, rfl, _, _, fu.da, (ft.mono s5).da, ⟨z1, z1, by omega⟩, _, rfl, ?_⟩
    rw [PySem.SeqAt.eqv_refl _ z1]
    refine iteF ?_
    have s15 := (s13.trans s4).trans s5
    have s05 := s04.trans s5
    have own : ∀ b' ∈ bs, ∃ x, H5 b' = some (.lst x) ∧ x.length = n := fun b' hb' => by
      obtain ⟨j, ej⟩ := List.mem_iff_getElem?.mp hb'
      exact ((hb j b' ej).2.2.mono s15).lst
    have nRb : R ∉ bs := fun z => by
      obtain ⟨j, ej⟩ := List.mem_iff_getElem?.mp z
      exact (hb j R ej).2.1 rfl
    refine ⟨_, rfl, R, rfl, ⟨_, SqL.of (s15 _ _ eR)⟩, for_list (xs := bs.map V.ref) (fun j σ H' => ∃ o5 : Option V, σ = [some (.ref wA), some (.ref a), some (.ref R), some (.ref lA), o4, o5, o6, some tot] ∧ ButL bs H5 H' ∧ ∀ b' ∈ bs, ∃ x, H' b' = some (.lst x) ∧ x.length ≤ n + j) ⟨o5, rfl, fun _ _ _ e => e, fun b' hb' => let ⟨x, ex, lx⟩ := own b' hb'; ⟨x, ex, by omega⟩⟩ (fun j σ H' _ ⟨_, _, b', _⟩ => SqL.of (b' _ _ nRb (s15 _ _ eR))) ?_ ?_⟩
    · rintro j z σ H6 hz' ⟨o, rfl, bu, own'⟩
      obtain ⟨b', eb', rfl⟩ := map_get hz'
      have mb := List.mem_of_getElem? eb'
      have lj : j < ss.length := by rw [← lb]; exact lt_get eb'
      obtain ⟨x, ex, lx⟩ := own' b' mb
      refine ⟨_, rfl, .inl ⟨rfl, _, SqL.of ex⟩, (by show 2 ≤ sizeLine; decide), fun t1 ht1 => ?_⟩
      have s7 : Same H6 (L2.upd H6 t1 (.tup [.int 5, .int 1])) := Same.upd ht1
      generalize L2.upd H6 t1 (.tup [.int 5, .int 1]) = H7 at s7 ⊢
      refine ⟨(by show 1 ≤ sizeLine; decide), fun l1 hl1 => ?_⟩
      have s8 : Same H7 (L2.upd H7 l1 (.lst [.ref t1])) := Same.upd hl1
      generalize L2.upd H7 l1 (.lst [.ref t1]) = H8 at s8 ⊢
      have s68 := s7.trans s8
      refine ⟨b', x, _, rfl, rfl, s68 _ _ ex, small1000 (by omega), ?_⟩
      refine ⟨_, rfl, fun c o nc e => ?_, fun b2 hb2 => ?_⟩
      · rw [upd_ne (fun (z : c = b') => nc (by rw [z]; exact mb))]
        exact s68 _ _ (bu c o nc e)
      · by_cases c : b2 = b'
        · refine ⟨x ++ [_], by rw [c, upd_same], ?_⟩
          rw [List.length_append, List.length_singleton]
          omega
        · obtain ⟨x2, e2', l2⟩ := own' b2 hb2
          exact ⟨x2, by rw [upd_ne c]; exact s68 _ _ e2', by omega⟩
    · rintro σ H6 ⟨o, rfl, bu, own'⟩
      have s06 : Same H H6 := fun c o e => bu c o (fun z => by
        obtain ⟨j, ej⟩ := List.mem_iff_getElem?.mp z
        rw [(hb j c ej).1] at e
        cases e) (s05 c o e)
      have ft6 := (ft.mono s5).but bu fun b' hb' => let ⟨x, ex, _⟩ := own b' hb'; ⟨x, ex⟩
      refine ⟨_, rfl, _, rfl, wA, a, ss, hs, M, n, rfl, hW.mono s06, fun R2 H7 s7 hM2 shr2 => ?_⟩
      obtain ⟨bs2, eR2, lb2, nR2, hb2⟩ := hM2
      obtain ⟨bv2, hbv2, at2⟩ := at_end (vals := bs2.map V.ref) (by rw [List.length_map]; omega)
      obtain ⟨b2, eb2, rfl⟩ := map_get hbv2
      rw [List.length_map, lb2] at eb2
      refine ⟨_, rfl, R2, _, _, _, rfl, rfl, SqL.of eR2, at2, b2, n, _, _, rfl, (hb2 _ b2 eb2).2.2, few, szl, shl, fun u2 H8 s8 fu2 => ?_⟩
      refine ⟨_, rfl, _, _, fu2.da, ((ft6.mono s7).mono s8).da, ⟨z1, z1, by omega⟩, ?_⟩
      rw [PySem.SeqAt.eqv_refl _ z1]
      exact k H8 ((s06.trans s7).trans s8)
end
section
variable {P : Program} {w : World} {K : PySem.W.Frag} {mg : Str → Option Value} {base : Heap}
open TM Q6
def spLaw (K : PySem.W.Frag) : Sp := fun vs H Q _ => ∃ (a : Addr) (ns : List Int), vs = [.ref a] ∧ SqL K H a (ns.map V.int) ∧ ns.length ≤ 63 ∧ ∀ H', Q (.bl true) H'
theorem cut_ints (ns : List Int) (lo hi : Option Int) : ∃ ms : List Int, cutV (ns.map V.int) lo hi = ms.map V.int ∧ ms.length ≤ ns.length := by
  unfold cutV
  rw [← List.map_drop, ← List.map_take]
  exact ⟨_, rfl, by rw [List.length_take, List.length_drop]; omega⟩
theorem But.same {d : Addr} {H0 H H' : Hp} (s : Same H0 H) (hd : H0 d = none) (b : But d H H') : Same H0 H' := fun c o e => b c o (ne_of_none e (by exact hd)) (s c o e)
theorem sq_mok {n : Nat} {hs : List Int} {M : List (List Int)} (hl : hs.length = n) (sq : Sq n M) (hn : n ≤ 16) : TM.MOk n hs M := by
  refine ⟨hl, sq.len, fun x hx => ?_, hn⟩
  obtain ⟨i, hi, e⟩ := List.getElem_of_mem hx
  obtain ⟨a, b⟩ := sq.row i x (by rw [List.getElem?_eq_getElem hi, e])
  exact ⟨a, b⟩
theorem sOkL (k : Lf) : PyData.strOk k.word = true := by
  cases k with
  | hue c => exact (by decide +kernel : PyData.strOk "hue" = true)
  | _ => decide +kernel
theorem sOkU (k : Un) : PyData.strOk k.word = true := by
  cases k with
  | many a b => exact (by decide +kernel : PyData.strOk "many" = true)
  | _ => decide +kernel
theorem sOkB (k : Bi) : PyData.strOk k.word = true := by cases k <;> decide +kernel
theorem lay_st (t : Stp) : t.dat.canLay0 = true ∧ t.dat.depth ≤ 3 := by
  cases t with
  | lf k => cases k <;> simp [Stp.dat, Stp.rest, Stp.nums, Stp.nd, Nd.word, Lf.rest, PyData.canLay0, PyData.canLayAll0, PyData.depth, PyData.depthAll, sOkL]
  | turned i => simp [Stp.dat, Stp.rest, Stp.nums, Stp.nd, Nd.word, PyData.canLay0, PyData.canLayAll0, PyData.depth, PyData.depthAll, sOkU]
  | many a b i => simp [Stp.dat, Stp.rest, Stp.nums, Stp.nd, Nd.word, PyData.canLay0, PyData.canLayAll0, PyData.depth, PyData.depthAll, sOkU]
  | two k i j => simp [Stp.dat, Stp.rest, Stp.nums, Stp.nd, Nd.word, PyData.canLay0, PyData.canLayAll0, PyData.depth, PyData.depthAll, sOkB]
def dB (hs : List Int) (M : List (List Int)) (ss : List Stp) : PyData := .list [dI hs, .list (M.map dI), .list (ss.map Stp.dat)]
theorem lay_dB (hs : List Int) (M : List (List Int)) (ss : List Stp) : (dB hs M ss).canLay0 = true ∧ (dB hs M ss).depth ≤ 6 := by
  obtain ⟨h1, h2⟩ := lay_rows M
  obtain ⟨a1, a2⟩ := lay_dI hs
  obtain ⟨b1, b2⟩ := lay_all Stp.dat 3 ss fun t _ => lay_st t
  unfold dB
  simp only [PyData.canLay0, PyData.canLayAll0, PyData.depth, PyData.depthAll, h1, a1, b1, Bool.and_self, true_and]
  omega
theorem cut_take (us : List V) {h : Nat} (hh : h ≤ us.length) : cutV us none (some (h : Int)) = us.take h := by
  have e : us = us.take h ++ us.drop h := (List.take_append_drop h us).symm
  have l : (us.take h).length = h := by rw [List.length_take]; omega
  have := cut_ahead (us.take h) (us.drop h)
  rw [l, ← e] at this
  exact this
theorem das_take {ok : Addr → Prop} {H : Hp} : ∀ (h : Nat) {vs : List V} {ds : List PyData}, DAs K ok H vs ds → DAs K ok H (vs.take h) (ds.take h)
  | 0, _, _, _ => .nil
  | _ + 1, _, _, .nil => .nil
  | h + 1, _, _, .cons a r => .cons a (das_take h r)
abbrev nLaw : List Str := ["_law_script", "_law_cell", "_law_draw", "_law_web_here", "_law_steps_here", "_law_beside", "_law_half"]
theorem scLaw : FnScope nLaw ["_law_script"] (defScope sLaw) := ⟨rfl, rfl, rfl, by decide +kernel, rfl, by decide +kernel, by decide +kernel⟩
def lstAt (e : Expr) (i : Nat) : Expr := match e with
  | .List es _ => es.getD i (.Constant .none 0 ⟨0, 0, 0, 0⟩)
  | _ => .Constant .none 0 ⟨0, 0, 0, 0⟩
theorem lcLaw : LcScopes (defScope sLaw) nLaw (lcScope (lstAt (asgVal (forBody (bodyAt sLaw 0) 3)) 1)) ["_law_row"] := ⟨by decide +kernel, rfl, by decide +kernel, by decide +kernel, by decide +kernel, by decide +kernel, by decide +kernel, by decide +kernel, by decide +kernel, by decide +kernel⟩
theorem ok_law {f fB fW fT fSs fL fH fO fTb fS : Addr} {fd fdB fdW fdT fdSs fdL fdH fdO fdTb fdS : FuncData} (B : BltF mg) (F : Fun K "law" "law" sLaw f fd)
    (DB : Dn K mg "_law_begun" sBegun ["_law_cell"] fB fdB) (GB : FnOk P w K mg base CX0 1 fB fdB ["_law_cell"] spBegun)
    (DW : Dn K mg "_law_web" sWeb ["_law_draw", "_law_most"] fW fdW) (GW : FnOk P w K mg base CX0 4 fW fdW ["_law_draw", "_law_most"] spWeb)
    (DT : Dn K mg "_law_take" sTake ["_law_draw", "_law_most"] fT fdT) (GT : FnOk P w K mg base CX0 2 fT fdT ["_law_draw", "_law_most"] spTake)
    (DSs : Dn K mg "_law_steps" sSteps ["_law_draw", "_law_many"] fSs fdSs) (GSs : FnOk P w K mg base CX0 5 fSs fdSs ["_law_draw", "_law_many"] (spSteps K))
    (DL : Dn K mg "look_at_steps" sLook ["steps"] fL fdL) (GL : FnOk P w K mg base CX0 3 fL fdL ["steps"] (spLook K))
    (DH : Dn K mg "_law_holds" sHolds ["_law_web_here", "_law_steps_here"] fH fdH) (GH : FnOk P w K mg base CX0 10 fH fdH ["_law_web_here", "_law_steps_here"] (spHolds K))
    (DO : Dn K mg "steps_total" sTotal ["web", "steps"] fO fdO) (GO : FnOk P w K mg base CX0 9 fO fdO ["web", "steps"] (spTotal K))
    (DTb : Dn K mg "tables_of_steps" sTables ["web", "steps"] fTb fdTb) (GTb : FnOk P w K mg base CX0 9 fTb fdTb ["web", "steps"] (spTables K))
    (DS : Dn K mg "_law_sum" sLSum ["_law_table"] fS fdS) (GS : FnOk P w K mg base CX0 4 fS fdS ["_law_table"] spLSum) :
    FnOk P w K mg base CX0 11 f fd ["_law_script"] (spLaw K) := by
  refine F.ok scLaw (fun vs H Q E h => ?_) (fun cdv A outer s H vs Q E hr h => ?_)
  · obtain ⟨a, ns, rfl, _⟩ := h
    rfl
  · obtain ⟨a, ns, rfl, hS, hlen, k⟩ := h
    have r1 := hr.mono (j := 1) (by decide)
    have r2 := hr.mono (j := 2) (by decide)
    have r3 := hr.mono (j := 3) (by decide)
    have r4 := hr.mono (j := 4) (by decide)
    have r5 := hr.mono (j := 5) (by decide)
    have r9 := hr.mono (j := 9) (by decide)
    refine ⟨_, pss_cons (ps_for PassesOwn.never rfl (pi_list (pe_op op_cat (pe_slice sl_list (pv 0) po_none (po_some pe_int)) (pe_lst (pa_cons pe_int pa_nil)))) (pg_name (i := 1) scLaw.nd rfl (Or.inl rfl))
        (pss_cons (ps_set (i := 2) scLaw.nd rfl (Or.inl rfl) (pe_fn DB GB r1 rfl (pa_cons (pv 1) pa_nil)))
        (pss_cons (ps_set (i := 3) scLaw.nd rfl (Or.inl rfl) (pe_fn DW GW r4 rfl (pa_cons (pv 2) (pa_cons pe_int pa_nil))))
        (pss_cons (ps_set (i := 4) scLaw.nd rfl (Or.inl rfl) (pe_fn DSs GSs r5 rfl (pa_cons (pv 2) (pa_cons (pe_op op_add pe_int (pe_fn DT GT r2 rfl (pa_cons (pv 2) (pa_cons pe_int pa_nil)))) pa_nil))))
        (pss_cons (ps_set (i := 5) scLaw.nd rfl (Or.inl rfl) (pe_lst (pa_cons (pe_callTy call_list_of (by rfl) B.list boot_list (pa_cons (pe_ix ix_tup (pv 3) pe_int (fun _ _ => rfl)) pa_nil)) (pa_cons (pe_lc1 rfl lcLaw rfl (pi_list (pe_ix ix_tup (pv 3) pe_int (fun _ _ => rfl))) (fun _ _ _ => pe_callTy (call_list_ofK (K := K)) (by rfl) B.list boot_list (pa_cons (pv 7) pa_nil))) (pa_cons (pe_callTy call_list_of (by rfl) B.list boot_list (pa_cons (pv 4) pa_nil)) pa_nil)))))
        (pss_cons (ps_if (PW.pt (pw_or (pt_cmpR op_notN (pe_fn DL GL r3 rfl (pa_cons (pv 4) pa_nil)) pe_non (nomark _)) (pw_or1 (pt_not (pt_val (pe_fn DH GH hr rfl (pa_cons (pv 3) (pa_cons (pv 4) pa_nil)))))))) (pss_one (ps_ret pe_bl)) pss_nil)
        (pss_cons (ps_set (i := 6) scLaw.nd rfl (Or.inl rfl) (pe_op op_fdiv (pe_op op_add (pe_callB call_len_seq (by rfl) B.len PySem.boot_len (pa_cons (pv 4) pa_nil)) pe_int) pe_int))
        (pss_cons (ps_if (pt_cmpR (op_neD hr.units) (pe_fn DO GO r9 rfl (pa_cons (pv 3) (pa_cons (pe_slice sl_list (pv 4) po_none (po_some (pv 6))) pa_nil))) (pe_fn DS GS r4 rfl (pa_cons (pe_ix ix_list (pe_fn DTb GTb r9 rfl (pa_cons (pv 3) (pa_cons (pv 4) pa_nil))) (pe_op op_sub (pv 6) pe_int) (fun _ _ => rfl)) pa_nil)) (nomark _)) (pss_one (ps_ret pe_bl)) pss_nil)
        (pss_one (ps_if (pt_cmpR (op_neD hr.units) (pe_lst (pa_cons (pe_ix ix_tup (pv 3) pe_int (fun _ _ => rfl)) (pa_cons (pe_ix ix_tup (pv 3) pe_int (fun _ _ => rfl)) (pa_cons (pv 4) pa_nil)))) (pv 5) (nomark _)) (pss_one (ps_ret pe_bl)) pss_nil))))))))))
      (pss_one (ps_ret pe_bl)), ?_⟩
    obtain ⟨ms, em, lm⟩ := cut_ints ns none (some 2)
    refine ⟨_, rfl, 2, rfl, a, _, rfl, hS, fun p0 hp0 => ?_⟩
    rw [em]
    have s0 : Same H (L2.upd H p0 (.lst (ms.map V.int))) := Same.upd hp0
    have e0 : L2.upd H p0 (.lst (ms.map V.int)) p0 = some (.lst (ms.map V.int)) := upd_same
    generalize L2.upd H p0 (.lst (ms.map V.int)) = Ha at s0 e0 ⊢
    refine ⟨(by show 1 ≤ sizeLine; decide), fun p1 hp1 => ?_⟩
    have s1 : Same Ha (L2.upd Ha p1 (.lst [.int 0])) := Same.upd hp1
    have e1 : L2.upd Ha p1 (.lst [.int 0]) p1 = some (.lst [.int 0]) := upd_same
    generalize L2.upd Ha p1 (.lst [.int 0]) = Hb at s1 e1 ⊢
    refine ⟨p0, p1, _, _, rfl, rfl, s1 _ _ e0, e1, Nat.le_of_lt (small1000 (by rw [List.length_map]; show ms.length + 1 ≤ 1000; omega)), fun L hL => ?_⟩
    have ec : ms.map V.int ++ [V.int 0] = (ms ++ [0]).map V.int := by rw [List.map_append]; rfl
    rw [ec]
    have e2 : L2.upd Hb L (.lst ((ms ++ [0]).map V.int)) L = some (.lst ((ms ++ [0]).map V.int)) := upd_same
    generalize L2.upd Hb L (.lst ((ms ++ [0]).map V.int)) = Hc at e2 ⊢
    refine ⟨L, rfl, ⟨_, SqL.of e2⟩, for_list (xs := (ms ++ [0]).map V.int) (fun i σ H' => ∃ (o1 o2 o3 o4 o5 o6 : Option V), σ = [some (.ref a), o1, o2, o3, o4, o5, o6] ∧ Same Hc H') ⟨none, none, none, none, none, none, rfl, Same.refl _⟩ (fun i σ H' _ ⟨_, _, _, _, _, _, _, sH⟩ => SqL.of (sH _ _ e2)) ?_ ?_⟩
    · rintro i x σ H1 hx ⟨o1, o2, o3, o4, o5, o6, rfl, sH⟩
      obtain ⟨c, hc, rfl⟩ := map_get hx
      refine ⟨_, rfl, c, rfl, fun d H2 hd s2 dd => ?_⟩
      refine ⟨_, rfl, d, 4, 1, rfl, by decide, by decide, dd, by decide, fun H3 p hA rA rs m hs M hm hB3 hD3 hW hfr n1 n2 n3 => ?_⟩
      have t3 : Same H1 H3 := But.same s2 hd hB3
      have hm5 : m ≤ 4 := by omega
      have mo : MOk m hs M := sq_mok hW.len hW.sq (by omega)
      refine ⟨_, rfl, _, rfl, d, 12, 201, rfl, by decide, by decide, hD3, by decide, fun r H4 r0 r1' hB4 D4 => ?_⟩
      obtain ⟨r, rfl⟩ := Int.eq_ofNat_of_zero_le r0
      refine ⟨_, _, rfl, rfl, ?_⟩
      have er : (1 : Int) + (r : Int) = ((r + 1 : Nat) : Int) := by omega
      refine ⟨d, r + 1, 203, (by show [V.ref d, V.int ((1 : Int) + (r : Int))] = _; rw [er]), by omega, D4, by decide, fun S ss H5 hB5 nS hst hok hfw lss => ?_⟩
      have b35 : But d H3 H5 := hB4.trans hB5
      have t5 : Same H1 H5 := fun b o e => b35 b o (ne_of_none e hd) (t3 b o e)
      have w1 : H5 p = some (.tup [.ref hA, .ref rA]) := b35 _ _ (hfr p (by simp)).2 hW.tup
      have w2 : H5 hA = some (.lst (hs.map V.int)) := b35 _ _ (hfr hA (by simp)).2 hW.hue
      have w3 : H5 rA = some (.lst (rs.map V.ref)) := b35 _ _ (hfr rA (by simp)).2 hW.rws
      have R5 : RowsAt H5 rs M := hW.row.keep fun r' hr' o e => b35 r' o (hfr r' (by simp [hr'])).2 e
      have wr5 : WR H5 p hs M := ⟨hA, rA, rs, w1, w2, w3, R5⟩
      have sw : StW K H5 p S ss hs M m := ⟨wr5, mo, hst, hok, hfw, by omega⟩
      obtain ⟨us, eS, dS⟩ := hst
      have lu := das_len dS
      rw [List.length_map] at lu
      clear hB4 hB5 b35 hW hfr D4 hD3 n1 n2 n3 t3
      refine ⟨_, rfl, p, _, _, _, rfl, rfl, SqT.of w1, rfl, hA, _, rfl, .inl (SqL.of w2), fun pA hpA => ?_⟩
      have s6 : Same H5 (L2.upd H5 pA (.lst (hs.map V.int))) := Same.upd hpA
      have e6 : L2.upd H5 pA (.lst (hs.map V.int)) pA = some (.lst (hs.map V.int)) := upd_same
      generalize L2.upd H5 pA (.lst (hs.map V.int)) = H6 at s6 e6 ⊢
      refine ⟨_, rfl, p, _, _, _, rfl, rfl, SqT.of (s6 _ _ w1), rfl, rA, rfl, ⟨_, SqL.of (s6 _ _ w3)⟩, fun D hD => ?_⟩
      have R6 : RowsAt H6 rs M := R5.keep fun r _ o e => s6 r o e
      refine lc_rows (xs := rs.map V.ref) M (by rw [List.length_map, R6.len]) (by rw [List.length_map, R6.len, mo.ml]; omega) hD (SqL.of (s6 _ _ w3)) ?_ ?_ ?_
      · intro i' x' row H7 hx' hrow s7
        obtain ⟨r, hr1, rfl⟩ := map_get hx'
        have er := s7 _ _ (R6.row i' r row hr1 hrow)
        exact ⟨_, rfl, r, _, rfl, .inl (SqL.of er), fun l hl' => ⟨l, rfl, Same.upd hl', hl', upd_same⟩⟩
      · intro rs1 H7 s7 eD R7 f7
        have s57 := s6.trans s7
        refine ⟨_, rfl, S, _, rfl, .inl (SqL.of (s57 _ _ eS)), fun sA hsA => ?_⟩
        have s8 : Same H7 (L2.upd H7 sA (.lst us)) := Same.upd hsA
        have e8 : L2.upd H7 sA (.lst us) sA = some (.lst us) := upd_same
        generalize L2.upd H7 sA (.lst us) = H8 at s8 e8 ⊢
        refine ⟨(by show 3 ≤ sizeLine; decide), fun bA hbA => ?_⟩
        have s9 : Same H8 (L2.upd H8 bA (.lst [.ref pA, .ref D, .ref sA])) := Same.upd hbA
        have e9 : L2.upd H8 bA (.lst [.ref pA, .ref D, .ref sA]) bA = some (.lst [.ref pA, .ref D, .ref sA]) := upd_same
        generalize L2.upd H8 bA (.lst [.ref pA, .ref D, .ref sA]) = H9 at s9 e9 ⊢
        have s59 := (s57.trans s8).trans s9
        have dB9 : DA K any H9 (.ref bA) (dB hs M ss) := by
          have s79 := s8.trans s9
          exact .lst trivial (SqL.of e9) (.cons (daI trivial (SqL.of (s79 _ _ (s7 _ _ e6)))) (.cons (.lst trivial (SqL.of (s79 _ _ eD)) (das_rows R7.len fun i r x h1 h2 => s79 _ _ (R7.row i r x h1 h2))) (.cons (.lst trivial (SqL.of (s9 _ _ e8)) (DAs.mono s59.keep (fun _ _ => trivial) dS)) .nil)))
        have sw9 := sw.mono s59
        refine ⟨_, rfl, S, ss, rfl, sw9.st, hok, fun H10 s10 => ?_⟩
        refine ⟨rfl, _, rfl, iteF ?_⟩
        have sw10 := sw9.mono s10
        refine ⟨_, rfl, _, rfl, p, S, ss, hs, M, m, rfl, sw10, by omega, by omega, fun H11 s11 => ⟨_, rfl, iteF ?_⟩⟩
        have s911 := s10.trans s11
        have s511 := s59.trans s911
        have sw11 := sw.mono s511
        refine ⟨_, rfl, S, _, rfl, .inl (SqL.of (s511 _ _ eS)), _, _, rfl, rfl, _, _, rfl, rfl, ⟨by decide, by decide⟩, ?_⟩
        have eh : (((us.length : Nat) : Int) + 1) / 2 = (((ss.length + 1) / 2 : Nat) : Int) := by rw [lu]; omega
        obtain ⟨h, hh⟩ : ∃ h, h = (ss.length + 1) / 2 := ⟨_, rfl⟩
        rw [← hh] at eh
        have h1 : 1 ≤ h := by omega
        have h2 : h ≤ ss.length := by omega
        refine ⟨_, rfl, _, rfl, _, rfl, (h : Int), (by show V.int ((((us.length : Nat) : Int) + 1) / 2) = _; rw [eh]), S, _, rfl, SqL.of (s511 _ _ eS), fun qA hqA => ?_⟩
        rw [cut_take us (by omega)]
        have s12 : Same H11 (L2.upd H11 qA (.lst (us.take h))) := Same.upd hqA
        have e12 : L2.upd H11 qA (.lst (us.take h)) qA = some (.lst (us.take h)) := upd_same
        generalize L2.upd H11 qA (.lst (us.take h)) = H12 at s12 e12 ⊢
        have s512 := s511.trans s12
        have lt : (ss.take h).length = h := by rw [List.length_take]; omega
        have swh : StW K H12 p qA (ss.take h) hs M m := ⟨wr5.mono s512, mo, ⟨_, e12, by rw [List.map_take]; exact das_take h (DAs.mono s512.keep (fun _ _ => trivial) dS)⟩, hok.take h, hfw.take h, by omega⟩
        refine ⟨p, qA, ss.take h, hs, M, m, rfl, swh, by omega, fun u H13 s13 fu => ?_⟩
        have s513 := s512.trans s13
        refine ⟨_, rfl, _, rfl, p, S, ss, hs, M, m, rfl, sw.mono s513, fun R H14 s14 hM shr => ?_⟩
        obtain ⟨bs, eR, lb, nR, hb⟩ := hM
        obtain ⟨b, eb⟩ := get_lt (l := bs) (i := h - 1) (by omega)
        have ei : (h : Int) - 1 = ((h - 1 : Nat) : Int) := by omega
        refine ⟨_, rfl, _, _, rfl, rfl, R, _, _, .ref b, rfl, rfl, SqL.of eR, by show atI _ ((((us.length : Nat) : Int) + 1) / 2 - 1) = _; rw [eh, ei]; exact at_ref eb, ?_⟩
        refine ⟨b, m, _, _, rfl, (hb _ b eb).2.2, by omega, Nat.le_trans (few_at hfw (h - 1)) (by decide), shr (h - 1) (by omega), fun u2 H15 s15 fu2 => ?_⟩
        rw [lt] at fu
        have ef : (mns hs M (ss.take h)).getD (h - 1) F0 = (mns hs M ss).getD (h - 1) F0 := by
          unfold mns
          rw [grow_take]
          exact getD_take _ F0 (by omega)
        rw [ef] at fu
        obtain ⟨z1, z2⟩ := lay_Q (sm ((mns hs M ss).getD (h - 1) F0) (m * m))
        refine ⟨_, _, ((fu.mono s14).mono s15).da, fu2.da, ⟨z1, z1, by omega⟩, _, rfl, ?_⟩
        rw [PySem.SeqAt.eqv_refl _ z1]
        refine iteF ?_
        have s1315 := s14.trans s15
        have s515 := s513.trans s1315
        have s915 : Same H9 H15 := ((s911.trans s12).trans s13).trans s1315
        refine ⟨_, rfl, p, _, _, _, rfl, rfl, SqT.of (s515 _ _ w1), rfl, _, rfl, p, _, _, _, rfl, rfl, SqT.of (s515 _ _ w1), rfl, _, rfl, (by show 3 ≤ sizeLine; decide), fun cA hcA => ?_⟩
        have s16 : Same H15 (L2.upd H15 cA (.lst [.ref hA, .ref rA, .ref S])) := Same.upd hcA
        have e16 : L2.upd H15 cA (.lst [.ref hA, .ref rA, .ref S]) cA = some (.lst [.ref hA, .ref rA, .ref S]) := upd_same
        generalize L2.upd H15 cA (.lst [.ref hA, .ref rA, .ref S]) = H16 at s16 e16 ⊢
        have s516 := s515.trans s16
        obtain ⟨y1, y2⟩ := lay_dB hs M ss
        refine ⟨_, rfl, dB hs M ss, dB hs M ss, .lst trivial (SqL.of e16) (.cons (daI trivial (SqL.of (s516 _ _ w2))) (.cons (.lst trivial (SqL.of (s516 _ _ w3)) (das_rows R5.len fun i r x h1 h2 => s516 _ _ (R5.row i r x h1 h2))) (.cons (.lst trivial (SqL.of (s516 _ _ eS)) (DAs.mono s516.keep (fun _ _ => trivial) dS)) .nil))), dB9.mono (s915.trans s16).keep (fun _ _ => trivial), ⟨y1, y1, by omega⟩, _, rfl, ?_⟩
        rw [PySem.SeqAt.eqv_refl _ y1]
        exact iteF ⟨_, _, _, _, _, _, rfl, sH.trans (t5.trans s516)⟩
      · rintro σ H' Q1 Q2 hq ⟨v, e, p', ys, a1, a2, g⟩
        exact ⟨v, e, p', ys, a1, a2, fun l hl' => hq _ _ (g l hl')⟩
    · rintro σ H1 ⟨o1, o2, o3, o4, o5, o6, rfl, sH⟩
      exact k H1
end
structure At (K : PySem.W.Frag) (x : Str) (st : Stmt) (f : Addr) (fd : FuncData) : Prop where
  fn : Fun K x x st f fd
  ns : PySem.W.nsIn K mainGlobals x = some (some (.ref f))
theorem at_mk {K : PySem.W.Frag} {x : Str} {st : Stmt} {f : Addr} {oc : Value} {od an : Option Addr} {osl : Array (Option Value)} {kV doc pm cdv ct : Value} (a : PySem.W.nsIn K mainGlobals x = some (some (.ref f))) (l : K.lookup f = some ⟨oc, od, .func (PySem.W.fnOf x x (defArgs st) (defBody st) (defScope st) .none kV doc pm an cdv ct), osl⟩)
    (c : PySem.W.codeIn K cdv x = true) (k : PySem.W.keepIn K (.ref f) = true) : ∃ f fd, At K x st f fd := ⟨f, _, fun_mk l c k, a⟩
theorem kit_ref {K : PySem.W.Frag} {CN C : Addr} {cd : ClassData} {b : Bool} (h0 : (Value.ref CN == Value.ref C) = false) (h1 : PySem.W.clsIn K C = some cd) (h2 : PySem.W.typeIn K (.ref C) = some (.type "type")) (h3 : PySem.W.subIn K (.ref CN) (.ref C) = some b) : PySem.W.kitOne K (.ref CN) (.ref C) = some b := by
  unfold PySem.W.kitOne PySem.W.kitCls
  rw [if_neg (by rw [h0]; decide)]
  show (if ((PySem.W.clsIn K C).isSome && PySem.W.typeIn K (.ref C) == some (.type "type")) = true then PySem.W.subIn K (.ref CN) (.ref C) else none) = some b
  rw [h1, h2, h3]
  rfl
theorem kit_ty {K : PySem.W.Frag} {CN : Addr} {T : String} {b : Bool} (h0 : (Value.ref CN == Value.type T) = false) (h1 : PySem.W.kitMeta T = true) (h3 : PySem.W.subIn K (.ref CN) (.type T) = some b) : PySem.W.kitOne K (.ref CN) (.type T) = some b := by
  unfold PySem.W.kitOne PySem.W.kitCls
  rw [if_neg (by rw [h0]; decide)]
  show (if PySem.W.kitMeta T = true then PySem.W.subIn K (.ref CN) (.type T) else none) = some b
  rw [if_pos h1, h3]
theorem all_mk {l : PySem.W.OpenLaw} {w : World} {K : PySem.W.Frag} {h : Heap} {mg : Str → Option Value} {fa fL : Addr} (X : K.In h) (G : h.Ns mainGlobals mg) (hfa : mg "law" = some (.ref fa)) (A0 : ∃ f fd, At K "column_of" sCol f fd) (A1 : ∃ f fd, At K "columns_of" sCols f fd) (A2 : ∃ f fd, At K "sum_of_products" sDot f fd) (A3 : ∃ f fd, At K "sums_with_each" sEach f fd) (A4 : ∃ f fd, At K "product_of_grids" sProd f fd) (A5 : ∃ f fd, At K "in_one_list" sInOne f fd) (A6 : ∃ f fd, At K "in_square" sInSq f fd) (A7 : ∃ f fd, At K "greatest_divisor" sGd f fd) (A8 : ∃ f fd, At K "fraction_of" sFr f fd) (A9 : ∃ f fd, At K "inner_terms" sInner f fd) (A10 : ∃ f fd, At K "shared_by_all" sAll f fd) (A11 : ∃ f fd, At K "lowered" sLowered f fd) (A12 : ∃ f fd, At K "one_by_one_product" sBothRow f fd) (A13 : ∃ f fd, At K "one_by_one_sum" sPlusRow f fd) (A14 : ∃ f fd, At K "many_times" sManyRow f fd) (A15 : ∃ f fd, At K "one_then_other" sThen f fd) (A16 : ∃ f fd, At K "tops_where_same" sWhereSame f fd) (A17 : ∃ f fd, At K "tops_of_leaf" sLeaf f fd) (A18 : ∃ f fd, At K "tops_from_one" sFromOne f fd) (A19 : ∃ f fd, At K "value_from_two" sFromTwo f fd) (A20 : ∃ f fd, At K "value_by_kind" sByKind f fd) (A21 : ∃ f fd, At K "shared_by_any" sAny f fd) (A22 : ∃ f fd, At K "fractions_of_value" sFrv f fd) (A23 : ∃ f fd, At K "total_of_value" sTov f fd) (A24 : ∃ f fd, At K "_law_whole" sWhole f fd) (A25 : ∃ f fd, At K "_law_mix" sMix f fd) (A26 : ∃ f fd, At K "_law_begun" sBegun f fd) (A27 : ∃ f fd, At K "_law_take" sTake f fd) (A28 : ∃ f fd, At K "_law_weight" sWeight f fd) (A29 : ∃ f fd, At K "_law_web" sWeb f fd) (A30 : ∃ f fd, At K "_law_divisor" sDiv f fd) (A31 : ∃ f fd, At K "_law_is_fraction" sIsF f fd) (A32 : ∃ f fd, At K "_law_lowest" sLow f fd) (A33 : ∃ f fd, At K "_law_plus" sPlus f fd) (A34 : ∃ f fd, At K "_law_times" sTimes f fd) (A35 : ∃ f fd, At K "_law_fraction" sFrac f fd) (A36 : ∃ f fd, At K "named_by" sNamed f fd) (A37 : ∃ f fd, At K "look_at_steps" sLook f fd) (A38 : ∃ f fd, At K "value_of_step" sValStep f fd) (A39 : ∃ f fd, At K "values_of_steps" sVals f fd) (A40 : ∃ f fd, At K "tables_of_steps" sTables f fd) (A41 : ∃ f fd, At K "steps_total" sTotal f fd) (A42 : ∃ f fd, At K "_law_step" sStep f fd) (A43 : ∃ f fd, At K "_law_steps" sSteps f fd) (A44 : ∃ f fd, At K "_law_entry" sEntry f fd) (A45 : ∃ f fd, At K "_law_sum" sLSum f fd) (A46 : ∃ f fd, At K "_law_holds" sHolds f fd)
    {aT : Addr} (aTn : PySem.W.nsIn K mainGlobals "INNER_TERMS" = some (some (.ref aT))) (tbl : PyProof.Rows.KTD.tabLook (PyProof.Rows.KTD.datLooks fun b => K.lookup b) (fun b => K.lookup b) aT (tabD inTab) = true)
    {oc kV doc pm cdv ct : Value} {od an : Option Addr} {osl : Array (Option Value)} (aL : PySem.W.nsIn K mainGlobals "law" = some (some (.ref fL))) (lL : K.lookup fL = some ⟨oc, od, .func (PySem.W.fnOf "law" "law" (defArgs sLaw) (defBody sLaw) (defScope sLaw) .none kV doc pm an cdv ct), osl⟩) (cL : PySem.W.codeIn K cdv "law" = true) (kL : PySem.W.keepIn K (.ref fL) = true)
    (z_range : PySem.W.nsIn K mainGlobals "range" = some none) (z_int : PySem.W.nsIn K mainGlobals "int" = some none) (z_abs : PySem.W.nsIn K mainGlobals "abs" = some none) (z_len : PySem.W.nsIn K mainGlobals "len" = some none) (z_sum : PySem.W.nsIn K mainGlobals "sum" = some none) (z_zip : PySem.W.nsIn K mainGlobals "zip" = some none) (z_isinstance : PySem.W.nsIn K mainGlobals "isinstance" = some none) (z_bool : PySem.W.nsIn K mainGlobals "bool" = some none) (z_tuple : PySem.W.nsIn K mainGlobals "tuple" = some none) (z_list : PySem.W.nsIn K mainGlobals "list" = some none) (z_enumerate : PySem.W.nsIn K mainGlobals "enumerate" = some none) :
    ∃ fd : FuncData, (∀ (s : Shared) (v : Value), BindsTo s fd ⟨[v], []⟩ [("_law_script", v)]) ∧ ∀ base : Heap, K.In base → base.Ns mainGlobals mg → FnOk l.prog w K mg base CX0 11 fa fd ["_law_script"] (spLaw K) := by
  have e := hfa.symm.trans (PySem.W.mg_of X G aL)
  cases e
  obtain ⟨f0, fd0, T0⟩ := A0
  have D0 : Dn K mg "column_of" sCol ["rows", "place"] f0 fd0 := ⟨T0.fn, PySem.W.mg_of X G T0.ns, T0.fn.binds fun _ _ _ _ _ _ us hl => match us, hl with | [_, _], _ => rfl⟩
  obtain ⟨f1, fd1, T1⟩ := A1
  have D1 : Dn K mg "columns_of" sCols ["rows"] f1 fd1 := ⟨T1.fn, PySem.W.mg_of X G T1.ns, T1.fn.binds fun _ _ _ _ _ _ us hl => match us, hl with | [_], _ => rfl⟩
  obtain ⟨f2, fd2, T2⟩ := A2
  have D2 : Dn K mg "sum_of_products" sDot ["numbers", "others"] f2 fd2 := ⟨T2.fn, PySem.W.mg_of X G T2.ns, T2.fn.binds fun _ _ _ _ _ _ us hl => match us, hl with | [_, _], _ => rfl⟩
  obtain ⟨f3, fd3, T3⟩ := A3
  have D3 : Dn K mg "sums_with_each" sEach ["numbers", "rows"] f3 fd3 := ⟨T3.fn, PySem.W.mg_of X G T3.ns, T3.fn.binds fun _ _ _ _ _ _ us hl => match us, hl with | [_, _], _ => rfl⟩
  obtain ⟨f4, fd4, T4⟩ := A4
  have D4 : Dn K mg "product_of_grids" sProd ["rows", "others"] f4 fd4 := ⟨T4.fn, PySem.W.mg_of X G T4.ns, T4.fn.binds fun _ _ _ _ _ _ us hl => match us, hl with | [_, _], _ => rfl⟩
  obtain ⟨f5, fd5, T5⟩ := A5
  have D5 : Dn K mg "in_one_list" sInOne ["rows"] f5 fd5 := ⟨T5.fn, PySem.W.mg_of X G T5.ns, T5.fn.binds fun _ _ _ _ _ _ us hl => match us, hl with | [_], _ => rfl⟩
  obtain ⟨f6, fd6, T6⟩ := A6
  have D6 : Dn K mg "in_square" sInSq ["things", "size"] f6 fd6 := ⟨T6.fn, PySem.W.mg_of X G T6.ns, T6.fn.binds fun _ _ _ _ _ _ us hl => match us, hl with | [_, _], _ => rfl⟩
  obtain ⟨f7, fd7, T7⟩ := A7
  have D7 : Dn K mg "greatest_divisor" sGd ["number", "other"] f7 fd7 := ⟨T7.fn, PySem.W.mg_of X G T7.ns, T7.fn.binds fun _ _ _ _ _ _ us hl => match us, hl with | [_, _], _ => rfl⟩
  obtain ⟨f8, fd8, T8⟩ := A8
  have D8 : Dn K mg "fraction_of" sFr ["top", "bottom"] f8 fd8 := ⟨T8.fn, PySem.W.mg_of X G T8.ns, T8.fn.binds fun _ _ _ _ _ _ us hl => match us, hl with | [_, _], _ => rfl⟩
  obtain ⟨f9, fd9, T9⟩ := A9
  have D9 : Dn K mg "inner_terms" sInner ["term"] f9 fd9 := ⟨T9.fn, PySem.W.mg_of X G T9.ns, T9.fn.binds fun _ _ _ _ _ _ us hl => match us, hl with | [_], _ => rfl⟩
  obtain ⟨f10, fd10, T10⟩ := A10
  have D10 : Dn K mg "shared_by_all" sAll ["divisor", "tops"] f10 fd10 := ⟨T10.fn, PySem.W.mg_of X G T10.ns, T10.fn.binds fun _ _ _ _ _ _ us hl => match us, hl with | [_, _], _ => rfl⟩
  obtain ⟨f11, fd11, T11⟩ := A11
  have D11 : Dn K mg "lowered" sLowered ["tops", "bottom"] f11 fd11 := ⟨T11.fn, PySem.W.mg_of X G T11.ns, T11.fn.binds fun _ _ _ _ _ _ us hl => match us, hl with | [_, _], _ => rfl⟩
  obtain ⟨f12, fd12, T12⟩ := A12
  have D12 : Dn K mg "one_by_one_product" sBothRow ["value", "other"] f12 fd12 := ⟨T12.fn, PySem.W.mg_of X G T12.ns, T12.fn.binds fun _ _ _ _ _ _ us hl => match us, hl with | [_, _], _ => rfl⟩
  obtain ⟨f13, fd13, T13⟩ := A13
  have D13 : Dn K mg "one_by_one_sum" sPlusRow ["value", "other"] f13 fd13 := ⟨T13.fn, PySem.W.mg_of X G T13.ns, T13.fn.binds fun _ _ _ _ _ _ us hl => match us, hl with | [_, _], _ => rfl⟩
  obtain ⟨f14, fd14, T14⟩ := A14
  have D14 : Dn K mg "many_times" sManyRow ["f", "value"] f14 fd14 := ⟨T14.fn, PySem.W.mg_of X G T14.ns, T14.fn.binds fun _ _ _ _ _ _ us hl => match us, hl with | [_, _], _ => rfl⟩
  obtain ⟨f15, fd15, T15⟩ := A15
  have D15 : Dn K mg "one_then_other" sThen ["size", "value", "other"] f15 fd15 := ⟨T15.fn, PySem.W.mg_of X G T15.ns, T15.fn.binds fun _ _ _ _ _ _ us hl => match us, hl with | [_, _, _], _ => rfl⟩
  obtain ⟨f16, fd16, T16⟩ := A16
  have D16 : Dn K mg "tops_where_same" sWhereSame ["tops"] f16 fd16 := ⟨T16.fn, PySem.W.mg_of X G T16.ns, T16.fn.binds fun _ _ _ _ _ _ us hl => match us, hl with | [_], _ => rfl⟩
  obtain ⟨f17, fd17, T17⟩ := A17
  have D17 : Dn K mg "tops_of_leaf" sLeaf ["web", "term"] f17 fd17 := ⟨T17.fn, PySem.W.mg_of X G T17.ns, T17.fn.binds fun _ _ _ _ _ _ us hl => match us, hl with | [_, _], _ => rfl⟩
  obtain ⟨f18, fd18, T18⟩ := A18
  have D18 : Dn K mg "tops_from_one" sFromOne ["web", "kind", "tops"] f18 fd18 := ⟨T18.fn, PySem.W.mg_of X G T18.ns, T18.fn.binds fun _ _ _ _ _ _ us hl => match us, hl with | [_, _, _], _ => rfl⟩
  obtain ⟨f19, fd19, T19⟩ := A19
  have D19 : Dn K mg "value_from_two" sFromTwo ["web", "kind", "value", "other"] f19 fd19 := ⟨T19.fn, PySem.W.mg_of X G T19.ns, T19.fn.binds fun _ _ _ _ _ _ us hl => match us, hl with | [_, _, _, _], _ => rfl⟩
  obtain ⟨f20, fd20, T20⟩ := A20
  have D20 : Dn K mg "value_by_kind" sByKind ["web", "term", "inner_values"] f20 fd20 := ⟨T20.fn, PySem.W.mg_of X G T20.ns, T20.fn.binds fun _ _ _ _ _ _ us hl => match us, hl with | [_, _, _], _ => rfl⟩
  obtain ⟨f21, fd21, T21⟩ := A21
  have D21 : Dn K mg "shared_by_any" sAny ["tops", "bottom"] f21 fd21 := ⟨T21.fn, PySem.W.mg_of X G T21.ns, T21.fn.binds fun _ _ _ _ _ _ us hl => match us, hl with | [_, _], _ => rfl⟩
  obtain ⟨f22, fd22, T22⟩ := A22
  have D22 : Dn K mg "fractions_of_value" sFrv ["value"] f22 fd22 := ⟨T22.fn, PySem.W.mg_of X G T22.ns, T22.fn.binds fun _ _ _ _ _ _ us hl => match us, hl with | [_], _ => rfl⟩
  obtain ⟨f23, fd23, T23⟩ := A23
  have D23 : Dn K mg "total_of_value" sTov ["value"] f23 fd23 := ⟨T23.fn, PySem.W.mg_of X G T23.ns, T23.fn.binds fun _ _ _ _ _ _ us hl => match us, hl with | [_], _ => rfl⟩
  obtain ⟨f24, fd24, T24⟩ := A24
  have D24 : Dn K mg "_law_whole" sWhole ["_law_found"] f24 fd24 := ⟨T24.fn, PySem.W.mg_of X G T24.ns, T24.fn.binds fun _ _ _ _ _ _ us hl => match us, hl with | [_], _ => rfl⟩
  obtain ⟨f25, fd25, T25⟩ := A25
  have D25 : Dn K mg "_law_mix" sMix ["_law_cell", "_law_k"] f25 fd25 := ⟨T25.fn, PySem.W.mg_of X G T25.ns, T25.fn.binds fun _ _ _ _ _ _ us hl => match us, hl with | [_, _], _ => rfl⟩
  obtain ⟨f26, fd26, T26⟩ := A26
  have D26 : Dn K mg "_law_begun" sBegun ["_law_cell"] f26 fd26 := ⟨T26.fn, PySem.W.mg_of X G T26.ns, T26.fn.binds fun _ _ _ _ _ _ us hl => match us, hl with | [_], _ => rfl⟩
  obtain ⟨f27, fd27, T27⟩ := A27
  have D27 : Dn K mg "_law_take" sTake ["_law_draw", "_law_most"] f27 fd27 := ⟨T27.fn, PySem.W.mg_of X G T27.ns, T27.fn.binds fun _ _ _ _ _ _ us hl => match us, hl with | [_, _], _ => rfl⟩
  obtain ⟨f28, fd28, T28⟩ := A28
  have D28 : Dn K mg "_law_weight" sWeight ["_law_draw", "_law_way"] f28 fd28 := ⟨T28.fn, PySem.W.mg_of X G T28.ns, T28.fn.binds fun _ _ _ _ _ _ us hl => match us, hl with | [_, _], _ => rfl⟩
  obtain ⟨f29, fd29, T29⟩ := A29
  have D29 : Dn K mg "_law_web" sWeb ["_law_draw", "_law_most"] f29 fd29 := ⟨T29.fn, PySem.W.mg_of X G T29.ns, T29.fn.binds fun _ _ _ _ _ _ us hl => match us, hl with | [_, _], _ => rfl⟩
  obtain ⟨f30, fd30, T30⟩ := A30
  have D30 : Dn K mg "_law_divisor" sDiv ["_law_one", "_law_other"] f30 fd30 := ⟨T30.fn, PySem.W.mg_of X G T30.ns, T30.fn.binds fun _ _ _ _ _ _ us hl => match us, hl with | [_, _], _ => rfl⟩
  obtain ⟨f31, fd31, T31⟩ := A31
  have D31 : Dn K mg "_law_is_fraction" sIsF ["_law_found"] f31 fd31 := ⟨T31.fn, PySem.W.mg_of X G T31.ns, T31.fn.binds fun _ _ _ _ _ _ us hl => match us, hl with | [_], _ => rfl⟩
  obtain ⟨f32, fd32, T32⟩ := A32
  have D32 : Dn K mg "_law_lowest" sLow ["_law_top", "_law_bottom"] f32 fd32 := ⟨T32.fn, PySem.W.mg_of X G T32.ns, T32.fn.binds fun _ _ _ _ _ _ us hl => match us, hl with | [_, _], _ => rfl⟩
  obtain ⟨f33, fd33, T33⟩ := A33
  have D33 : Dn K mg "_law_plus" sPlus ["_law_f", "_law_g"] f33 fd33 := ⟨T33.fn, PySem.W.mg_of X G T33.ns, T33.fn.binds fun _ _ _ _ _ _ us hl => match us, hl with | [_, _], _ => rfl⟩
  obtain ⟨f34, fd34, T34⟩ := A34
  have D34 : Dn K mg "_law_times" sTimes ["_law_f", "_law_g"] f34 fd34 := ⟨T34.fn, PySem.W.mg_of X G T34.ns, T34.fn.binds fun _ _ _ _ _ _ us hl => match us, hl with | [_, _], _ => rfl⟩
  obtain ⟨f35, fd35, T35⟩ := A35
  have D35 : Dn K mg "_law_fraction" sFrac ["_law_draw"] f35 fd35 := ⟨T35.fn, PySem.W.mg_of X G T35.ns, T35.fn.binds fun _ _ _ _ _ _ us hl => match us, hl with | [_], _ => rfl⟩
  obtain ⟨f36, fd36, T36⟩ := A36
  have D36 : Dn K mg "named_by" sNamed ["step"] f36 fd36 := ⟨T36.fn, PySem.W.mg_of X G T36.ns, T36.fn.binds fun _ _ _ _ _ _ us hl => match us, hl with | [_], _ => rfl⟩
  obtain ⟨f37, fd37, T37⟩ := A37
  have D37 : Dn K mg "look_at_steps" sLook ["steps"] f37 fd37 := ⟨T37.fn, PySem.W.mg_of X G T37.ns, T37.fn.binds fun _ _ _ _ _ _ us hl => match us, hl with | [_], _ => rfl⟩
  obtain ⟨f38, fd38, T38⟩ := A38
  have D38 : Dn K mg "value_of_step" sValStep ["web", "step", "values"] f38 fd38 := ⟨T38.fn, PySem.W.mg_of X G T38.ns, T38.fn.binds fun _ _ _ _ _ _ us hl => match us, hl with | [_, _, _], _ => rfl⟩
  obtain ⟨f39, fd39, T39⟩ := A39
  have D39 : Dn K mg "values_of_steps" sVals ["web", "steps"] f39 fd39 := ⟨T39.fn, PySem.W.mg_of X G T39.ns, T39.fn.binds fun _ _ _ _ _ _ us hl => match us, hl with | [_, _], _ => rfl⟩
  obtain ⟨f40, fd40, T40⟩ := A40
  have D40 : Dn K mg "tables_of_steps" sTables ["web", "steps"] f40 fd40 := ⟨T40.fn, PySem.W.mg_of X G T40.ns, T40.fn.binds fun _ _ _ _ _ _ us hl => match us, hl with | [_, _], _ => rfl⟩
  obtain ⟨f41, fd41, T41⟩ := A41
  have D41 : Dn K mg "steps_total" sTotal ["web", "steps"] f41 fd41 := ⟨T41.fn, PySem.W.mg_of X G T41.ns, T41.fn.binds fun _ _ _ _ _ _ us hl => match us, hl with | [_, _], _ => rfl⟩
  obtain ⟨f42, fd42, T42⟩ := A42
  have D42 : Dn K mg "_law_step" sStep ["_law_draw", "_law_sizes"] f42 fd42 := ⟨T42.fn, PySem.W.mg_of X G T42.ns, T42.fn.binds fun _ _ _ _ _ _ us hl => match us, hl with | [_, _], _ => rfl⟩
  obtain ⟨f43, fd43, T43⟩ := A43
  have D43 : Dn K mg "_law_steps" sSteps ["_law_draw", "_law_many"] f43 fd43 := ⟨T43.fn, PySem.W.mg_of X G T43.ns, T43.fn.binds fun _ _ _ _ _ _ us hl => match us, hl with | [_, _], _ => rfl⟩
  obtain ⟨f44, fd44, T44⟩ := A44
  have D44 : Dn K mg "_law_entry" sEntry ["_law_web_here", "_law_step_here", "_law_tables", "_law_u", "_law_v"] f44 fd44 := ⟨T44.fn, PySem.W.mg_of X G T44.ns, T44.fn.binds fun _ _ _ _ _ _ us hl => match us, hl with | [_, _, _, _, _], _ => rfl⟩
  obtain ⟨f45, fd45, T45⟩ := A45
  have D45 : Dn K mg "_law_sum" sLSum ["_law_table"] f45 fd45 := ⟨T45.fn, PySem.W.mg_of X G T45.ns, T45.fn.binds fun _ _ _ _ _ _ us hl => match us, hl with | [_], _ => rfl⟩
  obtain ⟨f46, fd46, T46⟩ := A46
  have D46 : Dn K mg "_law_holds" sHolds ["_law_web_here", "_law_steps_here"] f46 fd46 := ⟨T46.fn, PySem.W.mg_of X G T46.ns, T46.fn.binds fun _ _ _ _ _ _ us hl => match us, hl with | [_, _], _ => rfl⟩
  have FL := fun_mk (st := sLaw) lL cL kL
  have BW : BltW mg := ⟨PySem.W.mg_none_of X G z_range, PySem.W.mg_none_of X G z_int⟩
  have BR : BltR mg := ⟨PySem.W.mg_none_of X G z_abs, PySem.W.mg_none_of X G z_len, PySem.W.mg_none_of X G z_sum, PySem.W.mg_none_of X G z_zip, PySem.W.mg_none_of X G z_range, PySem.W.mg_none_of X G z_enumerate⟩
  have BF : BltF mg := ⟨PySem.W.mg_none_of X G z_abs, PySem.W.mg_none_of X G z_len, PySem.W.mg_none_of X G z_isinstance, PySem.W.mg_none_of X G z_int, PySem.W.mg_none_of X G z_bool, PySem.W.mg_none_of X G z_tuple, PySem.W.mg_none_of X G z_list, PySem.W.mg_none_of X G z_range⟩
  have gT := PySem.W.mg_of X G aTn
  have TB : TabK K aT inTab := ⟨tbl⟩
  refine ⟨PySem.W.fnOf "law" "law" (defArgs sLaw) (defBody sLaw) (defScope sLaw) .none kV doc pm an cdv ct, fun s v => .of_eq rfl, fun base _ _ => ?_⟩
  have GG := ok_gd (P := l.prog) (w := w) (base := base) BR D7.fn
  have GF := ok_fr BR D8.fn D7 GG
  have GI := ok_innerS (P := l.prog) (w := w) (base := base) BR gT TB D9.fn
  have GAl := ok_all D10.fn D7 GG
  have GL := ok_lowered D11.fn D10 GAl
  have GDo := ok_dot (P := l.prog) (w := w) (base := base) BR D2.fn
  have GEa := ok_eachG D3.fn D2 GDo
  have GCo := ok_col (P := l.prog) (w := w) (base := base) (mg := mg) D0.fn
  have GCs := ok_cols BR D1.fn D0 GCo
  have GOn := ok_inOne (P := l.prog) (w := w) (base := base) (mg := mg) D5.fn
  have GSq := ok_inSq (P := l.prog) (w := w) (base := base) BR D6.fn
  have GPd := ok_prod D4.fn D1 GCs D3 GEa
  have GBo := ok_both BR D12.fn D11 GL
  have GPr := ok_plusR BR D13.fn D11 GL
  have GMa := ok_many D14.fn D7 GG D10 GAl
  have GTh := ok_then D15.fn D4 GPd D6 GSq D5 GOn D11 GL
  have GWh := ok_where (P := l.prog) (w := w) (base := base) BR D16.fn
  have GLe := ok_leaf BR D17.fn D16 GWh D5 GOn
  have GFo := ok_fromOne BR D18.fn D3 GEa D16 GWh D6 GSq D1 GCs D5 GOn
  have GT2 := ok_two BR D19.fn D12 GBo D13 GPr D15 GTh
  have GK := ok_byKind BR D20.fn D17 GLe D18 GFo D19 GT2 D14 GMa
  have GAn := ok_any D21.fn D7 GG
  have GFv := ok_frv D22.fn D21 GAn D7 GG
  have GTv := ok_tov BR D23.fn D8 GF
  have GNa := ok_named D36.fn D9 GI
  have GLk := ok_look BR D37.fn D36 GNa
  have GVs := ok_valStep D38.fn D36 GNa D20 GK
  have GVl := ok_vals D39.fn D37 GLk D38 GVs
  have GTb := ok_tables BR D40.fn D39 GVl D22 GFv D6 GSq
  have GTo := ok_total D41.fn D39 GVl D23 GTv
  have GB := ok_begun (P := l.prog) (w := w) (base := base) (mg := mg) D26.fn
  have GTk := ok_take (P := l.prog) (w := w) (base := base) D27.fn D25
  have GWt := ok_weight D28.fn D27 GTk
  have GW := ok_web BW D29.fn D27 GTk D28 GWt
  have GIf := ok_isf (P := l.prog) (w := w) (base := base) BF D31.fn D24 D30
  have GLo := ok_low (P := l.prog) (w := w) (base := base) BF D32.fn D30
  have GPl := ok_plus D33.fn D32 GLo
  have GTi := ok_times D34.fn D32 GLo
  have GFr := ok_frac D35.fn D27 GTk D32 GLo
  have GSt := ok_step BF D42.fn D27 GTk D35 GFr
  have GSs := ok_steps BF D43.fn D42 GSt
  have GEn := ok_entry BF D44.fn D33 GPl D34 GTi
  have GSm := ok_lsum D45.fn D33 GPl
  have GHo := ok_holds BF BR D46.fn D40 GTb D44 GEn D31 GIf D45 GSm D41 GTo
  exact ok_law BF FL D26 GB D29 GW D27 GTk D43 GSs D37 GLk D46 GHo D41 GTo D40 GTb D45 GSm
theorem walk {l : PySem.W.OpenLaw} {q : Program} {loose : List Str} {XP : (Str → Option Value) → Heap → Prop} {YP : World → Heap → Prop} {d : DefRec} {K : Params → PySem.W.Frag} (hn : l.most = some 63) (hdf : d.params.defaults = [])
    (hY : ∀ (w : World) (h : Heap), YP w h → (K w.params).In h)
    (F : ∀ (w : World) (mg : Str → Option Value) (fa : Addr) (h : Heap), (K w.params).In h → h.Ns mainGlobals mg → mg d.name = some (.ref fa) →
      ∃ fd : FuncData, (∀ (s : Shared) (u : Value), BindsTo s fd ⟨[u], []⟩ [("_law_script", u)]) ∧ ∀ base : Heap, (K w.params).In base → base.Ns mainGlobals mg → FnOk l.prog w (K w.params) mg base CX0 11 fa fd ["_law_script"] (spLaw (K w.params))) :
    PySem.W.WalkO q loose XP YP l.row.toRowW d [] (fun f vs => PySem.call f vs) :=
  L2.walk_of (n := 63) (k := 11) (x := "_law_script") (CX := fun _ => CX0) (sp := fun w => spLaw (K w.params)) hn (by decide) hdf ⟨rfl, by decide, by decide⟩ hY F (fun _ _ a ns hl _ hS => ⟨a, ns, rfl, hS, hl, fun _ => rfl⟩) fun _ _ _ _ _ z => z
end My
open PySem PySem.W PyProof.Rows
noncomputable def PySem.W.Fast.tw7719714718392313995 : Unit := ()
noncomputable def PySem.W.Fast.tw1069880938016564757 : Unit := ()
noncomputable def PySem.W.Fast.tw16761412908727986032 : Unit := ()
noncomputable def PySem.W.Fast.tw11574220272360096464 : Unit := ()
set_option maxRecDepth 100000 in
set_option maxHeartbeats 0 in
theorem PySem.Challenge.cw_evenkin_k62_steps_reckoned_holds : PySem.Challenge.rw_evenkin_k62_steps_reckoned.Holds := by
  w_on; o_law; k_head; (case hw => w_witness2)
  k_fill
  refine My.walk (l := PySem.Challenge.rw_evenkin_k62_steps_reckoned) rfl rfl (fun w h Y => PySem.W.kIn_of Y) ?F
  case F =>
    intro w mg fa h KX G hmg
    refine' My.all_mk KX G hmg (My.at_mk ?a0 ?l0 ?c0 ?k0) (My.at_mk ?a1 ?l1 ?c1 ?k1) (My.at_mk ?a2 ?l2 ?c2 ?k2) (My.at_mk ?a3 ?l3 ?c3 ?k3) (My.at_mk ?a4 ?l4 ?c4 ?k4) (My.at_mk ?a5 ?l5 ?c5 ?k5) (My.at_mk ?a6 ?l6 ?c6 ?k6) (My.at_mk ?a7 ?l7 ?c7 ?k7) (My.at_mk ?a8 ?l8 ?c8 ?k8) (My.at_mk ?a9 ?l9 ?c9 ?k9) (My.at_mk ?a10 ?l10 ?c10 ?k10) (My.at_mk ?a11 ?l11 ?c11 ?k11) (My.at_mk ?a12 ?l12 ?c12 ?k12) (My.at_mk ?a13 ?l13 ?c13 ?k13) (My.at_mk ?a14 ?l14 ?c14 ?k14) (My.at_mk ?a15 ?l15 ?c15 ?k15) (My.at_mk ?a16 ?l16 ?c16 ?k16) (My.at_mk ?a17 ?l17 ?c17 ?k17) (My.at_mk ?a18 ?l18 ?c18 ?k18) (My.at_mk ?a19 ?l19 ?c19 ?k19) (My.at_mk ?a20 ?l20 ?c20 ?k20) (My.at_mk ?a21 ?l21 ?c21 ?k21) (My.at_mk ?a22 ?l22 ?c22 ?k22) (My.at_mk ?a23 ?l23 ?c23 ?k23) (My.at_mk ?a24 ?l24 ?c24 ?k24) (My.at_mk ?a25 ?l25 ?c25 ?k25) (My.at_mk ?a26 ?l26 ?c26 ?k26) (My.at_mk ?a27 ?l27 ?c27 ?k27) (My.at_mk ?a28 ?l28 ?c28 ?k28) (My.at_mk ?a29 ?l29 ?c29 ?k29) (My.at_mk ?a30 ?l30 ?c30 ?k30) (My.at_mk ?a31 ?l31 ?c31 ?k31) (My.at_mk ?a32 ?l32 ?c32 ?k32) (My.at_mk ?a33 ?l33 ?c33 ?k33) (My.at_mk ?a34 ?l34 ?c34 ?k34) (My.at_mk ?a35 ?l35 ?c35 ?k35) (My.at_mk ?a36 ?l36 ?c36 ?k36) (My.at_mk ?a37 ?l37 ?c37 ?k37) (My.at_mk ?a38 ?l38 ?c38 ?k38) (My.at_mk ?a39 ?l39 ?c39 ?k39) (My.at_mk ?a40 ?l40 ?c40 ?k40) (My.at_mk ?a41 ?l41 ?c41 ?k41) (My.at_mk ?a42 ?l42 ?c42 ?k42) (My.at_mk ?a43 ?l43 ?c43 ?k43) (My.at_mk ?a44 ?l44 ?c44 ?k44) (My.at_mk ?a45 ?l45 ?c45 ?k45) (My.at_mk ?a46 ?l46 ?c46 ?k46) ?aTn ?tbl ?aL ?lL ?cL ?kL ?z_range ?z_int ?z_abs ?z_len ?z_sum ?z_zip ?z_isinstance ?z_bool ?z_tuple ?z_list ?z_enumerate
    (case a0 => k_is); (case l0 => k_is); (case c0 => k_is); (case k0 => k_is)
    (case a1 => k_is); (case l1 => k_is); (case c1 => k_is); (case k1 => k_is)
    (case a2 => k_is); (case l2 => k_is); (case c2 => k_is); (case k2 => k_is)
    (case a3 => k_is); (case l3 => k_is); (case c3 => k_is); (case k3 => k_is)
    (case a4 => k_is); (case l4 => k_is); (case c4 => k_is); (case k4 => k_is)
    (case a5 => k_is); (case l5 => k_is); (case c5 => k_is); (case k5 => k_is)
    (case a6 => k_is); (case l6 => k_is); (case c6 => k_is); (case k6 => k_is)
    (case a7 => k_is); (case l7 => k_is); (case c7 => k_is); (case k7 => k_is)
    (case a8 => k_is); (case l8 => k_is); (case c8 => k_is); (case k8 => k_is)
    (case a9 => k_is); (case l9 => k_is); (case c9 => k_is); (case k9 => k_is)
    (case a10 => k_is); (case l10 => k_is); (case c10 => k_is); (case k10 => k_is)
    (case a11 => k_is); (case l11 => k_is); (case c11 => k_is); (case k11 => k_is)
    (case a12 => k_is); (case l12 => k_is); (case c12 => k_is); (case k12 => k_is)
    (case a13 => k_is); (case l13 => k_is); (case c13 => k_is); (case k13 => k_is)
    (case a14 => k_is); (case l14 => k_is); (case c14 => k_is); (case k14 => k_is)
    (case a15 => k_is); (case l15 => k_is); (case c15 => k_is); (case k15 => k_is)
    (case a16 => k_is); (case l16 => k_is); (case c16 => k_is); (case k16 => k_is)
    (case a17 => k_is); (case l17 => k_is); (case c17 => k_is); (case k17 => k_is)
    (case a18 => k_is); (case l18 => k_is); (case c18 => k_is); (case k18 => k_is)
    (case a19 => k_is); (case l19 => k_is); (case c19 => k_is); (case k19 => k_is)
    (case a20 => k_is); (case l20 => k_is); (case c20 => k_is); (case k20 => k_is)
    (case a21 => k_is); (case l21 => k_is); (case c21 => k_is); (case k21 => k_is)
    (case a22 => k_is); (case l22 => k_is); (case c22 => k_is); (case k22 => k_is)
    (case a23 => k_is); (case l23 => k_is); (case c23 => k_is); (case k23 => k_is)
    (case a24 => k_is); (case l24 => k_is); (case c24 => k_is); (case k24 => k_is)
    (case a25 => k_is); (case l25 => k_is); (case c25 => k_is); (case k25 => k_is)
    (case a26 => k_is); (case l26 => k_is); (case c26 => k_is); (case k26 => k_is)
    (case a27 => k_is); (case l27 => k_is); (case c27 => k_is); (case k27 => k_is)
    (case a28 => k_is); (case l28 => k_is); (case c28 => k_is); (case k28 => k_is)
    (case a29 => k_is); (case l29 => k_is); (case c29 => k_is); (case k29 => k_is)
    (case a30 => k_is); (case l30 => k_is); (case c30 => k_is); (case k30 => k_is)
    (case a31 => k_is); (case l31 => k_is); (case c31 => k_is); (case k31 => k_is)
    (case a32 => k_is); (case l32 => k_is); (case c32 => k_is); (case k32 => k_is)
    (case a33 => k_is); (case l33 => k_is); (case c33 => k_is); (case k33 => k_is)
    (case a34 => k_is); (case l34 => k_is); (case c34 => k_is); (case k34 => k_is)
    (case a35 => k_is); (case l35 => k_is); (case c35 => k_is); (case k35 => k_is)
    (case a36 => k_is); (case l36 => k_is); (case c36 => k_is); (case k36 => k_is)
    (case a37 => k_is); (case l37 => k_is); (case c37 => k_is); (case k37 => k_is)
    (case a38 => k_is); (case l38 => k_is); (case c38 => k_is); (case k38 => k_is)
    (case a39 => k_is); (case l39 => k_is); (case c39 => k_is); (case k39 => k_is)
    (case a40 => k_is); (case l40 => k_is); (case c40 => k_is); (case k40 => k_is)
    (case a41 => k_is); (case l41 => k_is); (case c41 => k_is); (case k41 => k_is)
    (case a42 => k_is); (case l42 => k_is); (case c42 => k_is); (case k42 => k_is)
    (case a43 => k_is); (case l43 => k_is); (case c43 => k_is); (case k43 => k_is)
    (case a44 => k_is); (case l44 => k_is); (case c44 => k_is); (case k44 => k_is)
    (case a45 => k_is); (case l45 => k_is); (case c45 => k_is); (case k45 => k_is)
    (case a46 => k_is); (case l46 => k_is); (case c46 => k_is); (case k46 => k_is)
    (case aTn => k_is)
    (case tbl => first | rfl | with_unfolding_all rfl | decide +kernel)
    (case aL => k_is); (case lL => k_is); (case cL => k_is); (case kL => k_is)
    (case z_range => k_is); (case z_int => k_is); (case z_abs => k_is); (case z_len => k_is); (case z_sum => k_is); (case z_zip => k_is); (case z_isinstance => k_is); (case z_bool => k_is); (case z_tuple => k_is); (case z_list => k_is); (case z_enumerate => k_is)
