import PyProof.Rows.All
import Wide.All
import OpenK.AllK
import Wide.FinOn
import Lean
import PyProof.EqAt
import PyProof.EqKinds
import PyProof.TupleCall
import KE.KSortTup
import KE.KSortAsk
import PySem.Challenge.RW_evenkin_k72_whole_coarsest_kinds
set_option Elab.async false
set_option linter.all false
set_option maxRecDepth 100000
namespace L2
open PySem PySem.Spec PyProof.Rows
abbrev Key := Sum Int Str
def keyIs : Key → Value → Bool
  | .inl k, v => Value.isInt k v
  | .inr x, v => Value.isStrOf x v
def keyH (w : World) : Key → Int
  | .inl k => hashInt k
  | .inr x => hashStr w x
theorem keyIs_shape : ∀ {k : Key} {v : Value}, keyIs k v = true → (∃ i t, k = Sum.inl i ∧ v = Value.int i t) ∨ (∃ x t, k = Sum.inr x ∧ v = Value.str x t)
  | .inl i, v, h => by
    obtain ⟨t, e⟩ := Value.isInt_shape (k := i) (v := v) h
    exact .inl ⟨i, t, rfl, e⟩
  | .inr x, v, h => by
    obtain ⟨t, e⟩ := Value.isStrOf_shape (x := x) (v := v) h
    exact .inr ⟨x, t, rfl, e⟩
theorem keyIs_int (i : Int) (t : Tok) : keyIs (.inl i) (.int i t) = true := by simp [keyIs, Value.isInt]
theorem keyIs_str (x : Str) (t : Tok) : keyIs (.inr x) (.str x t) = true := by simp [keyIs, Value.isStrOf]
theorem key_ll (a b : Int) : decide ((Sum.inl a : Key) = Sum.inl b) = (a == b) := by
  by_cases e : a = b
  · subst e; simp
  · have h : ¬ (Sum.inl a : Key) = Sum.inl b := fun q => e (Sum.inl.inj q)
    rw [decide_eq_false h]
    exact (beq_eq_false_iff_ne.mpr e).symm
theorem key_rr (a b : Str) : decide ((Sum.inr a : Key) = Sum.inr b) = decide (a = b) := by
  by_cases e : a = b
  · subst e; simp
  · have h : ¬ (Sum.inr a : Key) = Sum.inr b := fun q => e (Sum.inr.inj q)
    rw [decide_eq_false h, decide_eq_false e]
theorem key_lr (a : Int) (b : Str) : decide ((Sum.inl a : Key) = Sum.inr b) = false := decide_eq_false (fun q => nomatch q)
theorem key_rl (a : Str) (b : Int) : decide ((Sum.inr a : Key) = Sum.inl b) = false := decide_eq_false (fun q => nomatch q)
def mixKind (prog : Program) (w : World) : PySem.KeyKind prog w Key where
  is := keyIs
  hash := keyH w
  inj := fun v a b ha hb => by
    rcases keyIs_shape ha with ⟨i, t, rfl, rfl⟩ | ⟨x, t, rfl, rfl⟩
    · rcases keyIs_shape hb with ⟨j, u, rfl, e⟩ | ⟨y, u, rfl, e⟩
      · injection e with e1 _; rw [e1]
      · exact nomatch e
    · rcases keyIs_shape hb with ⟨j, u, rfl, e⟩ | ⟨y, u, rfl, e⟩
      · exact nomatch e
      · injection e with e1 _; rw [e1]
  byValue := fun k v h => by
    rcases keyIs_shape h with ⟨i, t, rfl, rfl⟩ | ⟨x, t, rfl, rfl⟩ <;> rfl
  pyHash := fun hv h => by
    rcases keyIs_shape hv with ⟨i, t, rfl, rfl⟩ | ⟨x, t, rfl, rfl⟩
    · exact wpAny_pyHash_int h
    · exact wpAny_pyHash_str h
  eqBool := fun hu hv h => by
    rcases keyIs_shape hu with ⟨i, t, rfl, rfl⟩ | ⟨x, t, rfl, rfl⟩
    · rcases keyIs_shape hv with ⟨j, u, rfl, rfl⟩ | ⟨y, u, rfl, rfl⟩
      · rw [key_ll] at h; exact wpAny_eqBool_int h
      · rw [key_lr] at h; exact SeqAt.EqAt.int_str i t y u _ _ _ _ h
    · rcases keyIs_shape hv with ⟨j, u, rfl, rfl⟩ | ⟨y, u, rfl, rfl⟩
      · rw [key_rl] at h; exact SeqAt.EqAt.str_int x t j u _ _ _ _ h
      · rw [key_rr] at h; exact wpAny_eqBool_str h
  «strs» := fun k x t v h => by
    rcases keyIs_shape h with ⟨i, u, rfl, e⟩ | ⟨y, u, rfl, e⟩
    · exact nomatch e
    · injection e with e1 _
      subst e1
      cases v <;> rfl
theorem mixKind_int (prog : Program) (w : World) (i : Int) (t : Tok) : (mixKind prog w).is (.inl i) (.int i t) = true := keyIs_int i t
theorem mixKind_str (prog : Program) (w : World) (x : Str) (t : Tok) : (mixKind prog w).is (.inr x) (.str x t) = true := keyIs_str x t
end L2
namespace L2
open PySem PySem.Spec PyProof.Rows
inductive V where
  | non | bl (b : Bool) | int (i : Int) | str (x : Str) | byt (b : Array UInt8) | flt (b : UInt64) | ref (a : Addr) | ty (n : String)
  deriving DecidableEq
def RelV : V → Value → Prop
  | .non, u => u = Value.none
  | .bl b, u => u = Value.bool b
  | .int i, u => ∃ t, u = Value.int i t
  | .str x, u => ∃ t, u = Value.str x t
  | .byt b, u => ∃ t, u = Value.bytes b t
  | .flt b, u => ∃ t, u = Value.float b t
  | .ref a, u => u = Value.ref a
  | .ty n, u => u = Value.type n
abbrev Vals : List V → List Value → Prop := Paired RelV
theorem Vals.length {xs : List V} {us : List Value} (r : Vals xs us) : xs.length = us.length := Paired.length r
theorem Vals.get : ∀ {xs : List V} {us : List Value} {i : Nat} {x : V}, Vals xs us → xs[i]? = some x → ∃ u, us[i]? = some u ∧ RelV x u
  | _, _, _, _, .nil, e => by simp at e
  | _, _, 0, _, .cons r _, e => by simp at e; subst e; exact ⟨_, rfl, r⟩
  | _, _, i + 1, x, .cons _ t, e => by
    obtain ⟨u, h1, h2⟩ := Vals.get (i := i) (x := x) t (by simpa using e)
    exact ⟨u, by simpa using h1, h2⟩
theorem Vals.set {x : V} {u : Value} (r : RelV x u) : ∀ {xs : List V} {us : List Value} (i : Nat), Vals xs us → Vals (xs.set i x) (us.set i u)
  | _, _, _, .nil => .nil
  | _, _, 0, .cons _ t => .cons r t
  | _, _, i + 1, .cons q t => .cons q (Vals.set r i t)
theorem Vals.append : ∀ {xs ys : List V} {us ws : List Value}, Vals xs us → Vals ys ws → Vals (xs ++ ys) (us ++ ws)
  | _, _, _, _, .nil, s => s
  | _, _, _, _, .cons r t, s => .cons r (Vals.append t s)
theorem Vals.take : ∀ {xs : List V} {us : List Value} (n : Nat), Vals xs us → Vals (xs.take n) (us.take n)
  | _, _, 0, _ => .nil
  | _, _, _ + 1, .nil => .nil
  | _, _, n + 1, .cons r t => .cons r (Vals.take n t)
theorem Vals.drop : ∀ {xs : List V} {us : List Value} (n : Nat), Vals xs us → Vals (xs.drop n) (us.drop n)
  | _, _, 0, r => r
  | _, _, _ + 1, .nil => .nil
  | _, _, n + 1, .cons _ t => Vals.drop n t
def RelO : Option V → Option Value → Prop
  | some v, some u => RelV v u
  | none, none => True
  | _, _ => False
def KV {κ : Type} : List (κ × V) → List (κ × Value) → Prop := Paired fun (p : κ × V) (q : κ × Value) => p.1 = q.1 ∧ RelV p.2 q.2
def kV : Key → V
  | .inl i => .int i
  | .inr x => .str x
inductive HO where
  | lst (xs : List V)
  | tup (xs : List V)
  | dK (kvs : List (Key × V)) | dT (kvs : List (List Key × V))
  | set (S : Int → Bool) (n : Nat)
  | ins (C dx : Addr) (fs : List (Str × V))
  | own (x : Addr)
  | xd (fs : List (Str × V))
  | met (f x : Addr)
  | rng (lo hi : Int)
  | frz (o : Obj) (u : HO)
  | tbl (ps : Array Value)
  | ext (φ : Heap → Prop)
abbrev Hp := Addr → Option HO
def upd (H : Hp) (a : Addr) (o : HO) : Hp := fun b => if b = a then some o else H b
theorem upd_same {H : Hp} {a : Addr} {o : HO} : upd H a o a = some o := by unfold upd; rw [if_pos rfl]
theorem upd_ne {H : Hp} {a b : Addr} {o : HO} (h : b ≠ a) : upd H a o b = H b := by unfold upd; rw [if_neg h]
theorem upd_upd {H : Hp} {a : Addr} {o u : HO} : upd (upd H a o) a u = upd H a u := by
  funext b; unfold upd; split <;> rfl
theorem ne_of {H : Hp} {a b : Addr} {o u : HO} (h : H a = some o) (h' : H b = some u) (d : o ≠ u) : a ≠ b := by
  intro e; subst e; rw [h] at h'; exact d (Option.some.inj h')
theorem ne_of_none {H : Hp} {a b : Addr} {o : HO} (h : H a = some o) (h' : H b = none) : a ≠ b := by
  intro e; subst e; rw [h] at h'; cases h'
section
variable (P : Program) (w : World)
def ObjOk (H : Hp) (h : Heap) (a : Addr) : HO → Prop
  | .lst xs => xs.length ≤ sizeLine ∧ ∃ (its : List Value) (n : Nat), Vals xs its ∧ h.get? a = some { cls := .type "list", data := .seq its.toArray n }
  | .tup xs => xs.length ≤ sizeLine ∧ ∃ its : List Value, Vals xs its ∧ IsTup h a its.toArray
  | .dK kvs => kvs.length ≤ sizeLine ∧ (a == sysModules) = false ∧ ∃ vs, KV kvs vs ∧ h.DictOf (mixKind P w) a vs
  | .dT kvs => kvs.length ≤ sizeLine ∧ (a == sysModules) = false ∧ ∃ xs : List (List Key × Addr × Value),
      Paired (fun (p : List Key × V) (q : List Key × Addr × Value) => p.1 = q.1 ∧ H q.2.1 = some (.tup (p.1.map kV)) ∧ RelV p.2 q.2.2) kvs xs ∧
      ∃ o es ep, h.get? a = some o ∧ o.ExactDict ∧ o.data = .dict es ep ∧ es.toList = xs.map (entryOfKey (tupleKind (mixKind P w))) ∧ (xs.map (·.1)).Nodup
  | .set S n => h.SetOf (intKind P w) a S n
  | .ins C dx fs => H dx = some (.own a) ∧ fs.length ≤ 1000 ∧ dx ≠ a ∧ h.get? a = some (PySem.W.instObj C dx) ∧
      ∃ mA, h.Ns1 dx mA ∧ (∀ f, RelO (fs.lookup f) (mA f)) ∧ PySem.Within mA (fs.map (·.1))
  | .own _ => ∃ o, h.get? a = some o
  | .xd fs => ∃ mA, h.Ns1 a mA ∧ ∀ f, RelO (fs.lookup f) (mA f)
  | .rng lo hi => ∃ t u v, h.get? a = some { cls := .type "range", data := .fields #[.int lo t, .int hi u, .int 1 v] }
  | .frz o u => h.get? a = some o ∧ ObjOk H h a u
  | .tbl ps => h.get? a = some { cls := .none, data := .fields ps }
  | .met f x => h.get? a = some (PySem.W.methodObj (.ref f) (.ref x))
  | .ext φ => φ h ∧ (∃ o, h.get? a = some o) ∧ ∀ h1 h2 : Heap, φ h1 → (∀ o, h1.get? a = some o → h2.get? a = some o) → φ h2
def HOk (H : Hp) (h : Heap) : Prop := ∀ a o, H a = some o → ObjOk P w H h a o
end
section
variable {P : Program} {w : World} {H H' : Hp} {h h' : Heap} {a : Addr} {o : HO}
theorem ObjOk.lt (x : ObjOk P w H h a o) : a < h.objs.size := by
  cases o with
  | lst xs => obtain ⟨_, _, _, _, e⟩ := x; exact Heap.lt_size e
  | tup xs => obtain ⟨_, _, _, p⟩ := x; exact p.lt
  | dK kvs => obtain ⟨_, _, _, _, o, _, _, e, _⟩ := x; exact Heap.lt_size e
  | dT kvs => obtain ⟨_, _, _, _, o, _, _, e, _⟩ := x; exact Heap.lt_size e
  | set S n => obtain ⟨o, _, _, _, e, _⟩ := x; exact Heap.lt_size e
  | ins C dx fs => obtain ⟨_, _, _, e, _⟩ := x; exact Heap.lt_size e
  | own y => obtain ⟨_, e⟩ := x; exact Heap.lt_size e
  | xd fs => obtain ⟨_, ⟨_, _, _, e, _⟩, _⟩ := x; exact Heap.lt_size e
  | rng lo hi => obtain ⟨_, _, _, e⟩ := x; exact Heap.lt_size e
  | frz ob u => obtain ⟨e, _⟩ := x; exact Heap.lt_size e
  | tbl ps => exact Heap.lt_size (show h.get? a = some _ from x)
  | met f y => exact Heap.lt_size (show h.get? a = some _ from x)
  | ext φ => obtain ⟨_, ⟨_, e⟩, _⟩ := x; exact Heap.lt_size e
theorem Paired.mapP {α β : Type} {F G : α → β → Prop} : ∀ {l₁ : List α} {l₂ : List β}, Paired F l₁ l₂ → (∀ a b, F a b → G a b) → Paired G l₁ l₂
  | _, _, .nil, _ => .nil
  | _, _, .cons r t, f => .cons (f _ _ r) (Paired.mapP t f)
theorem ObjOk.stay (x : ObjOk P w H h a o) (k : ∀ b u, (b = a ∨ H b = some (.own a)) → h.get? b = some u → h'.get? b = some u)
    (ho : ∀ b, H b = some (.own a) → H' b = some (.own a)) (ht : ∀ b xs, H b = some (.tup xs) → H' b = some (.tup xs)) : ObjOk P w H' h' a o := by
  induction o with
  | lst xs => obtain ⟨z, its, n, r, e⟩ := x; exact ⟨z, its, n, r, k _ _ (.inl rfl) e⟩
  | tup xs => obtain ⟨z, its, r, ob, e, c⟩ := x; exact ⟨z, its, r, ob, k _ _ (.inl rfl) e, c⟩
  | dK kvs => obtain ⟨z, y, vs, r, ob, es, ep, e, c⟩ := x; exact ⟨z, y, vs, r, ob, es, ep, k _ _ (.inl rfl) e, c⟩
  | dT kvs =>
    obtain ⟨z, y, xs, r, ob, es, ep, e, c⟩ := x
    exact ⟨z, y, xs, Paired.mapP r fun p q z => ⟨z.1, ht _ _ z.2.1, z.2.2⟩, ob, es, ep, k _ _ (.inl rfl) e, c⟩
  | set S n => obtain ⟨ob, es, ep, t, e, c⟩ := x; exact ⟨ob, es, ep, t, k _ _ (.inl rfl) e, c⟩
  | ins C dx fs =>
    obtain ⟨d, z, ne, e, mA, ⟨od, es, ep, e2, c⟩, r⟩ := x
    exact ⟨ho _ d, z, ne, k _ _ (.inl rfl) e, mA, ⟨od, es, ep, k _ _ (.inr d) e2, c⟩, r⟩
  | own y => obtain ⟨ob, e⟩ := x; exact ⟨ob, k _ _ (.inl rfl) e⟩
  | xd fs => obtain ⟨mA, ⟨od, es, ep, e, c⟩, r⟩ := x; exact ⟨mA, ⟨od, es, ep, k _ _ (.inl rfl) e, c⟩, r⟩
  | rng lo hi => obtain ⟨t, u, v, e⟩ := x; exact ⟨t, u, v, k _ _ (.inl rfl) e⟩
  | frz ob u ih => obtain ⟨e, q⟩ := x; exact ⟨k _ _ (.inl rfl) e, ih q⟩
  | tbl ps =>
    have e : h.get? a = some { cls := .none, data := .fields ps } := x
    show h'.get? a = some { cls := .none, data := .fields ps }
    exact k a _ (.inl rfl) e
  | met f y =>
    have e : h.get? a = some (PySem.W.methodObj (.ref f) (.ref y)) := x
    show h'.get? a = some (PySem.W.methodObj (.ref f) (.ref y))
    exact k a _ (.inl rfl) e
  | ext φ => obtain ⟨p, ⟨o, e⟩, st⟩ := x; exact ⟨st _ _ p fun o q => k _ _ (.inl rfl) q, ⟨o, k _ _ (.inl rfl) e⟩, st⟩
theorem HOk.lt (x : HOk P w H h) (e : H a = some o) : a < h.objs.size := (x a o e).lt
theorem HOk.fresh (x : HOk P w H h) (e : h.objs.size ≤ a) : H a = none := by
  cases q : H a with
  | none => rfl
  | some u => exact absurd (Nat.lt_of_lt_of_le (x.lt q) e) (Nat.lt_irrefl _)
theorem HOk.kept (x : HOk P w H h) (k : ∀ b u, h.get? b = some u → h'.get? b = some u) : HOk P w H h' := fun a o e =>
  (x a o e).stay (fun b u _ q => k b u q) (fun _ q => q) fun _ _ q => q
theorem HOk.laid (x : HOk P w H h) (k : ∀ b u, h.get? b = some u → h'.get? b = some u) (hp : h.objs.size ≤ a) (new : ObjOk P w (upd H a o) h' a o) : HOk P w (upd H a o) h' := fun b u e => by
  have hn := x.fresh hp
  by_cases hb : b = a
  · subst hb; rw [upd_same] at e; cases e; exact new
  · rw [upd_ne hb] at e
    exact (x b u e).stay (fun c v _ q => k c v q) (fun c q => by rw [upd_ne (ne_of_none q hn)]; exact q) fun c xs q => by rw [upd_ne (ne_of_none q hn)]; exact q
end
def Rd (H : Hp) (a : Addr) (u : HO) : Prop := H a = some u ∨ ∃ o, H a = some (.frz o u)
theorem Rd.ok {P : Program} {w : World} {H : Hp} {h : Heap} {a : Addr} {u : HO} (r : Rd H a u) (x : HOk P w H h) : ObjOk P w H h a u := by
  rcases r with r | ⟨o, r⟩
  · exact x a u r
  · obtain ⟨_, q⟩ := x a _ r
    exact q
def Mut : Option HO → Prop
  | some (.lst _) => True
  | some (.dK _) => True
  | some (.dT _) => True
  | some (.set _ _) => True
  | some (.ins _ _ _) => True
  | some (.ext _) => True
  | _ => False
section
variable {P : Program} {w : World} {H : Hp} {h h' : Heap} {x e : Addr} {o' : HO}
theorem HOk.write (ok : HOk P w H h) (mu : Mut (H x)) (he : e = x ∨ H e = some (.own x)) (k : ∀ b u, b ≠ e → h.get? b = some u → h'.get? b = some u) (heo : ∃ u, h'.get? e = some u)
    (new : ObjOk P w (upd H x o') h' x o') : HOk P w (upd H x o') h' := fun b u q => by
  have nown : ∀ c y, H c = some (.own y) → c ≠ x := fun c y r z => by subst z; rw [r] at mu; exact mu
  have ntup : ∀ c xs, H c = some (.tup xs) → c ≠ x := fun c xs r z => by subst z; rw [r] at mu; exact mu
  by_cases hb : b = x
  · subst hb; rw [upd_same] at q; cases q; exact new
  · rw [upd_ne hb] at q
    by_cases hbe : b = e
    · have q' : H b = some (.own x) := by
        rcases he with z | z
        · exact absurd (hbe.trans z) hb
        · rw [hbe]; exact z
      rw [q] at q'; cases q'
      obtain ⟨v, hv⟩ := heo
      exact ⟨v, by rw [hbe]; exact hv⟩
    · refine (ok b u q).stay (fun c v hc r => k c v ?_ r) (fun c r => by rw [upd_ne (nown c b r)]; exact r) fun c xs r => by rw [upd_ne (ntup c xs r)]; exact r
      rcases hc with rfl | hc
      · exact hbe
      · rintro rfl
        rcases he with z | z
        · exact nown c b hc z
        · rw [hc] at z; cases z; exact hb rfl
end
structure Un (fs ex : List Addr) (H H' : Hp) (h h' : Heap) : Prop where
  keep : ∀ b o, h.get? b = some o → H b = none → b ∉ fs → b ∉ ex → h'.get? b = some o
  slot : ∀ b o, h.get? b = some o → H b = none → b ∈ fs → b ∉ ex → ∃ sl, h'.get? b = some { o with slots := sl }
  free : ∀ b o, h.get? b = some o → H b = none → b ∉ ex → H' b = none
  there : ∀ b o, h.get? b = some o → b ∉ ex → ∃ o', h'.get? b = some o'
  tups : ∀ b xs, H b = some (.tup xs) → H' b = some (.tup xs)
  frzs : ∀ b o u, H b = some (.frz o u) → H' b = some (.frz o u)
  tbls : ∀ b ps, H b = some (.tbl ps) → ∃ more, H' b = some (.tbl (ps ++ more))
section
variable {fs fs' ex ex' : List Addr} {H H1 H2 : Hp} {h h1 h2 h' : Heap} {a x e : Addr} {o : HO}
theorem Un.any (u : Un fs ex H H1 h h1) {b : Addr} {ob : Obj} (q : h.get? b = some ob) (n : H b = none) (hx : b ∉ ex) : ∃ sl, h1.get? b = some { ob with slots := sl } := by
  by_cases hb : b ∈ fs
  · exact u.slot b ob q n hb hx
  · exact ⟨ob.slots, u.keep b ob q n hb hx⟩
theorem Un.kept (k : ∀ b u, h.get? b = some u → h'.get? b = some u) : Un fs ex H H h h' :=
  ⟨fun b ob q _ _ _ => k b ob q, fun b ob q _ _ _ => ⟨ob.slots, k b ob q⟩, fun _ _ _ n _ => n, fun b ob q _ => ⟨ob, k b ob q⟩, fun _ _ q => q, fun _ _ _ q => q, fun _ ps q => ⟨#[], by rw [q]; simp⟩⟩
theorem Un.refl : Un fs ex H H h h := Un.kept fun _ _ q => q
theorem Un.laid (k : ∀ b u, h.get? b = some u → h'.get? b = some u) (hp : h.objs.size ≤ a) (hn : H a = none) : Un fs ex H (upd H a o) h h' where
  keep := fun b u q _ _ _ => k b u q
  slot := fun b u q _ _ _ => ⟨u.slots, k b u q⟩
  free := fun b u q n _ => by rw [upd_ne (Nat.ne_of_lt (Nat.lt_of_lt_of_le (Heap.lt_size q) hp))]; exact n
  there := fun b u q _ => ⟨u, k b u q⟩
  tups := fun b xs q => by rw [upd_ne (ne_of_none q hn)]; exact q
  frzs := fun b u xs q => by rw [upd_ne (ne_of_none q hn)]; exact q
  tbls := fun b ps q => ⟨#[], by rw [upd_ne (ne_of_none q hn), q]; simp⟩
theorem Un.write (mu : Mut (H x)) (he : e = x ∨ H e = some (.own x)) (k : ∀ b u, b ≠ e → h.get? b = some u → h'.get? b = some u) (heo : ∃ u, h'.get? e = some u) : Un fs ex H (upd H x o) h h' := by
  have hx : ∀ b, H b = none → b ≠ x := fun b n z => by subst z; rw [n] at mu; exact mu
  have hb : ∀ b, H b = none → b ≠ e := fun b n z => by
    subst z
    rcases he with r | r
    · exact hx b n r
    · rw [n] at r; cases r
  have hm : ∀ b u, H b = some u → ¬ Mut (some u) → b ≠ x := fun b u q nm z => by subst z; rw [q] at mu; exact nm mu
  refine ⟨fun b u q n _ _ => k b u (hb b n) q, fun b u q n _ _ => ⟨u.slots, k b u (hb b n) q⟩, fun b u q n _ => by rw [upd_ne (hx b n)]; exact n, fun b u q _ => ?_,
    fun b xs q => by rw [upd_ne (hm b _ q fun z => z)]; exact q, fun b u xs q => by rw [upd_ne (hm b _ q fun z => z)]; exact q, fun b ps q => ⟨#[], by rw [upd_ne (hm b _ q fun z => z), q]; simp⟩⟩
  by_cases hbe : b = e
  · subst hbe; exact heo
  · exact ⟨u, k b u hbe q⟩
end
def trk (h : Heap) (H : Hp) : List Addr := (List.range h.objs.size).filter fun a => (H a).isSome
def hidT (h : Heap) (H : Hp) : Heap := PySem.W.hideAll h (trk h H)
theorem hidT_size (h : Heap) (H : Hp) : (hidT h H).objs.size = h.objs.size := PySem.W.hideAll_size _ _
theorem hidT_get {h : Heap} {H : Hp} {b : Addr} {o : Obj} (e : h.get? b = some o) (n : H b = none) : (hidT h H).get? b = some o :=
  PySem.W.hideAll_get _ e fun hm => by
    have q : (H b).isSome = true := (List.mem_filter.mp hm).2
    rw [n] at q; simp at q
theorem of_hidT {h : Heap} {H : Hp} {b : Addr} {o : Obj} (e : (hidT h H).get? b = some o) : h.get? b = some o ∧ H b = none := by
  have e' : h.get? b = some o := PySem.W.of_hideAll (trk h H) e
  refine ⟨e', ?_⟩
  cases q : H b with
  | none => rfl
  | some x =>
    have hm : b ∈ trk h H := List.mem_filter.mpr ⟨List.mem_range.mpr (Heap.lt_size e'), by simp [q]⟩
    have z : (hidT h H).get? b = none := PySem.W.hideAll_none (trk h H) hm
    rw [z] at e; cases e
def allNews (g h : Heap) (L : Addr) : List (Addr × Obj) := (List.range h.objs.size).filterMap fun a => if a = L ∨ (g.get? a).isSome = true then none else (h.get? a).map fun o => (a, o)
def rest (g h : Heap) (L d : Addr) : List (Addr × Obj) := (allNews g h L).filter fun p => decide (p.1 ≠ d)
end L2
namespace L2
open PySem PySem.Spec PyProof.Rows
structure Mod (K : PySem.W.Frag) (mg : Str → Option Value) (base : Heap) : Prop where
  kin : K.In base
  glob : base.Ns mainGlobals mg
  blt : ∃ mb, base.Ns builtinsNs mb ∧ ∀ x : Str, x ≠ "__name__" → mb x = bootBuiltins x
  nolimit : base.NoLimit
structure Cx where
  prog : Program
  w : World
  K : PySem.W.Frag
  mg : Str → Option Value
  base : Heap
  A : Around
  N : List Str
  s₀ : Shared
  H₀ : Hp
  env : Env
  outer : List Env
  stack : List Env
  ex : List Addr
  fn : Str → Bool
  calm : Bool
  pn : List (Addr × Obj)
  xe : Value → Shared → Prop
def frs (l : List Env) : List Addr := l.filterMap (·.frame)
abbrev Cx.fs (X : Cx) : List Addr := frs X.outer
def Vis (sc : Scope) (x : Str) : Prop := sc.names.lookup x = some .local ∨ sc.names.lookup x = some .cell ∨ sc.names.lookup x = some .free
def Loc (sc : Scope) (x : Str) : Prop := sc.names.lookup x = some .local ∨ sc.names.lookup x = some .cell
def Look (env : Env) (h : Heap) (m : Str → Option Value) (x : Str) (u : Value) : Prop :=
  (env.kindOf x = some .local ∧ m x = some u) ∨ ((env.kindOf x = some .cell ∨ env.kindOf x = some .free) ∧ ∃ c, env.cells.lookup x = some c ∧ h.IsCell c (some u))
structure Cx.Ok (X : Cx) : Prop where
  mod : Mod X.K X.mg X.base
  kind : X.env.scope.kind = .function
  glob : X.env.globals = mainGlobals
  blt : X.env.builtins = builtinsNs
  above : X.s₀.heap.objs.size ≤ X.env.locals
  inj : ∀ x y c, X.env.cells.lookup x = some c → X.env.cells.lookup y = some c → x = y
  has : ∀ x, (X.env.kindOf x = some .cell ∨ X.env.kindOf x = some .free) → ∃ c, X.env.cells.lookup x = some c
  cab : ∀ x c, X.fn x = true → X.env.cells.lookup x = some c → X.s₀.heap.objs.size ≤ c
  hd : X.calm = true → X.A.handled = none
  frames : X.A.frames = some X.stack
  stk : X.stack = X.outer ∨ (X.stack = X.env :: X.outer ∧ X.env.frame = some X.env.locals)
  exf : ∀ b ∈ X.ex, b ≠ X.env.locals ∧ ∀ x c, X.env.cells.lookup x = some c → c ≠ b
  bs : ∀ b o, X.base.get? b = some o → X.s₀.heap.get? b = some o ∧ X.H₀ b = none
  bsz : X.base.objs.size ≤ X.s₀.heap.objs.size
  noex : ∀ b o, X.base.get? b = some o → b ∉ X.ex
  exfs : ∀ b ∈ X.ex, b ∉ X.fs
  funs : X.s₀.heap.FunFrames X.base X.outer
  frf : ∀ b ∈ X.fs, X.H₀ b = none
structure Inv (X : Cx) (pins : List (Addr × Obj)) (σ : List (Option V)) (H : Hp) (s : Shared) : Prop where
  ok : X.Ok
  os : s.os = X.s₀.os
  bare : AllBare s.gens
  base : Un X.fs X.ex X.H₀ H X.s₀.heap s.heap
  loc : ∃ m, s.heap.Ns X.env.locals m ∧ ∀ (i : Nat) (x : Str) (v : V), X.N[i]? = some x → σ[i]? = some (some v) → Vis X.env.scope x → ∃ u, RelV v u ∧ Look X.env s.heap m x u
  cell : ∀ x c, X.env.cells.lookup x = some c → ∃ v, s.heap.IsCell c v
  free : H X.env.locals = none
  freeC : ∀ x c, X.env.cells.lookup x = some c → H c = none
  pin : ∀ p ∈ X.pn ++ pins, s.heap.get? p.1 = some p.2 ∧ H p.1 = none ∧ p.1 ≠ X.env.locals ∧ p.1 ∉ X.fs ∧ ∀ v, p.2.data ≠ .cell v
  hok : HOk X.prog X.w H s.heap
  len : σ.length = X.N.length
section
variable {X : Cx} {pins : List (Addr × Obj)} {σ : List (Option V)} {H H' : Hp} {s : Shared} {h' : Heap}
theorem Cx.Ok.nofr (ok : X.Ok) {b : Addr} {o : Obj} (e : X.base.get? b = some o) : b ∉ X.fs := fun hb => by
  have := (ok.funs.mem hb).1
  rw [e] at this; cases this
theorem Inv.bs (I : Inv X pins σ H s) : ∀ b o, X.base.get? b = some o → s.heap.get? b = some o ∧ H b = none := fun b o e =>
  ⟨I.base.keep b o (I.ok.bs b o e).1 (I.ok.bs b o e).2 (I.ok.nofr e) (I.ok.noex b o e), I.base.free b o (I.ok.bs b o e).1 (I.ok.bs b o e).2 (I.ok.noex b o e)⟩
theorem Inv.bk (I : Inv X pins σ H s) : ∀ b o, X.base.get? b = some o → s.heap.get? b = some o := fun b o e => (I.bs b o e).1
theorem Inv.mod (I : Inv X pins σ H s) : Mod X.K X.mg X.base := I.ok.mod
theorem Inv.kIn (I : Inv X pins σ H s) : X.K.In s.heap := I.ok.mod.kin.keeps I.bk
theorem Inv.lt (I : Inv X pins σ H s) : X.env.locals < s.heap.objs.size := let ⟨_, hn, _⟩ := I.loc; hn.lt
theorem Inv.sz (I : Inv X pins σ H s) : X.s₀.heap.objs.size ≤ s.heap.objs.size := Nat.le_trans I.ok.above (Nat.le_of_lt I.lt)
theorem Inv.nofs (I : Inv X pins σ H s) {a : Addr} (h : s.heap.objs.size ≤ a) : a ∉ X.fs := fun hb => by
  obtain ⟨_, o, ho, _⟩ := I.ok.funs.mem hb
  exact absurd (Nat.lt_of_lt_of_le (Heap.lt_size ho) (Nat.le_trans I.sz h)) (Nat.lt_irrefl _)
theorem Inv.cne (I : Inv X pins σ H s) : ∀ x c, X.env.cells.lookup x = some c → c ≠ X.env.locals := fun x c e z => by
  obtain ⟨v, o, ho, hd⟩ := I.cell x c e
  obtain ⟨m, ⟨o', es, ep, ho', hd', _⟩, _⟩ := I.loc
  rw [z, ho'] at ho; cases ho; rw [hd'] at hd; cases hd
theorem Inv.funs (I : Inv X pins σ H s) : s.heap.FunFrames X.base X.outer := by
  have all : ∀ (l : List Env), (∀ b ∈ frs l, b ∈ X.fs) → X.s₀.heap.FunFrames X.base l → s.heap.FunFrames X.base l := by
    intro l
    induction l with
    | nil => intro _ _; trivial
    | cons env r ih =>
      intro hs hl
      obtain ⟨hk, ⟨L, o, hf, hn, ho, hd⟩, hr⟩ := hl
      have hL : L ∈ X.fs := hs L (by unfold frs; rw [List.filterMap_cons, hf]; exact List.mem_cons_self)
      obtain ⟨sl, e⟩ := I.base.slot L o ho (I.ok.frf L hL) hL fun z => I.ok.exfs L z hL
      exact ⟨hk, ⟨L, _, hf, hn, e, hd⟩, ih (fun b hb => hs b (by unfold frs; rw [List.filterMap_cons, hf]; exact List.mem_cons_of_mem _ hb)) hr⟩
  exact all X.outer (fun _ hb => hb) I.ok.funs
theorem Inv.stack (I : Inv X pins σ H s) : s.heap.FunFrames X.base X.stack := by
  rcases I.ok.stk with e | ⟨e, hf⟩
  · rw [e]; exact I.funs
  · rw [e]
    obtain ⟨m, hn, _⟩ := I.loc
    refine .cons (by rw [I.ok.kind]; decide) hf hn ?_ I.funs
    exact Heap.get?_none_of_le (Nat.le_trans I.ok.bsz I.ok.above)
theorem Inv.stkSub (I : Inv X pins σ H s) : ∀ b ∈ frs X.stack, b ∈ X.env.locals :: X.fs := fun b hb => by
  rcases I.ok.stk with e | ⟨e, hf⟩
  · rw [e] at hb; exact List.mem_cons_of_mem _ hb
  · rw [e] at hb
    unfold frs at hb
    rw [List.filterMap_cons, hf] at hb
    exact hb
theorem Inv.stkFree (I : Inv X pins σ H s) : ∀ b ∈ frs X.stack, H b = none := fun b hb => by
  rcases List.mem_cons.mp (I.stkSub b hb) with e | hb
  · rw [e]; exact I.free
  · obtain ⟨_, o, ho, _⟩ := I.ok.funs.mem hb
    exact I.base.free b o ho (I.ok.frf b hb) fun z => I.ok.exfs b z hb
theorem Inv.step {g' : Array GenState} {t' : Nat} {d' : Drawn} {ch : List Addr} (I : Inv X pins σ H s)
    (hch : ∀ b ∈ ch, (b ∈ X.ex ∨ X.s₀.heap.objs.size ≤ b) ∧ b ≠ X.env.locals ∧ (∀ x c, X.env.cells.lookup x = some c → c ≠ b) ∧ ∀ p ∈ X.pn ++ pins, p.1 ≠ b)
    (keep : ∀ b o, b ≠ X.env.locals → b ∉ X.fs → b ∉ ch → s.heap.get? b = some o → H b = none → h'.get? b = some o)
    (slot : ∀ b o, b ≠ X.env.locals → b ∈ X.fs → b ∉ ch → s.heap.get? b = some o → H b = none → ∃ sl, h'.get? b = some { o with slots := sl }) (free : ∀ b o, b ∉ ch → s.heap.get? b = some o → H b = none → H' b = none)
    (there : ∀ b o, b ∉ ch → s.heap.get? b = some o → ∃ o', h'.get? b = some o')
    (tups : ∀ b xs, H b = some (.tup xs) → H' b = some (.tup xs)) (frzs : ∀ b o u, H b = some (.frz o u) → H' b = some (.frz o u)) (tbls : ∀ b ps, H b = some (.tbl ps) → ∃ more, H' b = some (.tbl (ps ++ more)))
    (ns : ∀ m, s.heap.Ns X.env.locals m → h'.Ns X.env.locals m) (hok : HOk X.prog X.w H' h') (hg : AllBare g') :
    Inv X pins σ H' { s with heap := h', gens := g', drawn := d', toks := t' } := by
  have neL : ∀ b o, X.s₀.heap.get? b = some o → b ≠ X.env.locals := fun b o e => Nat.ne_of_lt (Nat.lt_of_lt_of_le (Heap.lt_size e) I.ok.above)
  have neC : ∀ b o, X.s₀.heap.get? b = some o → b ∉ X.ex → b ∉ ch := fun b o e hx hb => by
    rcases (hch b hb).1 with z | z
    · exact hx z
    · exact absurd (Nat.lt_of_lt_of_le (Heap.lt_size e) z) (Nat.lt_irrefl _)
  have cellK : ∀ x c, X.env.cells.lookup x = some c → ∀ v, s.heap.IsCell c v → h'.IsCell c v := fun x c e v ⟨o, ho, hd⟩ => by
    have nch : c ∉ ch := fun z => (hch c z).2.2.1 x c e rfl
    by_cases hc : c ∈ X.fs
    · obtain ⟨sl, q⟩ := slot c o (I.cne x c e) hc nch ho (I.freeC x c e)
      exact ⟨_, q, hd⟩
    · exact ⟨o, keep c o (I.cne x c e) hc nch ho (I.freeC x c e), hd⟩
  refine ⟨I.ok, I.os, hg, ⟨fun b o e n hb hx => ?_, fun b o e n hb hx => ?_, fun b o e n hx => ?_, fun b o e hx => ?_, fun b xs e => tups b xs (I.base.tups b xs e), fun b o xs e => frzs b o xs (I.base.frzs b o xs e), fun b ps e => ?_⟩, ?_, fun x c e => ?_, ?_, fun x c e => ?_, fun p hp => ?_, hok, I.len⟩
  · exact keep b o (neL b o e) hb (neC b o e hx) (I.base.keep b o e n hb hx) (I.base.free b o e n hx)
  · obtain ⟨sl, e1⟩ := I.base.slot b o e n hb hx
    obtain ⟨sl', e2⟩ := slot b _ (neL b o e) hb (neC b o e hx) e1 (I.base.free b o e n hx)
    exact ⟨sl', e2⟩
  · obtain ⟨o', e1⟩ := I.base.there b o e hx
    exact free b o' (neC b o e hx) e1 (I.base.free b o e n hx)
  · obtain ⟨o', e1⟩ := I.base.there b o e hx
    exact there b o' (neC b o e hx) e1
  · obtain ⟨m1, e1⟩ := I.base.tbls b ps e
    obtain ⟨m2, e2⟩ := tbls b _ e1
    exact ⟨m1 ++ m2, by rw [e2, Array.append_assoc]⟩
  · obtain ⟨m, hn, hl⟩ := I.loc
    refine ⟨m, ns m hn, fun i x v e1 e2 e3 => ?_⟩
    obtain ⟨u, r, l⟩ := hl i x v e1 e2 e3
    refine ⟨u, r, ?_⟩
    rcases l with l | ⟨k, c, e, z⟩
    · exact .inl l
    · exact .inr ⟨k, c, e, cellK x c e _ z⟩
  · obtain ⟨v, z⟩ := I.cell x c e
    exact ⟨v, cellK x c e v z⟩
  · obtain ⟨m, ⟨o, _, _, ho, _⟩, _⟩ := I.loc
    exact free _ o (fun z => (hch _ z).2.1 rfl) ho I.free
  · obtain ⟨v, o, ho, hd⟩ := I.cell x c e
    exact free c o (fun z => (hch c z).2.2.1 x c e rfl) ho (I.freeC x c e)
  · obtain ⟨e, n, ne, nf, d⟩ := I.pin p hp
    have nch : p.1 ∉ ch := fun z => (hch p.1 z).2.2.2 p hp rfl
    exact ⟨keep p.1 p.2 ne nf nch e n, free p.1 p.2 nch e n, ne, nf, d⟩
theorem Inv.un {t' : Nat} (I : Inv X pins σ H s) (u : Un X.fs [] H H' s.heap h') (hok : HOk X.prog X.w H' h') : Inv X pins σ H' { s with heap := h', toks := t' } := by
  obtain ⟨m, ⟨o, es, ep, ho, r⟩, _⟩ := id I.loc
  obtain ⟨sl, hL⟩ := u.any ho I.free (by simp)
  exact I.step (g' := s.gens) (d' := s.drawn) (ch := []) (fun _ z => nomatch z) (fun b o _ hb _ e n => u.keep b o e n hb (by simp)) (fun b o _ hb _ e n => u.slot b o e n hb (by simp)) (fun b o _ e n => u.free b o e n (by simp)) (fun b o _ e => u.there b o e (by simp)) u.tups u.frzs u.tbls (fun m' hm => by
    obtain ⟨o', es', ep', ho', r'⟩ := hm
    rw [ho] at ho'; cases ho'
    exact ⟨_, es', ep', hL, r'⟩) hok I.bare
theorem Inv.call {g' : Array GenState} {t' : Nat} {d' : Drawn} {ch : List Addr} (I : Inv X pins σ H s) (u : Un (frs X.stack) ch H H' s.heap h') (hok : HOk X.prog X.w H' h') (hg : AllBare g')
    (hch : ∀ b ∈ ch, (b ∈ X.ex ∨ X.s₀.heap.objs.size ≤ b) ∧ b ≠ X.env.locals ∧ (∀ x c, X.env.cells.lookup x = some c → c ≠ b) ∧ ∀ p ∈ X.pn ++ pins, p.1 ≠ b) :
    Inv X pins σ H' { s with heap := h', gens := g', drawn := d', toks := t' } := by
  obtain ⟨m, ⟨o, es, ep, ho, r⟩, _⟩ := id I.loc
  obtain ⟨sl, hL⟩ := u.any ho I.free fun z => (hch _ z).2.1 rfl
  exact I.step (ch := ch) hch (fun b o hL hb hc e n => u.keep b o e n (fun z => (List.mem_cons.mp (I.stkSub b z)).elim hL hb) hc) (fun b o _ _ hc e n => u.any e n hc) (fun b o hc e n => u.free b o e n hc) (fun b o hc e => u.there b o e hc) u.tups u.frzs u.tbls (fun m' hm => by
    obtain ⟨o', es', ep', ho', r'⟩ := hm
    rw [ho] at ho'; cases ho'
    exact ⟨_, es', ep', hL, r'⟩) hok hg
theorem Inv.turned {t' : Nat} {it : Addr} (I : Inv X pins σ H s) (k : ∀ b o, b ≠ it → s.heap.get? b = some o → h'.get? b = some o) (hn : H it = none) (hL : it ≠ X.env.locals)
    (h1 : it ∈ X.ex ∨ X.s₀.heap.objs.size ≤ it) (h2 : ∀ x c, X.env.cells.lookup x = some c → c ≠ it) (h3 : ∀ p ∈ X.pn ++ pins, p.1 ≠ it) : Inv X pins σ H { s with heap := h', toks := t' } := by
  have nit : ∀ b u, H b = some u → b ≠ it := fun b u e z => by rw [z, hn] at e; cases e
  refine I.step (g' := s.gens) (d' := s.drawn) (ch := [it]) (fun b hb => ?_) (fun b o _ _ hc e _ => k b o (fun z => hc (by simp [z])) e) (fun b o _ _ hc e _ => ⟨o.slots, k b o (fun z => hc (by simp [z])) e⟩) (fun _ _ _ _ n => n)
    (fun b o hc e => ⟨o, k b o (fun z => hc (by simp [z])) e⟩) (fun _ _ e => e) (fun _ _ _ e => e) (fun b ps e => ⟨#[], by rw [e]; simp⟩) (fun m hm => ?_) (fun b u e => ?_) I.bare
  · have e : b = it := by simpa using hb
    subst e
    exact ⟨h1, hL, h2, h3⟩
  · obtain ⟨o, es, ep, ho, r⟩ := hm
    exact ⟨o, es, ep, k _ o (Ne.symm hL) ho, r⟩
  · refine (I.hok b u e).stay (fun c v hc q => k c v ?_ q) (fun _ q => q) fun _ _ q => q
    rcases hc with z | z
    · rw [z]; exact nit b u e
    · exact nit c _ z
theorem Inv.tok (I : Inv X pins σ H s) (t : Nat) : Inv X pins σ H { s with toks := t } := I.un (h' := s.heap) (t' := t) Un.refl I.hok
theorem Inv.kept {t' : Nat} (I : Inv X pins σ H s) (k : ∀ b u, s.heap.get? b = some u → h'.get? b = some u) : Inv X pins σ H { s with heap := h', toks := t' } := I.un (Un.kept k) (I.hok.kept k)
theorem Inv.laid {a : Addr} {o : HO} {t' : Nat} (I : Inv X pins σ H s) (k : ∀ b u, s.heap.get? b = some u → h'.get? b = some u) (hp : s.heap.objs.size ≤ a) (new : ObjOk X.prog X.w (upd H a o) h' a o) :
    Inv X pins σ (upd H a o) { s with heap := h', toks := t' } := I.un (Un.laid k hp (I.hok.fresh hp)) (I.hok.laid k hp new)
theorem Inv.write {x e : Addr} {o : HO} {t' : Nat} (I : Inv X pins σ H s) (mu : Mut (H x)) (he : e = x ∨ H e = some (.own x)) (k : ∀ b u, b ≠ e → s.heap.get? b = some u → h'.get? b = some u) (heo : ∃ u, h'.get? e = some u)
    (new : ObjOk X.prog X.w (upd H x o) h' x o) : Inv X pins σ (upd H x o) { s with heap := h', toks := t' } := I.un (Un.write mu he k heo) (I.hok.write mu he k heo new)
theorem Inv.pins_of {pins' : List (Addr × Obj)} (I : Inv X pins σ H s) (h : ∀ p ∈ pins', s.heap.get? p.1 = some p.2 ∧ H p.1 = none ∧ p.1 ≠ X.env.locals ∧ p.1 ∉ X.fs ∧ ∀ v, p.2.data ≠ .cell v) : Inv X pins' σ H s :=
  ⟨I.ok, I.os, I.bare, I.base, I.loc, I.cell, I.free, I.freeC, fun p hp => (List.mem_append.mp hp).elim (fun z => I.pin p (List.mem_append_left _ z)) (h p), I.hok, I.len⟩
theorem nodup_ix {N : List Str} (hN : N.Nodup) {i j : Nat} {x : Str} (a : N[i]? = some x) (b : N[j]? = some x) : i = j := by
  obtain ⟨h1, e1⟩ := List.getElem?_eq_some_iff.mp a
  obtain ⟨h2, e2⟩ := List.getElem?_eq_some_iff.mp b
  exact (List.getElem_inj hN).mp (e1.trans e2.symm)
theorem store_ok2 {M : Model} {A : Around} {E : Value → Shared → Prop} {i : Nat} {x : Str} {v : V} {u : Value} {Q : Unit → Shared → Prop} (I : Inv X pins σ H s) (hN : X.N.Nodup) (hi : X.N[i]? = some x) (hx : Loc X.env.scope x) (r : RelV v u)
    (h : ∀ s', Inv X pins (σ.set i (some v)) H s' → (∃ a, Heap.SameBut a s.heap s'.heap ∧ (a = X.env.locals ∨ X.env.cells.lookup x = some a)) → Q () s') (hf : X.fn x = true ∨ X.env.scope.names.lookup x = some .local := by first | exact .inl rfl | exact .inr rfl | assumption) : wpAny M A (storeName X.env x u) Q E s := by
  obtain ⟨m, hn, hl⟩ := id I.loc
  have hcls : (X.env.scope.kind == .class || (X.env.scope.kind == .module && X.env.locals != X.env.globals)) = false := by rw [I.ok.kind]; rfl
  have hiσ : i < σ.length := by rw [I.len]; exact (List.getElem?_eq_some_iff.mp hi).1
  have cne := I.cne
  have tracked : ∀ {a : Addr} {h' : Heap}, (∃ o, s.heap.get? a = some o ∧ H a = none) → Heap.SameBut a s.heap h' → HOk X.prog X.w H h' := fun {a h'} ha hs b ob e => by
    obtain ⟨_, _, hfree⟩ := ha
    refine (I.hok b ob e).stay (fun c w' hc q => (hs.2 c ?_).trans q) (fun _ q => q) fun _ _ q => q
    rintro rfl
    rcases hc with rfl | hc
    · rw [hfree] at e; cases e
    · rw [hfree] at hc; cases hc
  rcases hx with hk | hk
  · refine wpAny_storeName_local hk hn (fun h' hn' hs => ?_) hcls
    obtain ⟨oL, _, _, hoL, _⟩ := id hn
    refine h _ ⟨I.ok, I.os, I.bare, ⟨fun b o e n hb hx => ?_, fun b o e n hb hx => ?_, I.base.free, fun b o e hx => ?_, I.base.tups, I.base.frzs, I.base.tbls⟩, ⟨_, hn', fun j y v' e1 e2 e3 => ?_⟩, fun y c e => ?_, I.free, I.freeC, fun p hp => ?_, tracked ⟨oL, hoL, I.free⟩ hs, by simpa using I.len⟩ ⟨_, hs, .inl rfl⟩
    · exact (hs.2 b (Nat.ne_of_lt (Nat.lt_of_lt_of_le (Heap.lt_size e) I.ok.above))).trans (I.base.keep b o e n hb hx)
    · obtain ⟨sl, e1⟩ := I.base.slot b o e n hb hx
      exact ⟨sl, (hs.2 b (Nat.ne_of_lt (Nat.lt_of_lt_of_le (Heap.lt_size e) I.ok.above))).trans e1⟩
    · obtain ⟨o', e1⟩ := I.base.there b o e hx
      exact ⟨o', (hs.2 b (Nat.ne_of_lt (Nat.lt_of_lt_of_le (Heap.lt_size e) I.ok.above))).trans e1⟩
    · by_cases hj : j = i
      · subst hj
        rw [hi] at e1; cases e1
        rw [List.getElem?_set_self hiσ] at e2
        cases e2
        exact ⟨u, r, .inl ⟨hk, by simp⟩⟩
      · rw [List.getElem?_set_ne (Ne.symm hj)] at e2
        obtain ⟨u', r', q⟩ := hl j y v' e1 e2 e3
        refine ⟨u', r', ?_⟩
        rcases q with ⟨k, e⟩ | ⟨k, c, e, z⟩
        · refine .inl ⟨k, ?_⟩
          have : y ≠ x := fun e => hj (nodup_ix hN e1 (e ▸ hi))
          simp [this, e]
        · exact .inr ⟨k, c, e, z.sameBut hs (cne y c e)⟩
    · obtain ⟨w', z⟩ := I.cell y c e
      exact ⟨w', z.sameBut hs (cne y c e)⟩
    · obtain ⟨e, n, ne, nf, d⟩ := I.pin p hp
      exact ⟨(hs.2 p.1 ne).trans e, n, ne, nf, d⟩
  · have hfn : X.fn x = true := by
      rcases hf with z | z
      · exact z
      · rw [z] at hk; cases hk
    obtain ⟨c, hc⟩ := I.ok.has x (.inl hk)
    obtain ⟨w', z⟩ := I.cell x c hc
    refine wpAny_storeName_cell I.ok.kind hk hc z (fun h' hc' hs => ?_)
    obtain ⟨oc, hoc, hocd⟩ := id z
    refine h { s with heap := h' } ⟨I.ok, I.os, I.bare, ⟨fun b o e n hb hx => ?_, fun b o e n hb hx => ?_, I.base.free, fun b o e hx => ?_, I.base.tups, I.base.frzs, I.base.tbls⟩, ⟨m, hn.sameBut hs (Ne.symm (cne x c hc)), fun j y v' e1 e2 e3 => ?_⟩, fun y c' e => ?_, I.free, I.freeC, fun p hp => ?_, tracked ⟨oc, hoc, I.freeC x c hc⟩ hs, by simpa using I.len⟩ ⟨c, hs, .inr hc⟩
    · exact (hs.2 b (Nat.ne_of_lt (Nat.lt_of_lt_of_le (Heap.lt_size e) (I.ok.cab x c hfn hc)))).trans (I.base.keep b o e n hb hx)
    · obtain ⟨sl, e1⟩ := I.base.slot b o e n hb hx
      exact ⟨sl, (hs.2 b (Nat.ne_of_lt (Nat.lt_of_lt_of_le (Heap.lt_size e) (I.ok.cab x c hfn hc)))).trans e1⟩
    · obtain ⟨o', e1⟩ := I.base.there b o e hx
      exact ⟨o', (hs.2 b (Nat.ne_of_lt (Nat.lt_of_lt_of_le (Heap.lt_size e) (I.ok.cab x c hfn hc)))).trans e1⟩
    · by_cases hj : j = i
      · subst hj
        rw [hi] at e1; cases e1
        rw [List.getElem?_set_self hiσ] at e2
        cases e2
        exact ⟨u, r, .inr ⟨.inl hk, c, hc, hc'⟩⟩
      · rw [List.getElem?_set_ne (Ne.symm hj)] at e2
        obtain ⟨u', r', q⟩ := hl j y v' e1 e2 e3
        refine ⟨u', r', ?_⟩
        rcases q with q | ⟨k, c', e, z'⟩
        · exact .inl q
        · refine .inr ⟨k, c', e, z'.sameBut hs ?_⟩
          rintro rfl
          exact hj (nodup_ix hN e1 (I.ok.inj _ _ _ e hc ▸ hi))
    · by_cases hcc : c' = c
      · subst hcc; exact ⟨_, hc'⟩
      · obtain ⟨w2, z2⟩ := I.cell y c' e
        exact ⟨w2, z2.sameBut hs hcc⟩
    · obtain ⟨e, n, ne, nf, d⟩ := I.pin p hp
      refine ⟨(hs.2 p.1 ?_).trans e, n, ne, nf, d⟩
      intro q
      rw [q, hoc] at e
      have q' : oc = p.2 := Option.some.inj e
      exact d w' (by rw [← q']; exact hocd)
theorem store_ok {M : Model} {A : Around} {E : Value → Shared → Prop} {i : Nat} {x : Str} {v : V} {u : Value} {Q : Unit → Shared → Prop} (I : Inv X pins σ H s) (hN : X.N.Nodup) (hi : X.N[i]? = some x) (hx : Loc X.env.scope x) (r : RelV v u)
    (h : ∀ s', Inv X pins (σ.set i (some v)) H s' → Q () s') (hf : X.fn x = true ∨ X.env.scope.names.lookup x = some .local := by first | exact .inl rfl | exact .inr rfl | assumption) : wpAny M A (storeName X.env x u) Q E s :=
  store_ok2 I hN hi hx r (fun s' I' _ => h s' I') hf
theorem Inv.call' {s' : Shared} {ch : List Addr} (I : Inv X pins σ H s) (ho : s'.os = s.os) (u : Un (frs X.stack) ch H H' s.heap s'.heap) (hok : HOk X.prog X.w H' s'.heap) (hg : AllBare s'.gens)
    (hch : ∀ b ∈ ch, (b ∈ X.ex ∨ X.s₀.heap.objs.size ≤ b) ∧ b ≠ X.env.locals ∧ (∀ x c, X.env.cells.lookup x = some c → c ≠ b) ∧ ∀ p ∈ X.pn ++ pins, p.1 ≠ b) : Inv X pins σ H' s' := by
  obtain ⟨h', g', d', t', o'⟩ := s'
  have e : o' = s.os := ho
  subst e
  exact I.call (g' := g') (t' := t') (d' := d') u hok hg hch
end
abbrev XK := Value → Option Addr → Hp → Prop
abbrev St := List (Option V)
abbrev VK := V → Hp → Prop
abbrev TE := St → Hp → VK → Prop
abbrev TT := St → Hp → (Bool → Hp → Prop) → Prop
abbrev TA := St → Hp → (List V → Hp → Prop) → Prop
structure Ends where
  nx : St → Hp → Prop
  rt : VK
  bk : St → Hp → Prop := fun _ _ => False
  ct : St → Hp → Prop := fun _ _ => False
abbrev TS := Ends → St → Hp → Prop
def EP (X : Cx) (pins : List (Addr × Obj)) (σ : St) (Q : VK) (u : Value) (s' : Shared) : Prop := ∃ v H', Inv X pins σ H' s' ∧ RelV v u ∧ Q v H'
def TP (X : Cx) (pins : List (Addr × Obj)) (σ : St) (Q : Bool → Hp → Prop) (b : Bool) (s' : Shared) : Prop := ∃ H', Inv X pins σ H' s' ∧ Q b H'
def AP (X : Cx) (pins : List (Addr × Obj)) (σ : St) (Q : List V → Hp → Prop) (us : List Value) (s' : Shared) : Prop := ∃ vs H', Inv X pins σ H' s' ∧ Vals vs us ∧ Q vs H'
def SP (X : Cx) (pins : List (Addr × Obj)) (D : Ends) (f : Flow) (s' : Shared) : Prop :=
  match f with
  | .next => ∃ σ' H', Inv X pins σ' H' s' ∧ D.nx σ' H'
  | .brk => ∃ σ' H', Inv X pins σ' H' s' ∧ D.bk σ' H'
  | .cont => ∃ σ' H', Inv X pins σ' H' s' ∧ D.ct σ' H'
  | .ret u => ∃ v σ' H', Inv X pins σ' H' s' ∧ RelV v u ∧ D.rt v H'
def PE (X : Cx) (e : Expr) (t : TE) : Prop :=
  ∀ (pins : List (Addr × Obj)) (s : Shared) (σ : St) (H : Hp) (Q : VK), Inv X pins σ H s → t σ H Q → wpAny (model X.prog X.w) X.A (eval e X.env) (EP X pins σ Q) X.xe s
def PT (X : Cx) (e : Expr) (t : TT) : Prop :=
  ∀ (pins : List (Addr × Obj)) (s : Shared) (σ : St) (H : Hp) (Q : Bool → Hp → Prop), Inv X pins σ H s → t σ H Q → wpAny (model X.prog X.w) X.A (isTrue e X.env (eval e X.env)) (TP X pins σ Q) X.xe s
def PW (X : Cx) (e : Expr) (t : TT) : Prop :=
  ∀ (whole : Sem Value) (pins : List (Addr × Obj)) (s : Shared) (σ : St) (H : Hp) (Q : Bool → Hp → Prop), Inv X pins σ H s → t σ H Q → wpAny (model X.prog X.w) X.A (isTrue e X.env whole) (TP X pins σ Q) X.xe s
theorem PW.pt {X : Cx} {e : Expr} {t : TT} (h : PW X e t) : PT X e t := h _
def PA (X : Cx) (es : List Expr) (t : TA) : Prop :=
  ∀ (pos : Pos) (pins : List (Addr × Obj)) (s : Shared) (σ : St) (H : Hp) (Q : List V → Hp → Prop), Inv X pins σ H s → t σ H Q → wpAny (model X.prog X.w) X.A (spliced (backTo pos (starEach es X.env))) (AP X pins σ Q) X.xe s
def PS (X : Cx) (st : Stmt) (t : TS) : Prop :=
  ∀ (pins : List (Addr × Obj)) (s : Shared) (σ : St) (H : Hp) (D : Ends), Inv X pins σ H s → t D σ H → wpAny (model X.prog X.w) X.A (exec st X.env) (SP X pins D) X.xe s
def PSs (X : Cx) (st : List Stmt) (t : TS) : Prop :=
  ∀ (pins : List (Addr × Obj)) (s : Shared) (σ : St) (H : Hp) (D : Ends), Inv X pins σ H s → t D σ H → wpAny (model X.prog X.w) X.A (execs st X.env) (SP X pins D) X.xe s
theorem thn {α : Type} {t : Sem α} {Q Q' : α → Shared → Prop} {M : Model} {A : Around} {E : Value → Shared → Prop} {s : Shared} (h : wpAny M A t Q E s) (hQ : ∀ a s, Q a s → Q' a s) : wpAny M A t Q' E s := wpAny_mono h hQ fun _ _ x => x
end L2
namespace L2
open PySem PySem.Spec PyProof.Rows
section
variable {X : Cx}
theorem bin {a b : Expr} {ta tb : TE} (ha : PE X a ta) (hb : PE X b tb) {pins : List (Addr × Obj)} {s : Shared} {σ : St} {H : Hp} {R : V → V → Hp → Prop} (I : Inv X pins σ H s) (h : ta σ H fun x H1 => tb σ H1 fun y H2 => R x y H2)
    {α : Type} {Q : α → Shared → Prop} {f : Value → Value → Sem α}
    (hf : ∀ v u s2 x y H2, Inv X pins σ H2 s2 → RelV x v → RelV y u → R x y H2 → wpAny (model X.prog X.w) X.A (f v u) Q X.xe s2) :
    wpAny (model X.prog X.w) X.A (eval a X.env) (fun v s₁ => wpAny (model X.prog X.w) X.A (eval b X.env) (fun u s₂ => wpAny (model X.prog X.w) X.A (f v u) Q X.xe s₂) X.xe s₁) X.xe s := by
  refine thn (ha pins s σ H _ I h) fun v s1 ⟨x, H1, I1, r1, q1⟩ => ?_
  refine thn (hb pins s1 σ H1 _ I1 q1) fun u s2 ⟨y, H2, I2, r2, q2⟩ => ?_
  exact hf v u s2 x y H2 I2 r1 r2 q2
def tVar (i : Nat) : TE := fun σ H Q => ∃ v, σ[i]? = some (some v) ∧ Q v H
def tC (v : V) : TE := fun _ H Q => Q v H
theorem pe_var {i : Nat} {x : Str} {pos : Pos} (hN : X.N[i]? = some x) (hv : Vis X.env.scope x) (hd : (x == ("__debug__" : Str)) = false := by decide) (hcd : (x == ("__classdict__" : Str)) = false := by decide) : PE X (.Name x pos) (tVar i) := by
  intro pins s σ H Q I h
  obtain ⟨v, e, h⟩ := h
  obtain ⟨m, hn, hl⟩ := I.loc
  obtain ⟨u, r, l⟩ := hl i x v hN e hv
  have fin : EP X pins σ Q u s := ⟨v, H, I, r, h⟩
  rcases l with ⟨hk, hm⟩ | ⟨hk, c, hc, hcell⟩
  · exact wpAny_Name (wpAny_loadName_local I.ok.kind hk hn hm fin) hd
  · rcases hk with hk | hk
    · exact wpAny_Name (wpAny_loadName_cell I.ok.kind hk hc hcell fin) hd
    · exact wpAny_Name (wpAny_loadName_free I.ok.kind hk hc hcell fin hcd) hd
theorem pe_int {i j pos} : PE X (.Constant (.int i) j pos) (tC (.int i)) := fun _ _ _ H _ I h => wpAny_Constant_int ⟨.int i, H, I.tok _, ⟨_, rfl⟩, h⟩
theorem pe_bl {b j pos} : PE X (.Constant (.bool b) j pos) (tC (.bl b)) := fun _ _ _ H _ I h => Constant_bool ⟨.bl b, H, I, rfl, h⟩
def Gl (X : Cx) (x : Str) : Prop := X.env.kindOf x = some .globalImplicit
theorem ld_glob {E : Value → Shared → Prop} {pins : List (Addr × Obj)} {s : Shared} {σ : St} {H : Hp} {x : Str} {u : Value} {pos : Pos} {Q : Value → Shared → Prop} (I : Inv X pins σ H s) (hg : Gl X x) (hm : X.mg x = some u) (h : Q u s)
    (hd : (x == ("__debug__" : Str)) = false := by decide) : wpAny (model X.prog X.w) X.A (eval (.Name x pos) X.env) Q E s :=
  Calls.Name_function_global I.ok.kind hg (Calls.loadGlobal_global (by rw [I.ok.glob]; exact I.mod.glob.keeps I.bk) hm h) hd
theorem ld_blt {E : Value → Shared → Prop} {pins : List (Addr × Obj)} {s : Shared} {σ : St} {H : Hp} {x : Str} {u : Value} {pos : Pos} {Q : Value → Shared → Prop} (I : Inv X pins σ H s) (hg : Gl X x) (hm : X.mg x = none) (hv : bootBuiltins x = some u) (h : Q u s)
    (hn : x ≠ "__name__" := by decide) (hd : (x == ("__debug__" : Str)) = false := by decide) : wpAny (model X.prog X.w) X.A (eval (.Name x pos) X.env) Q E s := by
  obtain ⟨mb, h1, h2⟩ := I.mod.blt
  exact Calls.Name_function_global I.ok.kind hg (Calls.loadGlobal_builtin (by rw [I.ok.glob]; exact I.mod.glob.keeps I.bk) hm (by rw [I.ok.blt]; exact h1.keeps I.bk) ((h2 x hn).trans hv) h) hd
theorem pe_bltn {x : Str} {v : V} {u : Value} {pos : Pos} (hg : Gl X x) (hm : X.mg x = none) (hv : bootBuiltins x = some u) (r : RelV v u) (hn : x ≠ "__name__" := by decide) (hd : (x == ("__debug__" : Str)) = false := by decide) : PE X (.Name x pos) (tC v) :=
  fun _ _ _ H _ I h => ld_blt I hg hm hv ⟨v, H, I, r, h⟩ hn hd
variable {a b : Expr} {ta tb : TE} {pos : Pos}
def PC (X : Cx) (op : CmpOp) (a b : Expr) (t : TE) : Prop :=
  ∀ (pins : List (Addr × Obj)) (s : Shared) (σ : St) (H : Hp) (Q : VK), Inv X pins σ H s → t σ H Q →
    wpAny (model X.prog X.w) X.A (eval a X.env) (fun v s₁ => wpAny (model X.prog X.w) X.A (eval b X.env) (fun u s₂ => wpAny (model X.prog X.w) X.A (compareOp op v u) (EP X pins σ Q) X.xe s₂) X.xe s₁) X.xe s
def tB (t : TE) : TT := fun σ H Q => t σ H fun x H1 => ∃ c, x = .bl c ∧ Q c H1
theorem pt_cmp {op : CmpOp} {t : TE} (h : PC X op a b t) (h1 : behindInMarks op b = false := by first | exact nobehind _ (by decide) (by decide) | rfl) : PT X (.Compare a [op] [b] pos) (tB t) := by
  intro pins s σ H Q I hw
  refine wpAny_isTrue_Compare1 (thn (h pins s σ H _ I hw) fun v s1 h1 => thn h1 fun u s2 h2 => thn h2 fun c s3 ⟨x, H1, I1, r1, q1⟩ => ?_) h1
  obtain ⟨d, rfl, q⟩ := q1
  cases r1
  exact wpAny_truthy_bool ⟨H1, I1, q⟩
theorem pt_val {e : Expr} {t : TE} (h : PE X e t) (he : ∀ whole, isTrue e X.env whole = (do let v ← whole; standAt e.pos; holding [v] (truthy v)) := by intro _; rfl) : PT X e (tB t) := by
  intro pins s σ H Q I hw
  refine isTrue_plain (thn (h pins s σ H _ I hw) fun v s1 ⟨x, H1, I1, r1, q1⟩ => ?_) (he _)
  obtain ⟨d, rfl, q⟩ := q1
  cases r1
  exact wpAny_truthy_bool ⟨H1, I1, q⟩
variable {tA tB' : TT} {rest : List Expr}
def tAnd (t u : TT) : TT := fun σ H Q => t σ H fun c H1 => if c = true then u σ H1 Q else Q false H1
def tOr (t u : TT) : TT := fun σ H Q => t σ H fun c H1 => if c = true then Q true H1 else u σ H1 Q
def tNot (t : TT) : TT := fun σ H Q => t σ H fun c H1 => Q (!c) H1
theorem pw_and1 (ha : PT X a tA) : PW X (.BoolOp .And [a] pos) tA := by
  intro wh pins s σ H Q I h
  refine isTrue_and (thn (ha pins s σ H Q I h) fun c s1 e => ?_)
  cases c with
  | true => exact isTrue_and_nil e
  | false => exact e
theorem pw_or1 (ha : PT X a tA) : PW X (.BoolOp .Or [a] pos) tA := by
  intro wh pins s σ H Q I h
  refine isTrue_or (thn (ha pins s σ H Q I h) fun c s1 e => ?_)
  cases c with
  | false => exact isTrue_or_nil e
  | true => exact e
theorem pw_and (ha : PT X a tA) (hb : PW X (.BoolOp .And (b :: rest) pos) tB') : PW X (.BoolOp .And (a :: b :: rest) pos) (tAnd tA tB') := by
  intro wh pins s σ H Q I h
  refine isTrue_and (thn (ha pins s σ H _ I h) fun c s1 ⟨H1, I1, q1⟩ => ?_)
  cases c with
  | true => exact hb wh pins s1 σ H1 Q I1 q1
  | false => exact ⟨H1, I1, q1⟩
theorem pw_or (ha : PT X a tA) (hb : PW X (.BoolOp .Or (b :: rest) pos) tB') : PW X (.BoolOp .Or (a :: b :: rest) pos) (tOr tA tB') := by
  intro wh pins s σ H Q I h
  refine isTrue_or (thn (ha pins s σ H _ I h) fun c s1 ⟨H1, I1, q1⟩ => ?_)
  cases c with
  | true => exact ⟨H1, I1, q1⟩
  | false => exact hb wh pins s1 σ H1 Q I1 q1
theorem pt_not (ha : PT X a tA) : PT X (.UnaryOp .Not a pos) (tNot tA) := by
  intro pins s σ H Q I h
  exact isTrue_not (ha pins s σ H (fun c H1 => Q (!c) H1) I h)
def tAndV (ta tb : TE) : TE := fun σ H Q => ta σ H fun x H1 => ∃ c, x = .bl c ∧ if c = true then tb σ H1 Q else Q (.bl false) H1
theorem pe_one {op} {t : TE} (h : PE X a t) : PE X (.BoolOp op [a] pos) t := fun pins s σ H Q I hw => BoolOp_one (h pins s σ H Q I hw)
theorem pe_and (ha : PE X a ta) (hb : PE X (.BoolOp .And (b :: rest) pos) tb) : PE X (.BoolOp .And (a :: b :: rest) pos) (tAndV ta tb) := by
  intro pins s σ H Q I h
  refine BoolOp_and (thn (ha pins s σ H _ I h) fun v s1 ⟨x, H1, I1, r1, q1⟩ => ?_)
  obtain ⟨c, rfl, q1⟩ := q1
  cases r1
  refine wpAny_truthy_bool ?_
  cases c with
  | true => exact hb pins s1 σ H1 Q I1 q1
  | false => exact ⟨.bl false, H1, I1, rfl, q1⟩
def tIf (t : TT) (ta tb : TE) : TE := fun σ H Q => t σ H fun c H1 => if c = true then ta σ H1 Q else tb σ H1 Q
theorem pe_ifExp {c : Expr} (hc : PT X c tA) (ha : PE X a ta) (hb : PE X b tb) : PE X (.IfExp c a b pos) (tIf tA ta tb) := by
  intro pins s σ H Q I h
  refine wpAny_IfExp (thn (hc pins s σ H _ I h) fun d s1 ⟨H1, I1, q1⟩ => ?_)
  cases d with
  | true => exact ha pins s1 σ H1 Q I1 q1
  | false => exact hb pins s1 σ H1 Q I1 q1
end
end L2
namespace L2
open PySem PySem.Spec PyProof.Rows
def SqL (K : PySem.W.Frag) (H : Hp) (a : Addr) (xs : List V) : Prop :=
  Rd H a (.lst xs) ∨
    ∃ (o : Obj) (its : Array Value) (n : Nat), K.lookup a = some o ∧ o.cls = .type "list" ∧ o.dict = none ∧ o.data = .seq its n ∧ its.size ≤ sizeLine ∧ Vals xs its.toList
def SqT (K : PySem.W.Frag) (H : Hp) (a : Addr) (xs : List V) : Prop :=
  Rd H a (.tup xs) ∨
    ∃ (o : Obj) (its : Array Value) (n : Nat), K.lookup a = some o ∧ o.cls = .type "tuple" ∧ o.data = .seq its n ∧ its.size ≤ sizeLine ∧ Vals xs its.toList
def absV : Value → Option V
  | .none => some .non
  | .bool b => some (.bl b)
  | .int i _ => some (.int i)
  | .str x _ => some (.str x)
  | .bytes b _ => some (.byt b)
  | .float b _ => some (.flt b)
  | .ref a => some (.ref a)
  | .type n => some (.ty n)
  | _ => none
theorem RelV.abs {x : V} {u : Value} (r : RelV x u) : absV u = some x := by
  cases x with
  | non => cases r; rfl
  | bl _ => cases r; rfl
  | int _ => obtain ⟨t, rfl⟩ := r; rfl
  | str _ => obtain ⟨t, rfl⟩ := r; rfl
  | byt _ => obtain ⟨t, rfl⟩ := r; rfl
  | flt _ => obtain ⟨t, rfl⟩ := r; rfl
  | ref _ => cases r; rfl
  | ty _ => cases r; rfl
theorem RelV.inj {x y : V} {u : Value} (r : RelV x u) (q : RelV y u) : x = y := Option.some.inj (r.abs.symm.trans q.abs)
theorem Vals.inj : ∀ {xs ys : List V} {us : List Value}, Vals xs us → Vals ys us → xs = ys
  | _, _, _, .nil, .nil => rfl
  | _, _, _, .cons r t, .cons r' t' => by rw [r.inj r', Vals.inj t t']
section
variable {X : Cx} {pins : List (Addr × Obj)} {σ : St} {H : Hp} {s : Shared} {a : Addr} {xs ys : List V}
theorem SqL.of {K : PySem.W.Frag} (h : H a = some (.lst xs)) : SqL K H a xs := .inl (.inl h)
theorem SqT.of {K : PySem.W.Frag} (h : H a = some (.tup xs)) : SqT K H a xs := .inl (.inl h)
theorem Inv.list (I : Inv X pins σ H s) (h : SqL X.K H a xs) : ∃ its : List Value, Vals xs its ∧ PlainL s.heap a its.toArray ∧ xs.length ≤ sizeLine := by
  rcases h with h | ⟨o, its, n, hk, hc, hd, hs, hz, r⟩
  · obtain ⟨z, its, n, r, e⟩ := h.ok I.hok
    exact ⟨its, r, ⟨_, n, e, rfl, rfl, rfl⟩, z⟩
  · refine ⟨its.toList, r, ⟨o, n, I.kIn a o hk, hc, hd, by simpa using hs⟩, ?_⟩
    have e := r.length
    simp only [Array.length_toList] at e
    omega
theorem Inv.tuple (I : Inv X pins σ H s) (h : SqT X.K H a xs) : ∃ its : List Value, Vals xs its ∧ IsTup s.heap a its.toArray ∧ xs.length ≤ sizeLine := by
  rcases h with h | ⟨o, its, n, hk, hc, hs, hz, r⟩
  · obtain ⟨z, its, r, p⟩ := h.ok I.hok
    exact ⟨its, r, p, z⟩
  · refine ⟨its.toList, r, ⟨o, I.kIn a o hk, hc, n, by simpa using hs⟩, ?_⟩
    have e := r.length
    simp only [Array.length_toList] at e
    omega
theorem Inv.list_inj (I : Inv X pins σ H s) (h : SqL X.K H a xs) (h' : SqL X.K H a ys) : xs = ys := by
  obtain ⟨its, r, ⟨o, n, e, _, _, d⟩, _⟩ := I.list h
  obtain ⟨its', r', ⟨o', n', e', _, _, d'⟩, _⟩ := I.list h'
  rw [e] at e'; cases e'
  rw [d] at d'
  injection d' with d1 _
  have : its = its' := by simpa using congrArg Array.toList d1
  subst this
  exact r.inj r'
end
abbrev Cx.wish (X : Cx) (E : Value → Shared → Prop) : Cx := { X with xe := E }
abbrev Cx.nox (X : Cx) : Cx := X.wish fun _ _ => False
theorem Cx.Ok.wish {X : Cx} (ok : X.Ok) (E : Value → Shared → Prop) : (X.wish E).Ok :=
  ⟨ok.mod, ok.kind, ok.glob, ok.blt, ok.above, ok.inj, ok.has, ok.cab, ok.hd, ok.frames, ok.stk, ok.exf, ok.bs, ok.bsz, ok.noex, ok.exfs, ok.funs, ok.frf⟩
theorem Cx.Ok.unwish {X : Cx} {E : Value → Shared → Prop} (ok : (X.wish E).Ok) : X.Ok :=
  ⟨ok.mod, ok.kind, ok.glob, ok.blt, ok.above, ok.inj, ok.has, ok.cab, ok.hd, ok.frames, ok.stk, ok.exf, ok.bs, ok.bsz, ok.noex, ok.exfs, ok.funs, ok.frf⟩
section
variable {X : Cx} {pins : List (Addr × Obj)} {σ : St} {H : Hp} {s : Shared} {E : Value → Shared → Prop}
theorem Inv.wish (I : Inv X pins σ H s) (E : Value → Shared → Prop) : Inv (X.wish E) pins σ H s := ⟨I.ok.wish E, I.os, I.bare, I.base, I.loc, I.cell, I.free, I.freeC, I.pin, I.hok, I.len⟩
theorem Inv.unwish (I : Inv (X.wish E) pins σ H s) : Inv X pins σ H s := ⟨I.ok.unwish, I.os, I.bare, I.base, I.loc, I.cell, I.free, I.freeC, I.pin, I.hok, I.len⟩
theorem SP.unwish {D : Ends} {f : Flow} {s' : Shared} (h : SP (X.wish E) pins D f s') : SP X pins D f s' := by
  cases f with
  | next => obtain ⟨σ', H', I, q⟩ := h; exact ⟨σ', H', I.unwish, q⟩
  | brk => obtain ⟨σ', H', I, q⟩ := h; exact ⟨σ', H', I.unwish, q⟩
  | cont => obtain ⟨σ', H', I, q⟩ := h; exact ⟨σ', H', I.unwish, q⟩
  | ret u => obtain ⟨v, σ', H', I, r, q⟩ := h; exact ⟨v, σ', H', I.unwish, r, q⟩
theorem PSs.nox {st : List Stmt} {t : TS} (h : PSs X.nox st t) : PSs X st t := fun pins s σ H D I hw =>
  wpAny_mono (h pins s σ H D (I.wish _) hw) (fun _ _ q => q.unwish) fun _ _ z => False.elim z
end
section
variable {X : Cx} {st : Stmt} {rest : List Stmt} {t u : TS} {e : Expr} {te : TE} {pos : Pos}
def tNext : TS := fun D σ H => D.nx σ H
def tSeq (t u : TS) : TS := fun D σ H => t { D with nx := u D } σ H
theorem pss_nil : PSs X [] tNext := fun _ _ σ H _ I h => wpAny_execs_nil ⟨σ, H, I, h⟩
theorem pss_cons (h1 : PS X st t) (h2 : PSs X rest u) : PSs X (st :: rest) (tSeq t u) := by
  intro pins s σ H D I h
  refine wpAny_execs_cons (thn (h1 pins s σ H { D with nx := u D } I h) fun f s1 q => ?_)
  cases f with
  | next =>
    obtain ⟨σ', H', I', q⟩ := q
    exact h2 pins s1 σ' H' D I' q
  | ret v => exact q
  | brk => exact q
  | cont => exact q
theorem pss_one (h1 : PS X st t) : PSs X [st] t := by
  intro pins s σ H D I h
  refine wpAny_execs_cons (thn (h1 pins s σ H D I h) fun f s1 q => ?_)
  cases f with
  | next => exact wpAny_execs_nil q
  | ret v => exact q
  | brk => exact q
  | cont => exact q
theorem Inv.quiet {pins : List (Addr × Obj)} {σ : St} {H : Hp} {s : Shared} (I : Inv X pins σ H s) : interactive X.env = false := by simp [interactive, I.ok.kind]
def tDrop (te : TE) : TS := fun D σ H => te σ H fun _ H1 => D.nx σ H1
theorem ps_expr (he : PE X e te) (hs : swapsWith e none pos.line X.env = pure false := by rfl) : PS X (.Expr e pos) (tDrop te) := by
  intro pins s σ H D I h
  exact wpAny_Expr_any (thn (he pins s σ H _ I h) fun v s1 ⟨x, H1, I1, r1, q1⟩ => ⟨σ, H1, I1, q1⟩) I.quiet hs
def tRet (te : TE) : TS := fun D σ H => te σ H D.rt
theorem ps_ret (he : PE X e te) : PS X (.Return (some e) pos) (tRet te) := by
  intro pins s σ H D I h
  exact wpAny_Return_some (thn (he pins s σ H _ I h) fun v s1 ⟨x, H1, I1, r1, q1⟩ => ⟨x, σ, H1, I1, r1, q1⟩)
def tIfS (c : TT) (t u : TS) : TS := fun D σ H => c σ H fun b H1 => if b = true then t D σ H1 else u D σ H1
theorem ps_if {c : Expr} {a b : List Stmt} {tc : TT} (hc : PT X c tc) (ha : PSs X a t) (hb : PSs X b u) : PS X (.If c a b pos) (tIfS tc t u) := by
  intro pins s σ H D I h
  refine wpAny_If (thn (hc pins s σ H _ I h) fun d s1 ⟨H1, I1, q1⟩ => ?_)
  cases d with
  | true => exact ha pins s1 σ H1 D I1 q1
  | false => exact hb pins s1 σ H1 D I1 q1
def tNever : TS := fun _ _ _ => False
theorem ps_never : PS X st tNever := fun _ _ _ _ _ _ h => h.elim
end
abbrev TG := V → St → Hp → (St → Hp → Prop) → Prop
abbrev TGs := List V → St → Hp → (St → Hp → Prop) → Prop
def PG (X : Cx) (target : Expr) (t : TG) : Prop :=
  ∀ (pins : List (Addr × Obj)) (s : Shared) (σ : St) (H : Hp) (v : V) (u : Value) (Q : St → Hp → Prop), Inv X pins σ H s → RelV v u → t v σ H Q →
    wpAny (model X.prog X.w) X.A (assign target X.env u) (fun _ s' => ∃ σ' H', Inv X pins σ' H' s' ∧ Q σ' H') X.xe s
def PGs (X : Cx) (ts : List Expr) (t : TGs) : Prop :=
  ∀ (pins : List (Addr × Obj)) (s : Shared) (σ : St) (H : Hp) (vs : List V) (us : List Value) (Q : St → Hp → Prop), Inv X pins σ H s → Vals vs us → t vs σ H Q →
    wpAny (model X.prog X.w) X.A (assignInOrder ((assignEach ts X.env).map (·.2)) us) (fun _ s' => ∃ σ' H', Inv X pins σ' H' s' ∧ Q σ' H') X.xe s
abbrev TSet := V → V → V → Hp → (Hp → Prop) → Prop
def PSet (X : Cx) (t : TSet) : Prop :=
  ∀ (pins : List (Addr × Obj)) (s : Shared) (σ : St) (H : Hp) (o i v : V) (ov iv u : Value) (Q : Hp → Prop), Inv X pins σ H s → RelV o ov → RelV i iv → RelV v u → t o i v H Q →
    wpAny (model X.prog X.w) X.A (setItem ov iv u) (fun _ s' => ∃ H', Inv X pins σ H' s' ∧ Q H') X.xe s
abbrev TIp := V → V → Hp → VK → Prop
def PIp (X : Cx) (op : Operator) (t : TIp) : Prop :=
  ∀ (pins : List (Addr × Obj)) (s : Shared) (σ : St) (H : Hp) (x y : V) (v u : Value) (Q : VK), Inv X pins σ H s → RelV x v → RelV y u → t x y H Q →
    wpAny (model X.prog X.w) X.A (inplaceOp op v u) (EP X pins σ Q) X.xe s
section
variable {X : Cx} {pos : Pos}
def gName (i : Nat) : TG := fun v σ H Q => Q (σ.set i (some v)) H
theorem pg_name {i : Nat} {x : Str} (hN : X.N.Nodup) (hi : X.N[i]? = some x) (hx : Loc X.env.scope x) (hf : X.fn x = true ∨ X.env.scope.names.lookup x = some .local := by first | exact .inl rfl | exact .inr rfl | assumption) : PG X (.Name x pos) (gName i) := by
  intro pins s σ H v u Q I r h
  exact wpAny_assign_Name (store_ok I hN hi hx r (fun s' I' => ⟨_, H, I', h⟩) hf)
def gNil : TGs := fun vs σ H Q => vs = [] ∧ Q σ H
def gCons (t : TG) (u : TGs) : TGs := fun vs σ H Q => ∃ v r, vs = v :: r ∧ t v σ H fun σ' H' => u r σ' H' Q
theorem pgs_nil : PGs X [] gNil := by
  intro pins s σ H vs us Q I r h
  obtain ⟨e, h⟩ := h
  subst e
  cases r
  exact assignInOrder_nil ⟨σ, H, I, h⟩
theorem pgs_cons {e : Expr} {es : List Expr} {t : TG} {u : TGs} (h1 : PG X e t) (h2 : PGs X es u)
    (hs : (assignEach (e :: es) X.env).map (·.2) = assign e X.env :: (assignEach es X.env).map (·.2) := by rfl) : PGs X (e :: es) (gCons t u) := by
  intro pins s σ H vs us Q I r h
  obtain ⟨v, vr, e1, h⟩ := h
  subst e1
  cases r with
  | cons r rr =>
    rw [hs]
    refine assignInOrder_cons (thn (h1 pins s σ H _ _ _ I r h) fun _ s1 ⟨σ1, H1, I1, q1⟩ => ?_)
    exact h2 pins s1 σ1 H1 _ _ Q I1 rr q1
def gTup (K : PySem.W.Frag) (n : Nat) (t : TGs) : TG := fun v σ H Q => ∃ a xs, v = .ref a ∧ SqT K H a xs ∧ xs.length = n ∧ t xs σ H Q
theorem pg_tup {es : List Expr} {k : Nat} {t : TGs} {n : Nat} (hc : X.calm = true) (h : PGs X es t)
    (hn : (assignEach es X.env).length = n := by rfl) (hst : (assignEach es X.env).findIdx? (·.1) = none := by rfl) : PG X (.Tuple es k pos) (gTup X.K n t) := by
  intro pins s σ H v u Q I r hw
  obtain ⟨a, xs, e1, hq, hl, hw⟩ := hw
  subst e1
  cases r
  obtain ⟨its, rv, ht, hz⟩ := I.tuple hq
  refine assign_Tuple_tuple (I.ok.hd hc) ht (by simp [hn, ← hl, rv.length]) hst fun h' hx => ?_
  have I1 : Inv X pins σ H { s with heap := h' } := I.kept (t' := s.toks) fun b o e => hx b o (Nat.ne_of_lt (Heap.lt_size e)) e
  exact h pins _ σ H xs _ Q I1 (by simpa using rv) hw
def gSub (to ti : TE) (t : TSet) : TG := fun v σ H Q => to σ H fun o H1 => ti σ H1 fun i H2 => t o i v H2 fun H3 => Q σ H3
theorem pg_sub {o i : Expr} {to ti : TE} {t : TSet} (ho : PE X o to) (hi : PE X i ti) (hs : PSet X t)
    (ha : ∀ v, assign (.Subscript o i pos) X.env v = (do
      let ov ← holding [v] (eval o X.env)
      let iv ← holding [v, ov] (eval i X.env)
      standAt pos
      holding [v, ov, iv] (setItem ov iv v)
      release [v, ov, iv] []) := by intro _; rfl) : PG X (.Subscript o i pos) (gSub to ti t) := by
  intro pins s σ H v u Q I r h
  rw [ha]
  refine wpAny_bind (wpAny_holding (thn (ho pins s σ H _ I h) fun ov s1 ⟨x, H1, I1, r1, q1⟩ => ?_))
  refine wpAny_bind (wpAny_holding (thn (hi pins s1 σ H1 _ I1 q1) fun iv s2 ⟨y, H2, I2, r2, q2⟩ => ?_))
  refine wpAny_bind (wpAny_standAt (wpAny_bind (wpAny_holding (thn (hs pins s2 σ H2 x y v ov iv u _ I2 r1 r2 r q2) fun _ s3 ⟨H3, I3, q3⟩ => ?_))))
  exact wpAny_release ⟨σ, H3, I3, q3⟩
def tAsg (te : TE) (g : TG) : TS := fun D σ H => te σ H fun x H1 => g x σ H1 D.nx
theorem ps_asg {tg e : Expr} {te : TE} {g : TG} (he : PE X e te) (hg : PG X tg g) (hs : swapsWithSole [tg] e pos.line X.env = pure false := by rfl) (hw : swappedStores [tg] e X.env = pure none := by rfl)
    (h1 : (assignEach [tg] X.env).map (·.2) = [assign tg X.env] := by rfl) : PS X (.Assign [tg] e pos) (tAsg te g) := by
  intro pins s σ H D I h
  refine wpAny_Assign_stores (thn (he pins s σ H _ I h) fun v s1 ⟨x, H1, I1, r1, q1⟩ => ?_) hs hw
  rw [h1]
  exact thn (hg pins s1 σ H1 x v _ I1 r1 q1) fun _ s2 q => q
theorem ps_set {i : Nat} {x : Str} {e : Expr} {te : TE} {pos' : Pos} (hN : X.N.Nodup) (hi : X.N[i]? = some x) (hx : Loc X.env.scope x) (he : PE X e te) (hs : swapsWith e (some (.Name x pos')) pos.line X.env = pure false := by rfl) (hf : X.fn x = true ∨ X.env.scope.names.lookup x = some .local := by first | exact .inl rfl | exact .inr rfl | assumption) :
    PS X (.Assign [.Name x pos'] e pos) (tAsg te (gName i)) := by
  intro pins s σ H D I h
  refine wpAny_Assign_Name (thn (he pins s σ H _ I h) fun v s1 ⟨y, H1, I1, r1, q1⟩ => ?_) hs
  exact store_ok I1 hN hi hx r1 (fun s2 I2 => ⟨_, H1, I2, q1⟩) hf
def tAug (i : Nat) (te : TE) (ti : TIp) : TS := fun D σ H => ∃ x, σ[i]? = some (some x) ∧ te σ H fun y H1 => ti x y H1 fun z H2 => D.nx (σ.set i (some z)) H2
theorem ps_aug {i : Nat} {x : Str} {e : Expr} {te : TE} {op : Operator} {ti : TIp} {pos' : Pos} (hN : X.N.Nodup) (hi : X.N[i]? = some x) (hx : Loc X.env.scope x) (he : PE X e te) (ho : PIp X op ti) (hf : X.fn x = true ∨ X.env.scope.names.lookup x = some .local := by first | exact .inl rfl | exact .inr rfl | assumption) :
    PS X (.AugAssign (.Name x pos') op e pos) (tAug i te ti) := by
  intro pins s σ H D I h
  obtain ⟨v, e1, h⟩ := h
  obtain ⟨m, hn, hl⟩ := I.loc
  have vis : Vis X.env.scope x := by rcases hx with k | k; exact .inl k; exact .inr (.inl k)
  obtain ⟨u, r, l⟩ := hl i x v hi e1 vis
  refine wpAny_AugAssign_Name ?_
  have go : wpAny (model X.prog X.w) X.A (eval e X.env) (fun w s₂ => wpAny (model X.prog X.w) X.A (inplaceOp op u w) (fun r s₃ => wpAny (model X.prog X.w) X.A (storeName X.env x r) (fun _ => SP X pins D .next) X.xe s₃) X.xe s₂) X.xe s := by
    refine thn (he pins s σ H _ I h) fun w s1 ⟨y, H1, I1, r1, q1⟩ => ?_
    refine thn (ho pins s1 σ H1 v y u w _ I1 r r1 q1) fun z s2 ⟨zv, H2, I2, r2, q2⟩ => ?_
    exact store_ok I2 hN hi hx r2 (fun s3 I3 => ⟨_, H2, I3, q2⟩) hf
  rcases l with ⟨hk, hm⟩ | ⟨hk, c, hc, hcell⟩
  · exact wpAny_loadName_local I.ok.kind hk hn hm go
  · rcases hk with hk | hk
    · exact wpAny_loadName_cell I.ok.kind hk hc hcell go
    · rcases hx with k | k
      · have : X.env.scope.names.lookup x = some .free := hk
        rw [k] at this; cases this
      · have : X.env.scope.names.lookup x = some .free := hk
        rw [k] at this; cases this
def ipI (f : Int → Int → Int) : TIp := fun x y H Q => ∃ i j, x = .int i ∧ y = .int j ∧ Q (.int (f i j)) H
theorem ip_add : PIp X .Add (ipI fun i j => i + j) := by
  intro pins s σ H x y v u Q I r1 r2 h
  obtain ⟨i, j, e1, e2, q⟩ := h
  subst e1; subst e2
  obtain ⟨t, rfl⟩ := r1
  obtain ⟨t', rfl⟩ := r2
  exact iadd_int ⟨.int _, H, I.tok _, ⟨_, rfl⟩, q⟩
end
section
variable {X : Cx} {pos : Pos}
def tWhile (c : TT) (tb : TS) : TS := fun D σ H => ∃ W : Nat → St → Hp → Prop, (∃ m, W m σ H) ∧ ∀ m σ H, W m σ H →
  c σ H fun b H1 => if b = true then ∃ N : St → Hp → Prop, (∀ σ' H', N σ' H' → ∃ m', m' < m ∧ W m' σ' H') ∧ tb { D with nx := N, ct := N, bk := D.nx } σ H1 else D.nx σ H1
theorem ps_while {c : Expr} {body : List Stmt} {tc : TT} {tb : TS} (hp : PassesOwn (model X.prog X.w) X.A X.env X.xe) (hc : PT X c tc) (hb : PSs X body tb) : PS X (.While c body [] pos) (tWhile tc tb) := by
  intro pins s σ H D I h
  obtain ⟨W, ⟨m0, w0⟩, turn⟩ := h
  refine wpAny_While (codeAny_whileLoop (fun n s' => ∃ σ' H', Inv X pins σ' H' s' ∧ W n σ' H') ?_ m0 ⟨σ, H, I, w0⟩)
  rintro n s1 ⟨σ1, H1, I1, w1⟩
  refine wpAny_passesOwn hp (thn (hc pins s1 σ1 H1 _ I1 (turn n σ1 H1 w1)) fun b s2 ⟨H2, I2, q2⟩ => ?_)
  cases b with
  | true =>
    obtain ⟨N, hN, q2⟩ := q2
    rw [if_pos rfl]
    refine wpAny_passesOwn hp (thn (hb pins s2 σ1 H2 _ I2 q2) fun f s3 q3 => ?_)
    cases f with
    | next =>
      obtain ⟨σ3, H3, I3, n3⟩ := q3
      obtain ⟨m', hm, w3⟩ := hN σ3 H3 n3
      exact ⟨m', hm, σ3, H3, I3, w3⟩
    | cont =>
      obtain ⟨σ3, H3, I3, n3⟩ := q3
      obtain ⟨m', hm, w3⟩ := hN σ3 H3 n3
      exact ⟨m', hm, σ3, H3, I3, w3⟩
    | brk => exact q3
    | ret v => exact q3
  | false =>
    rw [if_neg Bool.false_ne_true]
    exact wpAny_execs_nil ⟨σ1, H2, I2, q2⟩
end
structure It where
  go : Nat → Hp → Prop
  yld : Nat → Hp → V → Hp → Prop
  stop : Nat → Hp → Prop
def FpOk (X : Cx) (pins : List (Addr × Obj)) (H : Hp) (b : Addr) : Prop :=
  H b = none ∧ b ≠ X.env.locals ∧ b ∉ X.fs ∧ (b ∈ X.ex ∨ X.s₀.heap.objs.size ≤ b) ∧ (∀ x c, X.env.cells.lookup x = some c → c ≠ b) ∧ ∀ p ∈ X.pn ++ pins, p.1 ≠ b
theorem Inv.fpOk {X : Cx} {pins : List (Addr × Obj)} {σ : St} {H H' : Hp} {s : Shared} {b : Addr} (I : Inv X pins σ H s) (hb : s.heap.objs.size ≤ b) (hn : H' b = none) : FpOk X pins H' b := by
  refine ⟨hn, Nat.ne_of_gt (Nat.lt_of_lt_of_le I.lt hb), I.nofs hb, .inr (Nat.le_trans I.sz hb), fun x c e z => ?_, fun p hp z => ?_⟩
  · obtain ⟨v, q⟩ := I.cell x c e
    exact absurd (Nat.lt_of_lt_of_le q.lt (by rw [z]; exact hb)) (Nat.lt_irrefl _)
  · exact absurd (Nat.lt_of_lt_of_le (Heap.lt_size (I.pin p hp).1) (by rw [z]; exact hb)) (Nat.lt_irrefl _)
structure Turn (P : Program) (w : World) (K : PySem.W.Frag) (tg : Expr) (J : It) (fp : List Addr) (it : Addr) (tn : Nat → Heap → Prop) : Prop where
  mem : it ∈ fp
  obj : ∀ i h, tn i h → ∀ b ∈ fp, ∃ o, h.get? b = some o ∧ ∀ v, o.data ≠ .cell v
  keep : ∀ i h h', tn i h → (∀ b ∈ fp, ∀ o, h.get? b = some o → h'.get? b = some o) → tn i h'
  item : ∀ (X : Cx), X.prog = P → X.w = w → X.K = K → X.calm = true → ∀ (i : Nat) (pins : List (Addr × Obj)) (s : Shared) (σ : St) (H : Hp) (E : Value → Shared → Prop), Inv X pins σ H s → (∀ b ∈ fp, FpOk X pins H b) → tn i s.heap → J.go i H →
    wpAny (model P w) X.A (pyNext (.ref it)) (fun r s1 => ∃ u, r = some u ∧
      wpAny (model P w) X.A (letOwnedTupleGo tg (.ref it) u) (fun _ s2 => ∃ x H', Inv X pins σ H' s2 ∧ RelV x u ∧ J.yld i H x H' ∧ tn (i + 1) s2.heap ∧ ∀ b ∈ fp, H' b = none) E s1) E s
  done : ∀ (X : Cx), X.prog = P → X.w = w → X.K = K → X.calm = true → ∀ (i : Nat) (pins : List (Addr × Obj)) (s : Shared) (σ : St) (H : Hp) (E : Value → Shared → Prop), Inv X pins σ H s → (∀ b ∈ fp, FpOk X pins H b) → tn i s.heap → J.stop i H →
    wpAny (model P w) X.A (pyNext (.ref it)) (fun r s1 => r = none ∧ Inv X pins σ H s1) E s
  self : ∀ (A : Around) (i : Nat) (s : Shared) (Q : Value → Shared → Prop) (E : Value → Shared → Prop), tn i s.heap → Q (.ref it) s → wpAny (model P w) A (pyIter (.ref it)) Q E s
abbrev TI := St → Hp → (It → Hp → Prop) → Prop
def PIE (X : Cx) (pins : List (Addr × Obj)) (σ : St) (tg : Expr) (R : It → Hp → Prop) (itv : Value) (s2 : Shared) : Prop :=
  ∃ (it : Addr) (fp : List Addr) (tn : Nat → Heap → Prop) (J : It) (H' : Hp), itv = .ref it ∧ Inv X pins σ H' s2 ∧ Turn X.prog X.w X.K tg J fp it tn ∧ tn 0 s2.heap ∧ (∀ b ∈ fp, FpOk X pins H' b) ∧ R J H'
def PI (X : Cx) (tg iter : Expr) (wi : TI) : Prop :=
  ∀ (pins : List (Addr × Obj)) (s : Shared) (σ : St) (H : Hp) (R : It → Hp → Prop), Inv X pins σ H s → wi σ H R →
    wpAny (model X.prog X.w) X.A (eval iter X.env) (fun v s1 => wpAny (model X.prog X.w) X.A (pyIter v) (PIE X pins σ tg R) X.xe s1) X.xe s
theorem go_of {M : Model} {A : Around} {E : Value → Shared → Prop} {s : Shared} {tg : Expr} {it : Addr} {u : Value} {o : Obj} {n : String} {vs : Array Value} {Q : Unit → Shared → Prop} (ho : s.heap.get? it = some o) (hc : o.cls = .type n) (hd : o.data = .fields vs)
    (hn : ["enumerate", "zip", "dict_itemiterator", "dict_reverseitemiterator", "odict_iterator", "itertools.zip_longest", "itertools.pairwise"].contains n = false) (hQ : Q () s) : wpAny M A (letOwnedTupleGo tg (.ref it) u) Q E s := by
  unfold letOwnedTupleGo
  cases tg <;> first
    | exact wpAny_pure hQ
    | (cases u <;> first
        | exact wpAny_pure hQ
        | (refine wpAny_bind (wpAny_load ho ?_)
           rw [hc, hd]
           show wpAny M A (if (["enumerate", "zip", "dict_itemiterator", "dict_reverseitemiterator", "odict_iterator", "itertools.zip_longest", "itertools.pairwise"].contains n && vs[0]? == some (rawInt _)) = true then _ else _) Q E s
           rw [if_neg (by intro h; rw [hn, Bool.false_and] at h; cases h)]
           exact wpAny_pure hQ))
def Itl (K : PySem.W.Frag) (a : Addr) : It :=
  ⟨fun i H => ∃ xs x, SqL K H a xs ∧ xs[i]? = some x, fun i H x H' => H' = H ∧ ∀ xs, SqL K H a xs → xs[i]? = some x, fun i H => ∃ xs, SqL K H a xs ∧ xs.length ≤ i⟩
def Itr (lo : Int) (n : Nat) : It := ⟨fun i _ => i < n, fun i H x H' => H' = H ∧ x = .int (lo + i), fun i _ => n ≤ i⟩
theorem turn_list {P : Program} {w : World} {K : PySem.W.Frag} {tg : Expr} (a it : Addr) : Turn P w K tg (Itl K a) [it] it (fun i h => h.IsListIter it a i) where
  mem := by simp
  obj := fun i h st b hb => by
    have e : b = it := by simpa using hb
    subst e
    obtain ⟨o, e, c, d⟩ := st
    exact ⟨o, e, fun v z => by rw [d] at z; cases z⟩
  keep := fun i h h' st k => st.at fun o e => k it (by simp) o e
  item := by
    intro X hP hw hK hc i pins s σ H E I hf st hg
    subst hP hw hK
    obtain ⟨xs, x, hq, hx⟩ := hg
    obtain ⟨its, rv, p, hz⟩ := I.list hq
    obtain ⟨u, hu, ru⟩ := rv.get hx
    obtain ⟨f0, f1, f2, f3, f4, f5⟩ := hf it (by simp)
    refine wpAny_pyNext_list_item st p.isList (x := u) (by simpa using hu) fun h' st' sb => ?_
    have I1 : Inv X pins σ H { s with heap := h' } := I.turned (t' := s.toks) (fun b o hb e => (sb.2 b hb).trans e) f0 f1 f3 f4 f5
    obtain ⟨o, e, c, d⟩ := id st'
    exact ⟨u, rfl, go_of (s := { s with heap := h' }) e c d (by decide) ⟨x, H, I1, ru, ⟨rfl, fun ys hy => by rw [I.list_inj hy hq]; exact hx⟩, st', fun b hb => (hf b hb).1⟩⟩
  done := by
    intro X hP hw hK hc i pins s σ H E I hf st hg
    subst hP hw hK
    obtain ⟨xs, hq, hx⟩ := hg
    obtain ⟨its, rv, p, hz⟩ := I.list hq
    obtain ⟨f0, f1, f2, f3, f4, f5⟩ := hf it (by simp)
    have hl := rv.length
    exact wpAny_pyNext_list_end (I.ok.hd hc) st p.isList (by simp; omega) fun h' eb => ⟨rfl, I.turned (t' := s.toks) (fun b o hb e => eb b o hb e) f0 f1 f3 f4 f5⟩
  self := fun _ _ _ _ _ st h => wpAny_pyIter_listiter st h
theorem turn_range {P : Program} {w : World} {K : PySem.W.Frag} {tg : Expr} (it : Addr) (lo : Int) (n : Nat) : Turn P w K tg (Itr lo n) [it] it (fun i h => IsRangeIter h it (lo + (i : Nat) * 1) ((n : Int) - (i : Nat)) 1) where
  mem := by simp
  obj := fun i h st b hb => by
    have e : b = it := by simpa using hb
    subst e
    exact ⟨_, st, fun v z => by
      have z' : Data.fields _ = Data.cell v := z
      cases z'⟩
  keep := fun i h h' st k => k it (by simp) _ st
  item := by
    intro X hP hw hK hc i pins s σ H E I hf st hg
    subst hP hw hK
    obtain ⟨f0, f1, f2, f3, f4, f5⟩ := hf it (by simp)
    have W := Walks.range (prog := X.prog) (w := X.w) (I.ok.hd hc) it lo 1 n
    refine W.item i s _ _ hg st fun v h' tk hv st' kk => ?_
    obtain ⟨t, rfl⟩ := hv
    have I1 : Inv X pins σ H { s with heap := h', toks := tk } := I.turned (fun b o hb e => kk b o (by simpa using hb) e) f0 f1 f3 f4 f5
    refine ⟨_, rfl, go_of (s := { s with heap := h', toks := tk }) (n := "range_iterator") st' rfl rfl (by decide) ⟨.int (lo + i), H, I1, ⟨t, ?_⟩, ⟨rfl, rfl⟩, st', fun b hb => (hf b hb).1⟩⟩
    rw [Int.mul_one]
  done := by
    intro X hP hw hK hc i pins s σ H E I hf st hg
    subst hP hw hK
    obtain ⟨f0, f1, f2, f3, f4, f5⟩ := hf it (by simp)
    exact wpAny_pyNext_range_end (I.ok.hd hc) st (by have : n ≤ i := hg; omega) fun h' eb => ⟨rfl, I.turned (t' := s.toks) (fun b o hb e => eb b o hb e) f0 f1 f3 f4 f5⟩
  self := fun _ _ _ _ _ st h => wpAny_pyIter_rangeiter st h
end L2
namespace L2
open PySem PySem.Spec PyProof.Rows
section
variable {X : Cx} {tg : Expr}
def iList (K : PySem.W.Frag) (tl : TE) : TI := fun σ H R => tl σ H fun x H1 => ∃ a, x = .ref a ∧ (∃ xs, SqL K H1 a xs) ∧ R (Itl K a) H1
theorem pi_list {l : Expr} {tl : TE} (hl : PE X l tl) : PI X tg l (iList X.K tl) := by
  intro pins s σ H R I h
  refine thn (hl pins s σ H _ I h) fun v s1 ⟨x, H1, I1, r1, q1⟩ => ?_
  obtain ⟨a, e, ⟨xs, hq⟩, q⟩ := q1
  subst e
  cases r1
  obtain ⟨its, rv, p, hz⟩ := I1.list hq
  refine wpAny_pyIter_list p.isList ?_
  refine ⟨s1.heap.objs.size, [s1.heap.objs.size], _, _, H1, rfl, I1.kept (t' := s1.toks) fun b o e => Heap.get?_push_of_some _ e, turn_list a _, ⟨_, Heap.get?_push_size _ rfl, rfl, rfl⟩, fun b hb => ?_, q⟩
  have e : b = s1.heap.objs.size := by simpa using hb
  subst e
  exact I1.fpOk (Nat.le_refl _) (I1.hok.fresh (Nat.le_refl _))
theorem range_it {pins : List (Addr × Obj)} {σ : St} {H : Hp} {s : Shared} {R : It → Hp → Prop} {E : Value → Shared → Prop} {lo hi : Int} {t u v : Tok} {tk : Nat} (I : Inv X pins σ H s) (h1 : -(2 ^ 62) ≤ lo) (h2 : lo < 2 ^ 62) (h3 : -(2 ^ 62) ≤ hi) (h4 : hi < 2 ^ 62)
    (q : R (Itr lo (hi - lo).toNat) H) : wpAny (model X.prog X.w) X.A (pyIter (.ref s.heap.objs.size)) (PIE X pins σ tg R) E { s with heap := s.heap.push { cls := .type "range", data := .fields #[.int lo t, .int hi u, .int 1 v] }, toks := tk } := by
  refine wpAny_pyIter_range (IsRange.new ..) (small_one h1 h2 h3 h4) ?_
  have I1 : Inv X pins σ H { s with heap := s.heap.push { cls := .type "range", data := .fields #[.int lo t, .int hi u, .int 1 v] }, toks := tk } := I.kept fun b o e => Heap.get?_push_of_some _ e
  refine ⟨(s.heap.push { cls := .type "range", data := .fields #[.int lo t, .int hi u, .int 1 v] }).objs.size, [(s.heap.push { cls := .type "range", data := .fields #[.int lo t, .int hi u, .int 1 v] }).objs.size], _, _, H, rfl,
    I1.kept (t' := tk) fun b o e => Heap.get?_push_of_some _ e, turn_range _ lo (hi - lo).toNat, ?_, fun b hb => ?_, q⟩
  · have e1 : lo + ((0 : Nat) : Int) * 1 = lo := by simp
    have e2 : (((hi - lo).toNat : Nat) : Int) - ((0 : Nat) : Int) = Builtin.Range.rangeSize lo hi 1 := by rw [rangeSize_one]; split <;> omega
    show IsRangeIter _ _ (lo + ((0 : Nat) : Int) * 1) ((((hi - lo).toNat : Nat) : Int) - ((0 : Nat) : Int)) 1
    rw [e1, e2]
    exact Heap.get?_push_size _ rfl
  · have e : b = (s.heap.push { cls := .type "range", data := .fields #[.int lo t, .int hi u, .int 1 v] }).objs.size := by simpa using hb
    subst e
    exact I1.fpOk (Nat.le_refl _) (I1.hok.fresh (Nat.le_refl _))
def iRng1 (ta : TA) : TI := fun σ H R => ta σ H fun vs H1 => ∃ j : Int, vs = [.int j] ∧ -(2 ^ 62) ≤ j ∧ j < 2 ^ 62 ∧ R (Itr 0 j.toNat) H1
def iRng2 (ta : TA) : TI := fun σ H R => ta σ H fun vs H1 => ∃ i j : Int, vs = [.int i, .int j] ∧ (-(2 ^ 62) ≤ i ∧ i < 2 ^ 62 ∧ -(2 ^ 62) ≤ j ∧ j < 2 ^ 62) ∧ R (Itr i (j - i).toNat) H1
theorem pi_range1 {a : Expr} {ta : TA} {p pos : Pos} (hg : Gl X "range") (hm : X.mg "range" = none) (ha : PA X [a] ta) (hs : starEach [a] X.env = [(false, eval a X.env)] := by rfl) : PI X tg (.Call (.Name "range" p) [a] [] pos) (iRng1 ta) := by
  intro pins s σ H R I h
  refine Call_ (ld_blt I hg hm boot_range (PyProof.Rows.callWith_type1 (thn (ha pos pins s σ H _ I h) fun us s1 ⟨vs, H1, I1, r1, q1⟩ => ?_) hs rfl))
  obtain ⟨j, e, q1, q2, q⟩ := q1
  subst e
  cases r1 with
  | cons r rr =>
    cases rr
    obtain ⟨t, rfl⟩ := r
    exact call_range_1 (range_it I1 (by omega) (by omega) q1 q2 (by simpa using q))
theorem pi_range2 {a b : Expr} {ta : TA} {p pos : Pos} (hg : Gl X "range") (hm : X.mg "range" = none) (ha : PA X [a, b] ta) (hs : starEach [a, b] X.env = [(false, eval a X.env), (false, eval b X.env)] := by rfl) (hs2 : starEach [b] X.env = [(false, eval b X.env)] := by rfl) :
    PI X tg (.Call (.Name "range" p) [a, b] [] pos) (iRng2 ta) := by
  intro pins s σ H R I h
  refine Call_ (ld_blt I hg hm boot_range (PyProof.Rows.callWith_type1 (thn (ha pos pins s σ H _ I h) fun us s1 ⟨vs, H1, I1, r1, q1⟩ => ?_) (by rw [hs, hs2]) (by rw [hs2]; rfl)))
  obtain ⟨i, j, e, ⟨q1, q2, q3, q4⟩, q⟩ := q1
  subst e
  cases r1 with
  | cons r rr =>
    cases rr with
    | cons r' rr =>
      cases rr
      obtain ⟨t, rfl⟩ := r
      obtain ⟨t', rfl⟩ := r'
      exact call_range_2 (range_it I1 q1 q2 q3 q4 q)
def tFor (wi : TI) (g : TG) (tb : TS) : TS := fun D σ H => wi σ H fun J H1 => ∃ W : Nat → Nat → St → Hp → Prop, (∃ m, W 0 m σ H1) ∧ ∀ i m σ H, W i m σ H →
  (J.stop i H ∧ D.nx σ H) ∨ (J.go i H ∧ ∃ N : St → Hp → Prop, (∀ σ' H', N σ' H' → ∃ m', m' < m ∧ W (i + 1) m' σ' H') ∧ ∀ x H', J.yld i H x H' → g x σ H' fun σ2 H2 => tb { D with nx := N, ct := N, bk := D.nx } σ2 H2)
def pinsAt (fp : List Addr) (h : Heap) : List (Addr × Obj) := fp.filterMap fun b => (h.get? b).map fun o => (b, o)
theorem mem_pinsAt {fp : List Addr} {h : Heap} {b : Addr} {o : Obj} (hb : b ∈ fp) (e : h.get? b = some o) : (b, o) ∈ pinsAt fp h := List.mem_filterMap.mpr ⟨b, hb, by rw [e]; rfl⟩
theorem of_pinsAt {fp : List Addr} {h : Heap} {p : Addr × Obj} (hp : p ∈ pinsAt fp h) : p.1 ∈ fp ∧ h.get? p.1 = some p.2 := by
  obtain ⟨b, hb, e⟩ := List.mem_filterMap.mp hp
  cases q : h.get? b with
  | none => rw [q] at e; cases e
  | some o =>
    rw [q] at e
    have e' : (b, o) = p := Option.some.inj e
    subst e'
    exact ⟨hb, q⟩
theorem Inv.pinned {pins : List (Addr × Obj)} {σ : St} {H : Hp} {s : Shared} {fp : List Addr} (I : Inv X pins σ H s) (hf : ∀ b ∈ fp, FpOk X pins H b) (ho : ∀ b ∈ fp, ∃ o, s.heap.get? b = some o ∧ ∀ v, o.data ≠ .cell v) : Inv X (pins ++ pinsAt fp s.heap) σ H s :=
  I.pins_of fun p hp => (List.mem_append.mp hp).elim (fun z => I.pin p (List.mem_append_right _ z)) fun z => by
    obtain ⟨hb, e⟩ := of_pinsAt z
    obtain ⟨f0, f1, f2, _⟩ := hf p.1 hb
    obtain ⟨o, e', d⟩ := ho p.1 hb
    rw [e] at e'; cases e'
    exact ⟨e, f0, f1, f2, d⟩
theorem Inv.unpinned {pins pl : List (Addr × Obj)} {σ : St} {H : Hp} {s : Shared} (I : Inv X (pins ++ pl) σ H s) : Inv X pins σ H s := I.pins_of fun p hp => I.pin p (List.mem_append_right _ (List.mem_append_left _ hp))
theorem ps_for {iter : Expr} {body : List Stmt} {wi : TI} {g : TG} {tb : TS} {pos : Pos} (hp : PassesOwn (model X.prog X.w) X.A X.env X.xe) (hc : X.calm = true) (hi : PI X tg iter wi) (hg : PG X tg g) (hb : PSs X body tb)
    (hs : ∀ x, foldedSetIterable iter X.env x = pure x := by intro _; rfl) : PS X (.For tg iter body [] pos) (tFor wi g tb) := by
  intro pins s σ H D I h
  refine wpAny_For (thn (hi pins s σ H _ I h) fun v s1 h1 => thn h1 fun itv s2 h2 => ?_) hs
  obtain ⟨it, fp, tn, J, H2, e, I2, T, st2, f2, W, ⟨m0, w0⟩, turn⟩ := h2
  subst e
  have stat : ∀ {H' : Hp}, (∀ b ∈ fp, H' b = none) → ∀ b ∈ fp, FpOk X pins H' b := fun hn b hb => ⟨hn b hb, (f2 b hb).2⟩
  refine codeAny_forLoop_any (fun n s' => ∃ i σ' H', Inv X pins σ' H' s' ∧ tn i s'.heap ∧ (∀ b ∈ fp, H' b = none) ∧ W i n σ' H') ?_ m0 ⟨0, σ, H2, I2, st2, fun b hb => (f2 b hb).1, w0⟩
  rintro n s3 ⟨i, σ3, H3, I3, st3, fr3, w3⟩
  rcases turn i n σ3 H3 w3 with ⟨stop, qn⟩ | ⟨go, N, hN, step⟩
  · refine wpAny_passesOwn hp (thn (T.done X rfl rfl rfl hc i pins s3 σ3 H3 X.xe I3 (stat fr3) st3 stop) fun r s4 ⟨hr, I4⟩ => ?_)
    subst hr
    exact wpAny_execs_nil ⟨σ3, H3, I4, qn⟩
  · refine wpAny_passesOwn hp (thn (T.item X rfl rfl rfl hc i pins s3 σ3 H3 X.xe I3 (stat fr3) st3 go) fun r s4 ⟨u, hr, h4⟩ => ?_)
    subst hr
    refine wpAny_passesOwn hp (thn h4 fun _ s5 ⟨x, H5, I5, r5, y5, st5, fr5⟩ => ?_)
    have I5' := I5.pinned (stat fr5) (T.obj _ _ st5)
    refine wpAny_passesOwn hp (thn (hg _ s5 σ3 H5 x u _ I5' r5 (step x H5 y5)) fun _ s6 ⟨σ6, H6, I6, q6⟩ => ?_)
    refine wpAny_passesOwn hp (thn (hb _ s6 σ6 H6 _ I6 q6) fun f s7 q7 => ?_)
    have again : ∀ {σ7 : St} {H7 : Hp}, Inv X (pins ++ pinsAt fp s5.heap) σ7 H7 s7 → N σ7 H7 → ∃ m, m < n ∧ ∃ i σ' H', Inv X pins σ' H' s7 ∧ tn i s7.heap ∧ (∀ b ∈ fp, H' b = none) ∧ W i m σ' H' := fun {σ7 H7} I7 n7 => by
      obtain ⟨m', hm, w7⟩ := hN σ7 H7 n7
      refine ⟨m', hm, i + 1, σ7, H7, I7.unpinned, T.keep _ _ _ st5 fun b hb o e => (I7.pin (b, o) (List.mem_append_right _ (List.mem_append_right _ (mem_pinsAt hb e)))).1, fun b hb => ?_, w7⟩
      obtain ⟨o, e, d⟩ := T.obj _ _ st5 b hb
      exact (I7.pin (b, o) (List.mem_append_right _ (List.mem_append_right _ (mem_pinsAt hb e)))).2.1
    cases f with
    | next => obtain ⟨σ7, H7, I7, n7⟩ := q7; exact again I7 n7
    | cont => obtain ⟨σ7, H7, I7, n7⟩ := q7; exact again I7 n7
    | brk => obtain ⟨σ7, H7, I7, q7⟩ := q7; exact ⟨σ7, H7, I7.unpinned, q7⟩
    | ret v => obtain ⟨x7, σ7, H7, I7, r7, q7⟩ := q7; exact ⟨x7, σ7, H7, I7.unpinned, r7, q7⟩
end
theorem for_list {K : PySem.W.Frag} {a : Addr} {xs : List V} {g : TG} {tb : TS} {D : Ends} {σ : St} {H : Hp} (Pv : Nat → St → Hp → Prop) (h0 : Pv 0 σ H) (hl : ∀ i σ H, i ≤ xs.length → Pv i σ H → SqL K H a xs)
    (hs : ∀ i x σ H, xs[i]? = some x → Pv i σ H → g x σ H fun σ2 H2 => tb { D with nx := Pv (i + 1), ct := Pv (i + 1), bk := D.nx } σ2 H2) (hd : ∀ σ H, Pv xs.length σ H → D.nx σ H) :
    ∃ W : Nat → Nat → St → Hp → Prop, (∃ m, W 0 m σ H) ∧ ∀ i m σ H, W i m σ H →
      ((Itl K a).stop i H ∧ D.nx σ H) ∨ ((Itl K a).go i H ∧ ∃ N : St → Hp → Prop, (∀ σ' H', N σ' H' → ∃ m', m' < m ∧ W (i + 1) m' σ' H') ∧ ∀ x H', (Itl K a).yld i H x H' → g x σ H' fun σ2 H2 => tb { D with nx := N, ct := N, bk := D.nx } σ2 H2) := by
  refine ⟨fun i m σ H => m = xs.length - i ∧ i ≤ xs.length ∧ Pv i σ H, ⟨xs.length, by simp, Nat.zero_le _, h0⟩, ?_⟩
  rintro i m σ H ⟨rfl, hi, p⟩
  have q := hl i σ H hi p
  by_cases hlt : i < xs.length
  · refine .inr ⟨⟨xs, xs[i], q, by simp [hlt]⟩, Pv (i + 1), fun σ' H' p' => ⟨xs.length - (i + 1), by omega, rfl, hlt, p'⟩, fun x H' y => ?_⟩
    obtain ⟨e, y⟩ := y
    subst e
    exact hs i x σ _ (y xs q) p
  · have e : i = xs.length := by omega
    subst e
    exact .inl ⟨⟨xs, q, Nat.le_refl _⟩, hd σ H p⟩
theorem for_range {lo : Int} {n : Nat} {g : TG} {tb : TS} {D : Ends} {σ : St} {H : Hp} (Pv : Nat → St → Hp → Prop) (h0 : Pv 0 σ H)
    (hs : ∀ i σ H, i < n → Pv i σ H → g (.int (lo + i)) σ H fun σ2 H2 => tb { D with nx := Pv (i + 1), ct := Pv (i + 1), bk := D.nx } σ2 H2) (hd : ∀ σ H, Pv n σ H → D.nx σ H) :
    ∃ W : Nat → Nat → St → Hp → Prop, (∃ m, W 0 m σ H) ∧ ∀ i m σ H, W i m σ H →
      ((Itr lo n).stop i H ∧ D.nx σ H) ∨ ((Itr lo n).go i H ∧ ∃ N : St → Hp → Prop, (∀ σ' H', N σ' H' → ∃ m', m' < m ∧ W (i + 1) m' σ' H') ∧ ∀ x H', (Itr lo n).yld i H x H' → g x σ H' fun σ2 H2 => tb { D with nx := N, ct := N, bk := D.nx } σ2 H2) := by
  refine ⟨fun i m σ H => m = n - i ∧ i ≤ n ∧ Pv i σ H, ⟨n, by simp, Nat.zero_le _, h0⟩, ?_⟩
  rintro i m σ H ⟨rfl, hi, p⟩
  by_cases hlt : i < n
  · refine .inr ⟨hlt, Pv (i + 1), fun σ' H' p' => ⟨n - (i + 1), by omega, rfl, hlt, p'⟩, fun x H' y => ?_⟩
    obtain ⟨e, y⟩ := y
    subst e y
    exact hs i σ _ hlt p
  · have e : i = n := by omega
    subst e
    exact .inl ⟨Nat.le_refl _, hd σ H p⟩
end L2
namespace L2
open PySem PySem.Spec PyProof.Rows
abbrev R2 := V → V → Hp → VK → Prop
def OpR (X : Cx) (f : Value → Value → Sem Value) (r : R2) : Prop :=
  ∀ (pins : List (Addr × Obj)) (s : Shared) (σ : St) (H : Hp) (x y : V) (v u : Value) (Q : VK), Inv X pins σ H s → RelV x v → RelV y u → r x y H Q →
    wpAny (model X.prog X.w) X.A (f v u) (EP X pins σ Q) X.xe s
def UnR (X : Cx) (f : Value → Sem Value) (r : V → Hp → VK → Prop) : Prop :=
  ∀ (pins : List (Addr × Obj)) (s : Shared) (σ : St) (H : Hp) (x : V) (v : Value) (Q : VK), Inv X pins σ H s → RelV x v → r x H Q →
    wpAny (model X.prog X.w) X.A (f v) (EP X pins σ Q) X.xe s
def CallR (X : Cx) (f : Value) (r : List V → Hp → VK → Prop) : Prop :=
  ∀ (pins : List (Addr × Obj)) (s : Shared) (σ : St) (H : Hp) (xs : List V) (us : List Value) (Q : VK), Inv X pins σ H s → Vals xs us → r xs H Q →
    wpAny (model X.prog X.w) X.A (call f us) (EP X pins σ Q) X.xe s
def TruR (X : Cx) (r : V → Hp → (Bool → Hp → Prop) → Prop) : Prop :=
  ∀ (pins : List (Addr × Obj)) (s : Shared) (σ : St) (H : Hp) (x : V) (v : Value) (Q : Bool → Hp → Prop), Inv X pins σ H s → RelV x v → r x H Q →
    wpAny (model X.prog X.w) X.A (truthy v) (TP X pins σ Q) X.xe s
def tOp (r : R2) (ta tb : TE) : TE := fun σ H Q => ta σ H fun x H1 => tb σ H1 fun y H2 => r x y H2 Q
def tUn (r : V → Hp → VK → Prop) (ta : TE) : TE := fun σ H Q => ta σ H fun x H1 => r x H1 Q
def rI (C : Int → Int → Prop) (g : Int → Int → V) : R2 := fun x y H Q => ∃ i j, x = .int i ∧ y = .int j ∧ C i j ∧ Q (g i j) H
def rI0 (g : Int → Int → V) : R2 := fun x y H Q => ∃ i j, x = .int i ∧ y = .int j ∧ Q (g i j) H
def rU (g : Int → V) : V → Hp → VK → Prop := fun x H Q => ∃ i, x = .int i ∧ Q (g i) H
section
variable {X : Cx} {a b c : Expr} {ta tb tc : TE} {pos : Pos}
theorem binT (ha : PE X a ta) (hb : PE X b tb) {pins : List (Addr × Obj)} {s : Shared} {σ : St} {H : Hp} {R : V → V → Hp → Prop} (I : Inv X pins σ H s)
    (h : ta σ H fun x H1 => tb σ H1 fun y H2 => R x y H2) {Q : Value → Shared → Prop} {f : Value → Value → Sem Value}
    (hf : ∀ v u s2 x y H2, Inv X pins σ H2 s2 → RelV x v → RelV y u → R x y H2 → wpAny (model X.prog X.w) X.A (f v u) Q X.xe s2) :
    wpAny (model X.prog X.w) X.A (eval a X.env) (fun v s₁ => wpAny (model X.prog X.w) X.A (eval b X.env) (fun u s₂ => wpAny (model X.prog X.w) X.A (f v u) Q X.xe s₂) X.xe s₁) X.xe s := by
  refine thn (ha pins s σ H _ I h) fun v s1 ⟨x, H1, I1, r1, q1⟩ => ?_
  refine thn (hb pins s1 σ H1 _ I1 q1) fun u s2 ⟨y, H2, I2, r2, q2⟩ => ?_
  exact hf v u s2 x y H2 I2 r1 r2 q2
theorem pe_op {op : Operator} {r : R2} (ho : OpR X (binaryOp op) r) (ha : PE X a ta) (hb : PE X b tb) : PE X (.BinOp a op b pos) (tOp r ta tb) := by
  intro pins s σ H Q I h
  exact wpAny_BinOp (binT ha hb I h fun v u s2 x y H2 I2 rx ry q => ho pins s2 σ H2 x y v u Q I2 rx ry q)
theorem pe_un {op : UnaryOp} {r : V → Hp → VK → Prop} (ho : UnR X (unaryOp op) r) (ha : PE X a ta) : PE X (.UnaryOp op a pos) (tUn r ta) := by
  intro pins s σ H Q I h
  exact UnaryOp_ (thn (ha pins s σ H _ I h) fun v s1 ⟨x, H1, I1, r1, q1⟩ => ho pins s1 σ H1 x v Q I1 r1 q1)
theorem opI {f : Value → Value → Sem Value} {C : Int → Int → Prop} {g : Int → Int → Int}
    (rule : ∀ (i j : Int) (t u : Tok) (s : Shared) (Q : Value → Shared → Prop) (E : Value → Shared → Prop), C i j → Q (.int (g i j) s.toks) { s with toks := s.toks + 1 } → wpAny (model X.prog X.w) X.A (f (.int i t) (.int j u)) Q E s) :
    OpR X f (rI C fun i j => .int (g i j)) := by
  intro pins s σ H x y v u Q I rx ry h
  obtain ⟨i, j, rfl, rfl, hc, q⟩ := h
  obtain ⟨t, rfl⟩ := rx
  obtain ⟨t', rfl⟩ := ry
  exact rule i j t t' s _ _ hc ⟨.int (g i j), H, I.tok _, ⟨_, rfl⟩, q⟩
theorem opI0 {f : Value → Value → Sem Value} {g : Int → Int → Int}
    (rule : ∀ (i j : Int) (t u : Tok) (s : Shared) (Q : Value → Shared → Prop) (E : Value → Shared → Prop), Q (.int (g i j) s.toks) { s with toks := s.toks + 1 } → wpAny (model X.prog X.w) X.A (f (.int i t) (.int j u)) Q E s) :
    OpR X f (rI0 fun i j => .int (g i j)) := by
  intro pins s σ H x y v u Q I rx ry h
  obtain ⟨i, j, rfl, rfl, q⟩ := h
  obtain ⟨t, rfl⟩ := rx
  obtain ⟨t', rfl⟩ := ry
  exact rule i j t t' s _ _ ⟨.int (g i j), H, I.tok _, ⟨_, rfl⟩, q⟩
theorem opB0 {f : Value → Value → Sem Value} {g : Int → Int → Bool}
    (rule : ∀ (i j : Int) (t u : Tok) (s : Shared) (Q : Value → Shared → Prop) (E : Value → Shared → Prop), Q (.bool (g i j)) s → wpAny (model X.prog X.w) X.A (f (.int i t) (.int j u)) Q E s) :
    OpR X f (rI0 fun i j => .bl (g i j)) := by
  intro pins s σ H x y v u Q I rx ry h
  obtain ⟨i, j, rfl, rfl, q⟩ := h
  obtain ⟨t, rfl⟩ := rx
  obtain ⟨t', rfl⟩ := ry
  exact rule i j t t' s _ _ ⟨.bl (g i j), H, I, rfl, q⟩
def CDiv (i j : Int) : Prop := 0 < j ∧ j < 1073741824
def CPow (i j : Int) : Prop := 0 ≤ j ∧ j ≤ 1000000 ∧ i.natAbs < 2 ^ 64
def CMul (i j : Int) : Prop := (-(2 ^ 64) < i ∧ i < 2 ^ 64) ∨ (-(2 ^ 64) < j ∧ j < 2 ^ 64)
theorem CMul.ok {i j : Int} (h : CMul i j) : IntMulOk i j := by
  rcases h with ⟨h1, h2⟩ | ⟨h1, h2⟩
  · exact .of_left (intBits_le_64 h1 h2)
  · exact .of_right (intBits_le_64 h1 h2)
theorem op_add : OpR X (binaryOp .Add) (rI0 fun i j => .int (i + j)) := opI0 fun _ _ _ _ _ _ _ q => add_int q
theorem op_sub : OpR X (binaryOp .Sub) (rI0 fun i j => .int (i - j)) := opI0 fun _ _ _ _ _ _ _ q => sub_int q
theorem op_mul : OpR X (binaryOp .Mult) (rI CMul fun i j => .int (i * j)) := opI fun _ _ _ _ _ _ _ hc q => mul_int q hc.ok
theorem op_fdiv : OpR X (binaryOp .FloorDiv) (rI CDiv fun i j => .int (i / j)) := opI fun i j _ _ _ _ _ hc q => by
  have h1 : (0 : Int) < j := hc.1
  have h2 : j < 1073741824 := hc.2
  exact floordiv_int (by omega) (by rw [Int.fdiv_eq_ediv_of_nonneg i (by omega)]; exact q) (.inl (PyProof.noPylong_small (by omega)))
theorem op_mod : OpR X (binaryOp .Mod) (rI (fun _ j => 0 < j) fun i j => .int (i % j)) := opI fun i j _ _ _ _ _ hc q => by
  have h1 : (0 : Int) < j := hc
  exact mod_int' (by omega) (by rw [Int.fmod_eq_emod_of_nonneg i (by omega)]; exact q)
theorem op_pow : OpR X (binaryOp .Pow) (rI CPow fun i j => .int (i ^ j.toNat)) := opI fun _ _ _ _ _ _ _ hc q => pow_int_small hc.1 hc.2.1 hc.2.2 q
theorem unI {f : Value → Sem Value} {g : Int → Int}
    (rule : ∀ (i : Int) (t : Tok) (s : Shared) (Q : Value → Shared → Prop) (E : Value → Shared → Prop), Q (.int (g i) s.toks) { s with toks := s.toks + 1 } → wpAny (model X.prog X.w) X.A (f (.int i t)) Q E s) :
    UnR X f (rU fun i => .int (g i)) := by
  intro pins s σ H x v Q I rx h
  obtain ⟨i, rfl, q⟩ := h
  obtain ⟨t, rfl⟩ := rx
  exact rule i t s _ _ ⟨.int (g i), H, I.tok _, ⟨_, rfl⟩, q⟩
theorem un_neg : UnR X (unaryOp .USub) (rU fun i => .int (-i)) := unI fun _ _ _ _ _ q => neg_int q
end
def scal : V → V → Bool
  | .non, .non => true | .non, .int _ => true | .int _, .non => true | .non, .bl _ => true | .bl _, .non => true | .non, .str _ => true | .str _, .non => true
  | .int _, .int _ => true | .bl _, .bl _ => true | .str _, .str _ => true | .byt _, .byt _ => true
  | .int _, .str _ => true | .str _, .int _ => true | .bl _, .str _ => true | .str _, .bl _ => true
  | _, _ => false
def rEq : R2 := fun x y H Q => scal x y = true ∧ Q (.bl (decide (x = y))) H
def rNe : R2 := fun x y H Q => scal x y = true ∧ Q (.bl (!decide (x = y))) H
theorem dec_int {i j : Int} : decide (V.int i = V.int j) = (i == j) := by
  rw [Bool.eq_iff_iff]
  simp
theorem dec_bl {i j : Bool} : decide (V.bl i = V.bl j) = (i == j) := by
  rw [Bool.eq_iff_iff]
  simp
theorem dec_str {i j : Str} : decide (V.str i = V.str j) = (i == j) := by
  rw [Bool.eq_iff_iff]
  simp
theorem dec_byt {i j : Array UInt8} : decide (V.byt i = V.byt j) = (i.toList == j.toList) := by
  rw [Bool.eq_iff_iff]
  cases i
  cases j
  simp
section
variable {X : Cx} {a b c : Expr} {ta tb tc : TE} {pos : Pos}
theorem fin_bl {pins : List (Addr × Obj)} {σ : St} {H : Hp} {s : Shared} {Q : VK} {k k' : Bool} (I : Inv X pins σ H s) (q : Q (.bl k) H) (e : k = k') : EP X pins σ Q (.bool k') s := by
  subst e
  exact ⟨.bl k, H, I, rfl, q⟩
theorem op_eq : OpR X (compareOp .Eq) rEq := by
  intro pins s σ H x y v u Q I rx ry h
  obtain ⟨hs, q⟩ := h
  cases x with
  | non =>
    cases rx
    cases y with
    | non => cases ry; exact PySem.EqNone.eq_none_none (fin_bl I q (by simp))
    | bl j => cases ry; exact PySem.EqNone.eq_none_bool (fin_bl I q (by simp))
    | int j => obtain ⟨t', rfl⟩ := ry; exact PySem.EqNone.eq_none_int (fin_bl I q (by simp))
    | str j => obtain ⟨t', rfl⟩ := ry; exact PySem.EqNone.eq_none_str (fin_bl I q (by simp))
    | _ => exact absurd (show false = true from hs) Bool.false_ne_true
  | bl i =>
    cases rx
    cases y with
    | non => cases ry; exact PySem.EqNone.eq_bool_none (fin_bl I q (by simp))
    | bl j => cases ry; exact eq_bool (fin_bl I q dec_bl)
    | str j => obtain ⟨t', rfl⟩ := ry; exact PySem.EqMixed.eq_bool_str (fin_bl I q (by simp))
    | _ => exact absurd (show false = true from hs) Bool.false_ne_true
  | int i =>
    obtain ⟨t, rfl⟩ := rx
    cases y with
    | non => cases ry; exact PySem.EqNone.eq_int_none (fin_bl I q (by simp))
    | int j => obtain ⟨t', rfl⟩ := ry; exact eq_int (fin_bl I q dec_int)
    | str j => obtain ⟨t', rfl⟩ := ry; exact PySem.EqMixed.eq_int_str (fin_bl I q (by simp))
    | _ => exact absurd (show false = true from hs) Bool.false_ne_true
  | str i =>
    obtain ⟨t, rfl⟩ := rx
    cases y with
    | non => cases ry; exact PySem.EqNone.eq_str_none (fin_bl I q (by simp))
    | bl j => cases ry; exact PySem.EqMixed.eq_str_bool (fin_bl I q (by simp))
    | int j => obtain ⟨t', rfl⟩ := ry; exact PySem.EqMixed.eq_str_int (fin_bl I q (by simp))
    | str j => obtain ⟨t', rfl⟩ := ry; exact eq_str (fin_bl I q dec_str)
    | _ => exact absurd (show false = true from hs) Bool.false_ne_true
  | byt i =>
    obtain ⟨t, rfl⟩ := rx
    cases y with
    | byt j => obtain ⟨t', rfl⟩ := ry; exact PySem.W.eq_bytes (fin_bl I q dec_byt)
    | _ => exact absurd (show false = true from hs) Bool.false_ne_true
  | _ => cases y <;> exact absurd (show false = true from hs) Bool.false_ne_true
theorem op_ne : OpR X (compareOp .NotEq) rNe := by
  intro pins s σ H x y v u Q I rx ry h
  obtain ⟨hs, q⟩ := h
  cases x with
  | non =>
    cases rx
    cases y with
    | non => cases ry; exact PySem.EqNone.ne_none_none (fin_bl I q (by simp))
    | bl j => cases ry; exact PySem.EqNone.ne_none_bool (fin_bl I q (by simp))
    | int j => obtain ⟨t', rfl⟩ := ry; exact PySem.EqNone.ne_none_int (fin_bl I q (by simp))
    | str j => obtain ⟨t', rfl⟩ := ry; exact PySem.EqNone.ne_none_str (fin_bl I q (by simp))
    | _ => exact absurd (show false = true from hs) Bool.false_ne_true
  | bl i =>
    cases rx
    cases y with
    | non => cases ry; exact PySem.EqNone.ne_bool_none (fin_bl I q (by simp))
    | bl j => cases ry; exact ne_bool (fin_bl I q (congrArg not dec_bl))
    | str j => obtain ⟨t', rfl⟩ := ry; exact PySem.EqMixed.ne_bool_str (fin_bl I q (by simp))
    | _ => exact absurd (show false = true from hs) Bool.false_ne_true
  | int i =>
    obtain ⟨t, rfl⟩ := rx
    cases y with
    | non => cases ry; exact PySem.EqNone.ne_int_none (fin_bl I q (by simp))
    | int j => obtain ⟨t', rfl⟩ := ry; exact ne_int (fin_bl I q (congrArg not dec_int))
    | str j => obtain ⟨t', rfl⟩ := ry; exact PySem.EqMixed.ne_int_str (fin_bl I q (by simp))
    | _ => exact absurd (show false = true from hs) Bool.false_ne_true
  | str i =>
    obtain ⟨t, rfl⟩ := rx
    cases y with
    | non => cases ry; exact PySem.EqNone.ne_str_none (fin_bl I q (by simp))
    | bl j => cases ry; exact PySem.EqMixed.ne_str_bool (fin_bl I q (by simp))
    | int j => obtain ⟨t', rfl⟩ := ry; exact PySem.EqMixed.ne_str_int (fin_bl I q (by simp))
    | str j => obtain ⟨t', rfl⟩ := ry; exact ne_str (fin_bl I q (congrArg not dec_str))
    | _ => exact absurd (show false = true from hs) Bool.false_ne_true
  | byt i =>
    obtain ⟨t, rfl⟩ := rx
    cases y with
    | byt j => obtain ⟨t', rfl⟩ := ry; exact PySem.W.ne_bytes (fin_bl I q (congrArg not dec_byt))
    | _ => exact absurd (show false = true from hs) Bool.false_ne_true
  | _ => cases y <;> exact absurd (show false = true from hs) Bool.false_ne_true
theorem op_lt : OpR X (compareOp .Lt) (rI0 fun i j => .bl (decide (i < j))) := opB0 fun _ _ _ _ _ _ _ q => lt_int q
theorem op_gt : OpR X (compareOp .Gt) (rI0 fun i j => .bl (decide (j < i))) := opB0 fun _ _ _ _ _ _ _ q => gt_int q
theorem nomark (b : Expr) {op : CmpOp} (h : op ≠ .In := by decide) (h2 : op ≠ .NotIn := by decide) : behindInMarks op b = false := by
  have e1 : (op == CmpOp.In) = false := by cases op <;> first | rfl | exact absurd rfl h
  have e2 : (op == CmpOp.NotIn) = false := by cases op <;> first | rfl | exact absurd rfl h2
  cases b <;> simp [behindInMarks, e1, e2]
theorem pe_cmpR {op : CmpOp} {r : R2} (ho : OpR X (compareOp op) r) (ha : PE X a ta) (hb : PE X b tb) (hm : behindInMarks op b = false) : PE X (.Compare a [op] [b] pos) (tOp r ta tb) := by
  intro pins s σ H Q I h
  exact wpAny_Compare1 (binT ha hb I h fun v u s2 x y H2 I2 rx ry q => ho pins s2 σ H2 x y v u Q I2 rx ry q) hm
def tTest (t : TE) : TT := fun σ H Q => t σ H fun x H' => ∃ k, x = .bl k ∧ Q k H'
theorem pt_cmpR {op : CmpOp} {r : R2} (ho : OpR X (compareOp op) r) (ha : PE X a ta) (hb : PE X b tb) (hm : behindInMarks op b = false) : PT X (.Compare a [op] [b] pos) (tTest (tOp r ta tb)) := by
  intro pins s σ H Q I h
  refine wpAny_isTrue_Compare1 (thn (ha pins s σ H _ I h) fun v s1 ⟨x, H1, I1, r1, q1⟩ => thn (hb pins s1 σ H1 _ I1 q1) fun u s2 ⟨y, H2, I2, r2, q2⟩ =>
    thn (ho pins s2 σ H2 x y v u _ I2 r1 r2 q2) fun c s3 ⟨z, H3, I3, r3, k, e, q3⟩ => ?_) hm
  subst e
  cases r3
  exact wpAny_truthy_bool ⟨H3, I3, q3⟩
def TruV (K : PySem.W.Frag) (x : V) (H : Hp) (k : Bool) : Prop :=
  match x with
  | .non => k = false
  | .bl b => k = b
  | .int i => k = (i != 0)
  | .str y => y.length ≤ sizeLine ∧ k = ((y.length : Int) != 0)
  | .byt y => y.size ≤ sizeLine ∧ k = ((y.size : Int) != 0)
  | .ref p => (∃ xs, SqL K H p xs ∧ k = !xs.isEmpty) ∨ (∃ xs, SqT K H p xs ∧ k = !xs.isEmpty) ∨ ∃ kvs, H p = some (.dK kvs) ∧ k = !kvs.isEmpty
  | _ => False
theorem isEmpty_kv {κ : Type} {kvs : List (κ × V)} {vs : List (κ × Value)} (r : KV kvs vs) : (!vs.isEmpty) = !kvs.isEmpty := by
  cases r <;> rfl
theorem isEmpty_of {xs : List V} {its : List Value} (r : Vals xs its) : (!its.toArray.isEmpty) = !xs.isEmpty := by
  cases r <;> simp
theorem line63 : (sizeLine : Nat) < 2 ^ 63 := by rw [sizeLine_eq]; decide
theorem tru_ok : TruR X (fun x H Q => ∃ k, TruV X.K x H k ∧ Q k H) := by
  intro pins s σ H x v Q I rx h
  obtain ⟨k, e, q⟩ := h
  have hl := line63
  have hs : sizeLine = 16777216 := sizeLine_eq
  cases x with
  | non =>
    cases rx
    have e' : k = false := e
    subst e'
    exact truthy_none ⟨H, I, q⟩
  | bl b =>
    cases rx
    have e' : k = b := e
    subst e'
    exact wpAny_truthy_bool ⟨H, I, q⟩
  | int i =>
    obtain ⟨t, rfl⟩ := rx
    have e' : k = (i != 0) := e
    subst e'
    exact PySem.P.truthy_int ⟨H, I, q⟩
  | str y =>
    obtain ⟨t, rfl⟩ := rx
    obtain ⟨hy, e'⟩ : y.length ≤ sizeLine ∧ k = ((y.length : Int) != 0) := e
    subst e'
    exact PySem.P.truthy_str (by omega) ⟨H, I.tok _, q⟩
  | byt y =>
    obtain ⟨t, rfl⟩ := rx
    obtain ⟨hy, e'⟩ : y.size ≤ sizeLine ∧ k = ((y.size : Int) != 0) := e
    subst e'
    exact PySem.W.truthy_bytes (by omega) ⟨H, I.tok _, q⟩
  | ref p =>
    cases rx
    have e' : (∃ xs, SqL X.K H p xs ∧ k = !xs.isEmpty) ∨ (∃ xs, SqT X.K H p xs ∧ k = !xs.isEmpty) ∨ ∃ kvs, H p = some (.dK kvs) ∧ k = !kvs.isEmpty := e
    rcases e' with ⟨xs, hx, e'⟩ | ⟨xs, hx, e'⟩ | ⟨kvs, hx, e'⟩
    · subst e'
      obtain ⟨its, r, pl, hz⟩ := I.list hx
      have hlen := r.length
      exact wpAny_truthy_list pl.isList (by simp only [List.size_toArray]; omega) ⟨H, I.tok _, by rw [isEmpty_of r]; exact q⟩
    · subst e'
      obtain ⟨its, r, pl, hz⟩ := I.tuple hx
      have hlen := r.length
      exact truthy_tuple pl (by simp only [List.size_toArray]; omega) ⟨H, I.tok _, by rw [isEmpty_of r]; exact q⟩
    · subst e'
      obtain ⟨hz, hS, vs, r, m⟩ : kvs.length ≤ sizeLine ∧ (p == sysModules) = false ∧ ∃ vs, KV kvs vs ∧ s.heap.DictOf (mixKind X.prog X.w) p vs := I.hok p _ hx
      have hlen : kvs.length = vs.length := Paired.length r
      exact wpAny_truthy_dict hS m (by omega) ⟨H, I.tok _, by rw [isEmpty_kv r]; exact q⟩
  | _ => exact (show False from e).elim
theorem pt_truth (ha : PE X a ta) (he : ∀ whole, isTrue a X.env whole = (do let v ← whole; standAt a.pos; holding [v] (truthy v))) :
    PT X a (fun σ H Q => ta σ H fun x H' => ∃ k, TruV X.K x H' k ∧ Q k H') := by
  intro pins s σ H Q I h
  exact isTrue_plain (thn (ha pins s σ H _ I h) fun v s1 ⟨x, H1, I1, r1, q1⟩ => tru_ok pins s1 σ H1 x v Q I1 r1 q1) (he _)
theorem vals1 {x : V} {us : List Value} (r : Vals [x] us) : ∃ u, us = [u] ∧ RelV x u := by
  cases r with
  | cons r1 r2 => cases r2; exact ⟨_, rfl, r1⟩
theorem vals2 {x y : V} {us : List Value} (r : Vals [x, y] us) : ∃ u w', us = [u, w'] ∧ RelV x u ∧ RelV y w' := by
  cases r with
  | cons r1 r2 =>
    cases r2 with
    | cons r3 r4 => cases r4; exact ⟨_, _, rfl, r1, r3⟩
theorem call_int1 : CallR X (.type "int") (fun xs H Q => (∃ i, xs = [.int i] ∧ Q (.int i) H) ∨ ∃ k, xs = [.bl k] ∧ Q (.int (if k then 1 else 0)) H) := by
  intro pins s σ H xs us Q I r h
  rcases h with ⟨i, rfl, q⟩ | ⟨k, rfl, q⟩
  · obtain ⟨u, rfl, t, rfl⟩ := vals1 r
    exact call_int_int ⟨.int i, H, I, ⟨_, rfl⟩, q⟩
  · obtain ⟨u, rfl, r1⟩ := vals1 r
    cases r1
    exact call_int_bool ⟨.int (if k then 1 else 0), H, I.tok _, ⟨_, rfl⟩, q⟩
end
end L2
namespace L2
open PySem PySem.Spec PyProof.Rows
structure ObjM (h : Heap) (x dx C : Addr) (mA : Str → Option Value) : Prop where
  obj : h.get? x = some (PySem.W.instObj C dx)
  ns : h.Ns1 dx mA
  ne : dx ≠ x
theorem lookIn_ns {h : Heap} {dx : Addr} {mA : Str → Option Value} (n : h.Ns1 dx mA) : ∃ od, h.get? dx = some od ∧ ∀ name, PySem.W.lookIn name od = some (mA name) := by
  obtain ⟨o, es, ep, ho, hd, hk, _, hm⟩ := n
  refine ⟨o, ho, fun name => ?_⟩
  have e := hm name
  unfold nsFind findBy at e
  rw [← Array.find?_toList] at e
  unfold PySem.W.lookIn
  rw [hd]
  dsimp only
  split
  · rename_i y q
    rw [q] at e
    exact congrArg some e
  · rename_i q
    rw [q] at e
    have a : es.toList.any (·.refKey) = false := by
      rw [List.any_eq_false]
      intro y hy
      obtain ⟨z, t, hkey⟩ := hk y (Array.mem_toList_iff.mp hy)
      simp [DictEntry.refKey, hkey]
    have a' : ¬ es.toList.any (·.refKey) = true := by rw [a]; exact Bool.false_ne_true
    rw [if_neg a']
    exact congrArg some e
theorem ObjM.look {h : Heap} {x dx C : Addr} {mA : Str → Option Value} (I : ObjM h x dx C mA) : ∃ od, PySem.W.InstAt h x (PySem.W.instObj C dx) C (some od) ∧ ∀ name, PySem.W.lookIn name od = some (mA name) :=
  let ⟨od, ho, hl⟩ := lookIn_ns I.ns
  ⟨od, ⟨I.obj, rfl, rfl, ho⟩, hl⟩
section
variable {prog : Program} {w : World} {A : Around} {E : Value → Shared → Prop} {s : Shared} {K : PySem.W.Frag} {x dx C f : Addr} {mA : Str → Option Value} {name : Str} {v : Value}
end
section
variable {P : Program} {w : World} {H H' : Hp} {h h' : Heap} {a C dx : Addr} {fs fs' : List (Str × V)}
theorem ins_get (hok : HOk P w H h) (e : H a = some (.ins C dx fs)) : ∃ mA, ObjM h a dx C mA ∧ (∀ f, RelO (fs.lookup f) (mA f)) ∧ PySem.Within mA (fs.map (·.1)) ∧ fs.length ≤ 1000 ∧ H dx = some (.own a) := by
  obtain ⟨d, z, ne, ob, mA, n, r, q⟩ := (show ObjOk P w H h a (.ins C dx fs) from hok a _ e)
  exact ⟨mA, ⟨ob, n, ne⟩, r, q, z, d⟩
end
structure Cls (K : PySem.W.Frag) (C : Addr) : Prop where
  pg : PySem.W.plainGet K C Str.empty = true
  hd : PySem.W.hasDictIn K C = true
  po : PySem.W.plainOver K C = true
  sa : PySem.W.findIn K (.ref C) "__setattr__" = some (some (.builtin "object.__setattr__"))
theorem Cls.get {K : PySem.W.Frag} {C : Addr} (c : Cls K C) (f : Str) : PySem.W.plainGet K C f = true := c.pg
section
variable {X : Cx} {pins : List (Addr × Obj)} {σ : St} {H : Hp} {s : Shared} {a C dx : Addr} {fs : List (Str × V)} {f : Str} {v : V} {A : Around} {E : Value → Shared → Prop}
end
section
variable {X : Cx} {o e value : Expr} {f : Str} {pos pos' tpos : Pos} {ta tv : TE}
end
section
variable {X : Cx} {pins : List (Addr × Obj)} {σ : St} {H : Hp} {s : Shared} {A : Around} {E : Value → Shared → Prop} {Q : Value → Shared → Prop} {c : Value} {b : Bool}
inductive TyOf (K : PySem.W.Frag) (H : Hp) : V → Value → Prop where
  | non : TyOf K H .non (.type "NoneType")
  | bl (x : Bool) : TyOf K H (.bl x) (.type "bool")
  | int (i : Int) : TyOf K H (.int i) (.type "int")
  | str (x : Str) : TyOf K H (.str x) (.type "str")
  | flt (x : UInt64) : TyOf K H (.flt x) (.type "float")
  | lst {a : Addr} {xs : List V} (e : H a = some (.lst xs)) : TyOf K H (.ref a) (.type "list")
  | frz {a : Addr} {o : Obj} {xs : List V} (e : H a = some (.frz o (.lst xs))) : TyOf K H (.ref a) (.type "list")
  | tup {a : Addr} {xs : List V} (e : H a = some (.tup xs)) : TyOf K H (.ref a) (.type "tuple")
  | dK {a : Addr} {kvs : List (Key × V)} (e : H a = some (.dK kvs)) : TyOf K H (.ref a) (.type "dict")
  | dT {a : Addr} {kvs : List (List Key × V)} (e : H a = some (.dT kvs)) : TyOf K H (.ref a) (.type "dict")
  | ins {a C dx : Addr} {fs : List (Str × V)} (e : H a = some (.ins C dx fs)) (cl : Cls K C) (ha : PySem.W.findIn K (.ref C) "__class__" = some (some (.builtin "object.__class__")))
      (hn : PySem.W.specialIn K (.builtin "object.__class__") "__get__" = some (some (.builtin "getset_descriptor.__get__"))) (htk : PySem.W.takesIn K (.builtin "object.__class__") = some true)
      (hm : PySem.W.mroIn K C (.type "object") = some true) : TyOf K H (.ref a) (.ref C)
theorem isinst_ok {x : V} {u t : Value} (I : Inv X pins σ H s) (rx : RelV x u) (ty : TyOf X.K H x t) (e : PySem.W.kitOne X.K t c = some b) (h : ∀ tk, Q (.bool b) { s with toks := tk }) :
    wpAny (model X.prog X.w) A (call (.builtin "isinstance") [u, c]) Q E s := by
  cases ty with
  | non => cases (show u = Value.none from rx); exact PySem.W.kia_one PySem.W.kitx_none I.kIn True.intro e (fun z => nomatch z) h
  | bl y => cases (show u = Value.bool y from rx); exact PySem.W.kia_one PySem.W.kitx_bool I.kIn True.intro e (fun z => nomatch z) h
  | int i => obtain ⟨t, q⟩ := (show ∃ t, u = Value.int i t from rx); cases q; exact PySem.W.kia_one PySem.W.kitx_int I.kIn True.intro e (fun z => nomatch z) h
  | str y => obtain ⟨t, q⟩ := (show ∃ t, u = Value.str y t from rx); cases q; exact PySem.W.kia_one PySem.W.kitx_str I.kIn True.intro e (fun z => nomatch z) h
  | flt y => obtain ⟨t, q⟩ := (show ∃ t, u = Value.float y t from rx); cases q; exact PySem.W.kia_one PySem.W.kitx_float I.kIn True.intro e (fun z => nomatch z) h
  | @lst a xs ea =>
    cases (show u = Value.ref a from rx)
    obtain ⟨_, _, n, _, h1⟩ := (show ObjOk X.prog X.w H s.heap a (.lst xs) from I.hok a _ ea)
    exact PySem.W.kia_one PySem.W.kitx_list I.kIn ⟨_, h1, rfl⟩ e (fun z => nomatch z) h
  | @frz a ob xs ea =>
    cases (show u = Value.ref a from rx)
    obtain ⟨_, _, _, n, _, h1⟩ := (show ObjOk X.prog X.w H s.heap a (.frz ob (.lst xs)) from I.hok a _ ea)
    exact PySem.W.kia_one PySem.W.kitx_list I.kIn ⟨_, h1, rfl⟩ e (fun z => nomatch z) h
  | @tup a xs ea =>
    cases (show u = Value.ref a from rx)
    obtain ⟨_, _, _, p⟩ := (show ObjOk X.prog X.w H s.heap a (.tup xs) from I.hok a _ ea)
    obtain ⟨o, h1, h2, _⟩ := p
    exact PySem.W.kia_one PySem.W.kitx_tuple I.kIn ⟨o, h1, h2⟩ e (fun z => nomatch z) h
  | @dK a kvs ea =>
    cases (show u = Value.ref a from rx)
    obtain ⟨_, _, vs, _, p⟩ := (show ObjOk X.prog X.w H s.heap a (.dK kvs) from I.hok a _ ea)
    obtain ⟨o, es, ep, h1, h2, _⟩ := p
    exact PySem.W.kia_one PySem.W.kitx_dict I.kIn ⟨o, h1, h2.1⟩ e (fun z => nomatch z) h
  | @dT a kvs ea =>
    cases (show u = Value.ref a from rx)
    obtain ⟨_, _, xs, _, o, es, ep, h1, h2, _⟩ := (show ObjOk X.prog X.w H s.heap a (.dT kvs) from I.hok a _ ea)
    exact PySem.W.kia_one PySem.W.kitx_dict I.kIn ⟨o, h1, h2.1⟩ e (fun z => nomatch z) h
  | @ins a C dx fs ea cl ha hn htk hm =>
    cases (show u = Value.ref a from rx)
    obtain ⟨mA, O, _⟩ := ins_get I.hok ea
    obtain ⟨od, J, _⟩ := O.look
    exact PySem.W.kia_one (PySem.W.kitx_own (cl.get _) cl.hd ha hn htk hm) I.kIn J e (fun z => nomatch z) h
end
end L2
namespace L2
open PySem PySem.Spec PyProof.Rows
structure Room (k : Nat) (A : Around) : Prop where
  hd : A.handled = none
  dp : A.depth + 3 * k + 5 < recursionLimit
  un : A.units + 16 * k + 200 < cLine
  gd : A.guards = some []
theorem Room.mono {j k : Nat} {A : Around} (r : Room k A) (h : j ≤ k) : Room j A := ⟨r.hd, by have := r.dp; omega, by have := r.un; omega, r.gd⟩
theorem Room.deeper {k : Nat} {A : Around} (r : Room (k + 1) A) (env : Env) : Room k (A.deeper env) :=
  ⟨r.hd, by have := r.dp; show A.depth + 1 + 3 * k + 5 < _; omega, by have := r.un; show A.units + 3 + 16 * k + 200 < _; omega, r.gd⟩
theorem Room.depth {k : Nat} {A : Around} (r : Room k A) : A.depth < recursionLimit := by have := r.dp; omega
theorem Room.units {k : Nat} {A : Around} (r : Room k A) : A.units + 64 < cLine := by have := r.un; omega
def tNil : TA := fun _ H Q => Q [] H
def tCons (ta : TE) (tr : TA) : TA := fun σ H Q => ta σ H fun x H1 => tr σ H1 fun xs H2 => Q (x :: xs) H2
section
variable {X : Cx} {e : Expr} {es : List Expr} {te : TE} {t : TA} {pos : Pos}
theorem pa_nil : PA X [] tNil := fun _ _ _ _ H Q I h => Calls.spliced_nil ⟨[], H, I, .nil, h⟩
theorem pa_cons (ha : PE X e te) (hr : PA X es t) (hs : starEach (e :: es) X.env = (false, eval e X.env) :: starEach es X.env := by rfl) : PA X (e :: es) (tCons te t) := by
  intro pos pins s σ H Q I h
  rw [hs]
  show wpAny _ _ (spliced ((false, eval e X.env) :: backTo pos (starEach es X.env))) _ _ s
  refine Calls.spliced_cons (thn (ha pins s σ H _ I h) fun u s1 ⟨x, H1, I1, r1, q1⟩ => ?_)
  exact thn (hr pos pins s1 σ H1 _ I1 q1) fun us s2 ⟨xs, H2, I2, r2, q2⟩ => ⟨x :: xs, H2, I2, .cons r1 r2, q2⟩
def tTup (t : TA) : TE := fun σ H Q => t σ H fun xs H1 => xs.length ≤ sizeLine ∧ ∀ p, H1 p = none → Q (.ref p) (upd H1 p (.tup xs))
def tLst (t : TA) : TE := fun σ H Q => t σ H fun xs H1 => xs.length ≤ sizeLine ∧ ∀ p, H1 p = none → Q (.ref p) (upd H1 p (.lst xs))
theorem pe_tup {x1} (h : PA X es t) : PE X (.Tuple es x1 pos) (tTup t) := by
  intro pins s σ H Q I hq
  refine wpAny_Tuple_spliced (thn (h pos pins s σ H _ I hq) fun us s1 ⟨xs, H1, I1, r, z, q⟩ => ⟨by rw [← r.length]; exact z, ?_⟩)
  have hf : H1 s1.heap.objs.size = none := I1.hok.fresh (Nat.le_refl _)
  refine ⟨.ref s1.heap.objs.size, upd H1 s1.heap.objs.size (.tup xs), I1.laid (t' := s1.toks) (fun b u e => Heap.get?_push_of_some _ e) (Nat.le_refl _) ?_, rfl, q _ hf⟩
  exact ⟨z, us, r, ⟨_, Heap.get?_push_size _ rfl, rfl, _, rfl⟩⟩
theorem pe_lst (h : PA X es t) : PE X (.List es pos) (tLst t) := by
  intro pins s σ H Q I hq
  refine wpAny_List_spliced (thn (h pos pins s σ H _ I hq) fun us s1 ⟨xs, H1, I1, r, z, q⟩ => ⟨by rw [← r.length]; exact z, ?_⟩)
  have hf : H1 s1.heap.objs.size = none := I1.hok.fresh (Nat.le_refl _)
  refine ⟨.ref s1.heap.objs.size, upd H1 s1.heap.objs.size (.lst xs), I1.laid (t' := s1.toks) (fun b u e => Heap.get?_push_of_some _ e) (Nat.le_refl _) ?_, rfl, q _ hf⟩
  exact ⟨z, us, 0, r, Heap.get?_push_size _ rfl⟩
end
abbrev Sp := List V → Hp → VK → XK → Prop
abbrev CXT := List Env → Hp → Shared → XK → Value → Shared → Prop
structure Env0 (P : Program) (w : World) (K : PySem.W.Frag) (mg : Str → Option Value) (base : Heap) (A : Around) (outer : List Env) (s : Shared) (H : Hp) : Prop where
  frames : A.frames = some outer
  mod : Mod K mg base
  bs : ∀ b o, base.get? b = some o → s.heap.get? b = some o ∧ H b = none
  bsz : base.objs.size ≤ s.heap.objs.size
  funs : s.heap.FunFrames base outer
  frf : ∀ b ∈ frs outer, H b = none
  hok : HOk P w H s.heap
  bare : AllBare s.gens
def CE (outer : List Env) (P : Program) (w : World) (H : Hp) (s : Shared) (Q : VK) (u : Value) (s' : Shared) : Prop :=
  ∃ v H', s'.os = s.os ∧ AllBare s'.gens ∧ Un (frs outer) [] H H' s.heap s'.heap ∧ HOk P w H' s'.heap ∧ RelV v u ∧ Q v H'
def CR (CX : CXT) (outer : List Env) (P : Program) (w : World) (H : Hp) (s : Shared) (Q : VK) (E : XK) (r : Result) (s' : Shared) : Prop :=
  match r with
  | .ok (.ret u) => CE outer P w H s Q u s'
  | .ok _ => False
  | .error e => CX outer H s E e s'
structure FnOk (P : Program) (w : World) (K : PySem.W.Frag) (mg : Str → Option Value) (base : Heap) (CX : CXT) (k : Nat) (f : Addr) (fd : FuncData) (ps : List Str) (sp : Sp) : Prop where
  len : ∀ vs H Q E, sp vs H Q E → vs.length = ps.length
  run : ∀ (A : Around) (outer : List Env) (s : Shared) (H : Hp) (args : Args) (us : List Value) (vs : List V) (Q : VK) (E : XK), Room k A → Env0 P w K mg base A outer s H → BindsTo s fd args (ps.zip us) → Vals vs us → sp vs H Q E →
    codeAny (model P w) A (.call (.ref f) args) (CR CX outer P w H s Q E) s
section
variable {X : Cx} {pins : List (Addr × Obj)} {σ : St} {H : Hp} {s s' : Shared}
theorem Inv.env0 (I : Inv X pins σ H s) : Env0 X.prog X.w X.K X.mg X.base X.A X.stack s H :=
  ⟨I.ok.frames, I.ok.mod, I.bs, Nat.le_trans I.ok.bsz I.sz, I.stack, I.stkFree, I.hok, I.bare⟩
theorem Inv.after {Q : VK} {u : Value} (I : Inv X pins σ H s) (h : CE X.stack X.prog X.w H s Q u s') : EP X pins σ Q u s' := by
  obtain ⟨v, H', os, bare, un, hok, r, q⟩ := h
  obtain ⟨hh, g, d, t, os'⟩ := s'
  obtain rfl : os' = s.os := os
  exact ⟨v, H', I.call (h' := hh) (g' := g) (d' := d) (t' := t) (ch := []) un hok bare (fun b z => absurd z (by simp)), r, q⟩
end
def tCall (sp : Sp) (dvs : List V) (E : XK) (t : TA) : TE := fun σ H Q => t σ H fun vs H1 => sp (vs ++ dvs) H1 Q E
def Binds (K : PySem.W.Frag) (fd : FuncData) (ps : List Str) (ds : List Value) : Prop :=
  ∀ (s : Shared) (us : List Value), K.In s.heap → (us ++ ds).length = ps.length → BindsTo s fd ⟨us, []⟩ (ps.zip (us ++ ds))
theorem Binds.all {K : PySem.W.Frag} {fd : FuncData} {ps : List Str} (h : ∀ us : List Value, us.length = ps.length → bindArgs fd ⟨us, []⟩ = pure (ps.zip us)) : Binds K fd ps [] := fun s us _ hl => by
  rw [List.append_nil] at hl ⊢
  exact .of_eq (h us hl)
def Passes (CX : CXT) (X : Cx) (E : XK) : Prop := ∀ (pins : List (Addr × Obj)) (σ : St) (H : Hp) (s : Shared) (e : Value) (s' : Shared), Inv X pins σ H s → CX X.stack H s E e s' → X.xe e s'
section
variable {X : Cx} {CX : CXT} {k : Nat} {f C : Addr} {fd : FuncData} {ps : List Str} {sp : Sp} {dvs : List V} {ds : List Value} {E : XK} {x m : Str} {p pos apos : Pos} {e o : Expr} {es : List Expr} {ta : TE} {t : TA}
theorem run_fn {pins : List (Addr × Obj)} {σ : St} {H : Hp} {s : Shared} {Q : VK} {us : List Value} {vs : List V} (F : FnOk X.prog X.w X.K X.mg X.base CX k f fd ps sp) (hr : Room k X.A) (hb : Binds X.K fd ps ds) (hd : Vals dvs ds) (hx : Passes CX X E)
    (I : Inv X pins σ H s) (r : Vals vs us) (h : sp (vs ++ dvs) H Q E) : wpAny (model X.prog X.w) X.A (call (.ref f) us) (EP X pins σ Q) X.xe s := by
  have r2 : Vals (vs ++ dvs) (us ++ ds) := r.append hd
  have hl : (us ++ ds).length = ps.length := by rw [← r2.length]; exact F.len _ _ _ _ h
  refine wpAny_call (codeAny_mono (F.run X.A X.stack s H ⟨us, []⟩ (us ++ ds) (vs ++ dvs) Q E hr I.env0 (hb s us I.kIn hl) r2 h) fun r s' hq => ?_)
  cases r with
  | error e => exact hx pins σ H s e s' I hq
  | ok fl =>
    cases fl with
    | ret u => exact I.after hq
    | next => exact False.elim hq
    | brk => exact False.elim hq
    | cont => exact False.elim hq
theorem pe_call (F : FnOk X.prog X.w X.K X.mg X.base CX k f fd ps sp) (hr : Room k X.A) (hg : Gl X x) (hm : X.mg x = some (.ref f)) (hk : PySem.W.keepIn X.K (.ref f) = true) (hb : Binds X.K fd ps ds) (hd : Vals dvs ds) (hx : Passes CX X E)
    (ha : PA X (e :: es) t) (hdb : (x == ("__debug__" : Str)) = false := by decide) (he : starEach (e :: es) X.env = (false, eval e X.env) :: starEach es X.env := by rfl) (hpl : (backTo pos (starEach es X.env)).any (·.1) = false := by rfl) :
    PE X (.Call (.Name x p) (e :: es) [] pos) (tCall sp dvs E t) := by
  intro pins s σ H Q I h
  refine wpAny_Call_Name_kw (ld_glob I hg hm ?_ hdb)
  refine PySem.W.callWith_K (h₀ := X.base) I.ok.mod.kin hk (thn (ha pos pins s σ H _ I h) fun us s1 ⟨vs, H1, I1, r, q⟩ => ⟨I1.kIn, ?_⟩) he hpl
  exact run_fn F hr hb hd hx I1 r q
end
section
variable {X : Cx} {CX : CXT} {k : Nat} {f C : Addr} {fd : FuncData} {ps ks : List Str} {sp : Sp} {E : XK} {x m : Str} {p pos apos kpos : Pos} {e o : Expr} {es : List Expr} {kws : List Keyword} {te ta : TE} {t tk : TA} {nm : Option Str}
variable {g : List Value → List Value → List Value} {gV : List V → List V → List V}
end
structure FnScope (N P : List Str) (sc : Scope) : Prop where
  kind : sc.kind = .function
  co : sc.isCoroutine = false
  gen : sc.isGenerator = false
  nd : N.Nodup
  pre : N.take P.length = P
  par : ∀ x ∈ P, sc.names.lookup x = some .local ∨ sc.names.lookup x = some .cell
  nofree : ∀ y ∈ sc.names, y.2 ≠ .free
theorem bindL_out {kindOf : Str → Option NameKind} {x : Str} : ∀ {binds : List (Str × Value)} {m : Str → Option Value}, (∀ v, (x, v) ∉ binds) → bindL kindOf binds m x = m x
  | [], _, _ => rfl
  | (n, v) :: r, m, h => by
    unfold bindL
    rw [bindL_out fun w hw => h w (List.mem_cons_of_mem _ hw)]
    split
    · have : x ≠ n := by rintro rfl; exact h v List.mem_cons_self
      simp [this]
    · rfl
theorem bindC_out {kindOf : Str → Option NameKind} {x : Str} : ∀ {binds : List (Str × Value)} {m : Str → Option Value}, (∀ v, (x, v) ∉ binds) → bindC kindOf binds m x = m x
  | [], _, _ => rfl
  | (n, v) :: r, m, h => by
    unfold bindC
    rw [bindC_out fun w hw => h w (List.mem_cons_of_mem _ hw)]
    split
    · rfl
    · have : x ≠ n := by rintro rfl; exact h v List.mem_cons_self
      simp [this]
theorem bindL_get {kindOf : Str → Option NameKind} {x : Str} {v : Value} : ∀ {P : List Str} {vs : List Value} {i : Nat} {m : Str → Option Value}, P.Nodup → P[i]? = some x → vs[i]? = some v → kindOf x = some .local →
    bindL kindOf (P.zip vs) m x = some v
  | [], _, _, _, _, h, _, _ => by simp at h
  | _ :: _, [], _, _, _, _, h, _ => by simp at h
  | p :: P, w :: vs, 0, m, nd, h1, h2, hk => by
    simp at h1 h2; subst h1; subst h2
    show bindL kindOf ((p, w) :: P.zip vs) m p = _
    unfold bindL
    rw [bindL_out fun v hv => (List.nodup_cons.mp nd).1 (List.of_mem_zip hv).1, if_pos hk]
    simp
  | p :: P, w :: vs, i + 1, m, nd, h1, h2, hk => by
    show bindL kindOf ((p, w) :: P.zip vs) m x = _
    unfold bindL
    exact bindL_get (i := i) (List.nodup_cons.mp nd).2 (by simpa using h1) (by simpa using h2) hk
theorem bindC_get {kindOf : Str → Option NameKind} {x : Str} {v : Value} : ∀ {P : List Str} {vs : List Value} {i : Nat} {m : Str → Option Value}, P.Nodup → P[i]? = some x → vs[i]? = some v → kindOf x ≠ some .local →
    bindC kindOf (P.zip vs) m x = some v
  | [], _, _, _, _, h, _, _ => by simp at h
  | _ :: _, [], _, _, _, _, h, _ => by simp at h
  | p :: P, w :: vs, 0, m, nd, h1, h2, hk => by
    simp at h1 h2; subst h1; subst h2
    show bindC kindOf ((p, w) :: P.zip vs) m p = _
    unfold bindC
    rw [bindC_out fun v hv => (List.nodup_cons.mp nd).1 (List.of_mem_zip hv).1, if_neg hk]
    simp
  | p :: P, w :: vs, i + 1, m, nd, h1, h2, hk => by
    show bindC kindOf ((p, w) :: P.zip vs) m x = _
    unfold bindC
    exact bindC_get (i := i) (List.nodup_cons.mp nd).2 (by simpa using h1) (by simpa using h2) hk
def start (N : List Str) (vs : List V) : St := vs.map some ++ List.replicate (N.length - vs.length) none
def cxOf (CX : CXT) (P : Program) (w : World) (K : PySem.W.Frag) (mg : Str → Option Value) (base : Heap) (N : List Str) (qual : Str) (scope : Scope) (f : Addr) (cd : Value) (A : Around) (outer : List Env) (s : Shared) (H : Hp) (E : XK) : Cx where
  prog := P
  w := w
  K := K
  mg := mg
  base := base
  A := A.deeper (envOfC qual scope s.heap.objs.size f cd)
  N := N
  s₀ := s
  H₀ := H
  env := envOfC qual scope s.heap.objs.size f cd
  outer := outer
  stack := envOfC qual scope s.heap.objs.size f cd :: outer
  ex := []
  calm := true
  fn := fun _ => true
  pn := []
  xe := fun e s' => wpAny (model P w) (A.deeper (envOfC qual scope s.heap.objs.size f cd)) (leaving (envOfC qual scope s.heap.objs.size f cd) e) (fun _ s'' => CX outer H s E e s'') (fun e' s'' => CX outer H s E e' s'') s'
theorem cell_has {sc : Scope} {n : Nat} {x : Str} (h : sc.names.lookup x = some .cell) : ∃ c, (cellsFrom n sc.names []).lookup x = some c := by
  have q := PySem.W.cellsFrom_some sc.names n [] (.inl h)
  exact Option.isSome_iff_exists.mp q
theorem inv_start {CX : CXT} {P : Program} {w : World} {K : PySem.W.Frag} {mg : Str → Option Value} {base : Heap} {N ps : List Str} {qual : Str} {scope : Scope} {f : Addr} {cd : Value} {A : Around} {outer : List Env} {s s1 : Shared} {H : Hp} {E : XK} {us : List Value} {vs : List V}
    (S : FnScope N ps scope) (hd : A.handled = none) (e0 : Env0 P w K mg base A outer s H) (hl : vs.length = ps.length) (r : Vals vs us)
    (x : InCallC s s.heap.objs.size (bindL (envOfC qual scope s.heap.objs.size f cd).kindOf (ps.zip us) fun _ => none) (cellsFrom (s.heap.objs.size + 1) scope.names []) (bindC (envOfC qual scope s.heap.objs.size f cd).kindOf (ps.zip us) fun _ => none) s1) :
    Inv (cxOf CX P w K mg base N qual scope f cd A outer s H E) [] (start N vs) H s1 := by
  have hpl : ps.length ≤ N.length := by have := congrArg List.length S.pre; rw [List.length_take] at this; omega
  obtain ⟨h1, tk, rfl, hk⟩ := x.done
  have noA : ∀ b : Addr, b ∉ (cxOf CX P w K mg base N qual scope f cd A outer s H E).ex := fun b z => absurd (show b ∈ ([] : List Addr) from z) (by simp)
  refine ⟨⟨e0.mod, S.kind, rfl, rfl, Nat.le_refl _, fun y z c h1 h2 => ?_, fun y hy => ?_, fun y c _ h => ?_, fun _ => hd, Around.frames_deeper e0.frames, .inr ⟨rfl, rfl⟩, fun b z => absurd z (noA b), e0.bs, e0.bsz, fun b _ _ => noA b, fun b z => absurd z (noA b), e0.funs, e0.frf⟩,
    rfl, e0.bare, Un.kept hk, ⟨_, x.toInCall.ns, fun i y v h1 h2 h3 => ?_⟩, fun y c h => ⟨_, x.cell y c h⟩, e0.hok.fresh (Nat.le_refl _), fun y c h => ?_, fun p hp => absurd (show p ∈ ([] : List (Addr × Obj)) from hp) (by simp), e0.hok.kept hk, ?_⟩
  · exact name_of_addr x.apart (PySem.mem_of_lookup h1) (PySem.mem_of_lookup h2)
  · have hy : scope.names.lookup y = some .cell ∨ scope.names.lookup y = some .free := hy
    rcases hy with hy | hy
    · exact cell_has hy
    · exact absurd rfl (S.nofree _ (PySem.mem_of_lookup hy))
  · exact Nat.le_of_lt (x.above y c (PySem.mem_of_lookup h))
  · have hi : i < vs.length := by
      unfold start at h2
      by_cases hi : i < vs.length
      · exact hi
      · rw [List.getElem?_append_right (by simpa using hi)] at h2
        rw [List.getElem?_replicate] at h2
        split at h2 <;> cases h2
    have ha : vs[i]? = some v := by
      unfold start at h2
      rw [List.getElem?_append_left (by simpa using hi), List.getElem?_map] at h2
      cases e : vs[i]? with
      | none => rw [e] at h2; cases h2
      | some a => rw [e] at h2; cases h2; rfl
    obtain ⟨u, hu, rv⟩ := r.get ha
    have hp : ps[i]? = some y := by
      rw [← S.pre, List.getElem?_take_of_lt (by omega)]; exact h1
    have ndP : ps.Nodup := by rw [← S.pre]; exact S.nd.sublist (List.take_sublist _ _)
    refine ⟨u, rv, ?_⟩
    rcases S.par y (List.mem_of_getElem? hp) with k | k
    · exact .inl ⟨k, bindL_get ndP hp hu k⟩
    · obtain ⟨c, e⟩ := cell_has (n := s.heap.objs.size + 1) k
      refine .inr ⟨.inl k, c, e, ?_⟩
      have q := x.cell y c e
      rw [bindC_get ndP hp hu (by show scope.names.lookup y ≠ _; rw [k]; decide)] at q
      exact q
  · exact e0.hok.fresh (Nat.le_of_lt (x.above y c (PySem.mem_of_lookup h)))
  · unfold start
    show _ = N.length
    rw [List.length_append, List.length_map, List.length_replicate]
    omega
theorem fn_of {CX : CXT} {P : Program} {w : World} {K : PySem.W.Frag} {mg : Str → Option Value} {base : Heap} {k : Nat} {f : Addr} {name qual : Str} {params : Arguments} {body : List Stmt} {scope : Scope} {dV kV doc pm cdv ct oc : Value} {an od : Option Addr}
    {osl : Array (Option Value)} {N ps : List Str} {sp : Sp} (lk : K.lookup f = some ⟨oc, od, .func (PySem.W.fnOf name qual params body scope dV kV doc pm an cdv ct), osl⟩) (hcd : PySem.W.codeIn K cdv qual = true) (S : FnScope N ps scope)
    (len : ∀ vs H Q E, sp vs H Q E → vs.length = ps.length)
    (hbody : ∀ (A : Around) (outer : List Env) (s : Shared) (H : Hp) (vs : List V) (Q : VK) (E : XK), Room k (A.deeper (envOfC qual scope s.heap.objs.size f cdv)) → sp vs H Q E →
      ∃ t, PSs (cxOf CX P w K mg base N qual scope f cdv A outer s H E) body t ∧ t { nx := fun _ H' => Q .non H', rt := Q } (start N vs) H) :
    FnOk P w K mg base CX (k + 1) f (PySem.W.fnOf name qual params body scope dV kV doc pm an cdv ct) ps sp := by
  refine ⟨len, fun A outer s H args us vs Q E hr e0 hb r hsp => ?_⟩
  have hl := len _ _ _ _ hsp
  have KX : K.In s.heap := e0.mod.kin.keeps fun b o e => (e0.bs b o e).1
  have lim : s.heap.NoLimit := e0.mod.nolimit.keeps fun b o e => (e0.bs b o e).1
  have hkind : ∀ y ∈ ps.zip us, scope.names.lookup y.1 = some .local ∨ (scope.names.lookup y.1 = some .cell ∧ ((cellsFrom (s.heap.objs.size + 1) scope.names []).lookup y.1).isSome = true) := fun ⟨n, v⟩ hy => by
    rcases S.par n (List.of_mem_zip hy).1 with q | q
    · exact .inl q
    · exact .inr ⟨q, PySem.W.cellsFrom_some _ _ _ (.inl q)⟩
  refine codeAny_call_function hr.depth (KX _ _ lk) rfl S.co S.gen rfl (PySem.W.codeRec_of KX hcd) (hb _ _ _ _ ?_)
  refine wpAny_newFunctionEnv_cells S.kind hkind fun env he s1 x => ?_
  subst he
  refine ⟨lim.keeps x.toInCall.keep, codeAny_func ?_⟩
  obtain ⟨t, ht, hq⟩ := hbody A outer s H vs Q E (hr.deeper _) hsp
  have I : Inv (cxOf CX P w K mg base N qual scope f cdv A outer s H E) [] (start N vs) H s1 := inv_start S hr.hd e0 hl r x
  refine wpAny_mono (ht [] s1 (start N vs) H _ I hq) (fun fl s' hs => ?_) fun e s' hs => hs
  have fin : ∀ {σ' : St} {H' : Hp} {v : V} {u : Value}, Inv (cxOf CX P w K mg base N qual scope f cdv A outer s H E) [] σ' H' s' → RelV v u → Q v H' → CE outer P w H s Q u s' :=
    fun {σ' H' v u} J rv q => ⟨v, H', J.os, J.bare, J.base, J.hok, rv, q⟩
  cases fl with
  | ret u =>
    obtain ⟨v, σ', H', J, rv, q⟩ := hs
    exact fin J rv q
  | next =>
    obtain ⟨σ', H', J, q⟩ := hs
    exact fin (v := V.non) (u := Value.none) J rfl q
  | brk =>
    obtain ⟨_, _, _, q⟩ := hs
    exact False.elim q
  | cont =>
    obtain ⟨_, _, _, q⟩ := hs
    exact False.elim q
end L2
namespace L2
open PySem PySem.Spec PyProof.Rows
section
variable {X : Cx} {x : Str} {p pos : Pos} {e : Expr} {es : List Expr} {t : TA} {id T : String} {r : List V → Hp → VK → Prop}
def tCB (r : List V → Hp → VK → Prop) (t : TA) : TE := fun σ H Q => t σ H fun vs H1 => r vs H1 Q
theorem pe_callB (hc : CallR X (.builtin id) r) (hg : Gl X x) (hm : X.mg x = none) (hv : bootBuiltins x = some (.builtin id)) (ha : PA X (e :: es) t) (hn : x ≠ "__name__" := by decide) (hdb : (x == ("__debug__" : Str)) = false := by decide)
    (he : starEach (e :: es) X.env = (false, eval e X.env) :: starEach es X.env := by rfl) (hpl : (backTo pos (starEach es X.env)).any (·.1) = false := by rfl) : PE X (.Call (.Name x p) (e :: es) [] pos) (tCB r t) := by
  intro pins s σ H Q I h
  refine wpAny_Call_Name_kw (ld_blt I hg hm hv ?_ hn hdb)
  exact PyProof.Rows.callWith_builtin1 (thn (ha pos pins s σ H _ I h) fun us s1 ⟨vs, H1, I1, r1, q1⟩ => hc pins s1 σ H1 vs us Q I1 r1 q1) he hpl
theorem pe_callTy (hc : CallR X (.type T) r) (hg : Gl X x) (hm : X.mg x = none) (hv : bootBuiltins x = some (.type T)) (ha : PA X (e :: es) t) (hn : x ≠ "__name__" := by decide) (hdb : (x == ("__debug__" : Str)) = false := by decide)
    (he : starEach (e :: es) X.env = (false, eval e X.env) :: starEach es X.env := by rfl) (hpl : (backTo pos (starEach es X.env)).any (·.1) = false := by rfl) : PE X (.Call (.Name x p) (e :: es) [] pos) (tCB r t) := by
  intro pins s σ H Q I h
  refine wpAny_Call_Name_kw (ld_blt I hg hm hv ?_ hn hdb)
  exact PyProof.Rows.callWith_type1 (thn (ha pos pins s σ H _ I h) fun us s1 ⟨vs, H1, I1, r1, q1⟩ => hc pins s1 σ H1 vs us Q I1 r1 q1) he hpl
end
end L2
namespace HT
open PySem PyProof.Rows
section
open PySem.SeqAt
open PySem.AutoSeq1 (wpAny_loadPart')
open PySem.MeetsSeq PySem.MeetsSeq2 PySem.MeetsSeq3
end
section
variable {prog : Program} {w : World} {A : Around} {E : Value → Shared → Prop} {s : Shared}
def sIx (n d : Nat) : Option Int → Nat
  | none => d
  | some v => if v < 0 then (v + (n : Int)).toNat else min v.toNat n
theorem sIx_none (n d : Nat) : sIx n d none = d := rfl
theorem sIx_nat (n d k : Nat) : sIx n d (some (k : Int)) = min k n := by
  show (if (k : Int) < 0 then ((k : Int) + (n : Int)).toNat else min (k : Int).toNat n) = min k n
  rw [if_neg (by omega), Int.toNat_natCast]
end
end HT
namespace L2
open PySem PySem.Spec PyProof.Rows
abbrev TO := St → Hp → (Option Int → Hp → Prop) → Prop
def PO (X : Cx) (e : Option Expr) (t : TO) : Prop :=
  ∀ (pins : List (Addr × Obj)) (s : Shared) (σ : St) (H : Hp) (Q : Option Int → Hp → Prop), Inv X pins σ H s → t σ H Q →
    wpAny (model X.prog X.w) X.A (evalPart e X.env) (fun u s' => ∃ o H', Inv X pins σ H' s' ∧ IsPart u o ∧ Q o H') X.xe s
def tNoPart : TO := fun _ H Q => Q none H
def tPart (t : TE) : TO := fun σ H Q => t σ H fun x H1 => ∃ i, x = .int i ∧ Q (some i) H1
theorem intsAre_of {ns : List Int} : ∀ {us : List Value}, Vals (ns.map V.int) us → IntsAre us ns := by
  induction ns with
  | nil => intro us r; rw [List.map_nil] at r; cases r; exact .nil
  | cons n ns ih =>
    intro us r
    rw [List.map_cons] at r
    cases r with
    | cons r1 r2 =>
      obtain ⟨t, e⟩ := r1
      subst e
      exact .cons n t (ih r2)
section
variable {X : Cx} {e : Expr} {te : TE} {lo hi : Option Expr} {tl th : TO} {pos p2 : Pos}
theorem po_none : PO X none tNoPart := by
  intro pins s σ H Q I h
  rw [evalPart_none]
  exact wpAny_pure ⟨none, H, I, .none, h⟩
theorem po_some (h : PE X e te) : PO X (some e) (tPart te) := by
  intro pins s σ H Q I hw
  rw [evalPart_some]
  refine thn (h pins s σ H _ I hw) fun u s1 ⟨x, H1, I1, r1, q1⟩ => ?_
  obtain ⟨i, rfl, q⟩ := q1
  obtain ⟨t, rfl⟩ := r1
  exact ⟨some i, H1, I1, .int i t, q⟩
def SlR (X : Cx) (r : V → Option Int → Option Int → Hp → VK → Prop) : Prop :=
  ∀ (pins : List (Addr × Obj)) (s : Shared) (σ : St) (H : Hp) (x : V) (v vl vu : Value) (lo hi : Option Int) (sl : Addr) (Q : VK), Inv X pins σ H s → RelV x v → s.heap.IsSliceOf sl vl vu .none → IsPart vl lo → IsPart vu hi → r x lo hi H Q →
    ∃ T id, typeLookup (.type T) "__getitem__" = pure (some (.builtin id)) ∧ s.TypeIs v T ∧ wpAny (model X.prog X.w) X.A (getItem v (.ref sl)) (EP X pins σ Q) X.xe s
def tSl (r : V → Option Int → Option Int → Hp → VK → Prop) (te : TE) (tl th : TO) : TE := fun σ H Q => te σ H fun x H1 => tl σ H1 fun l H2 => th σ H2 fun u H3 => r x l u H3 Q
theorem pe_slice {r : V → Option Int → Option Int → Hp → VK → Prop} (hr : SlR X r) (he : PE X e te) (hl : PO X lo tl) (hu : PO X hi th) : PE X (.Subscript e (.Slice lo hi none p2) pos) (tSl r te tl th) := by
  intro pins s σ H Q I h
  refine Subscript_ (thn (he pins s σ H _ I h) fun v s1 ⟨x, H1, I1, r1, q1⟩ => ?_)
  refine wpAny_Slice (thn (hl pins s1 σ H1 _ I1 q1) fun vl s2 ⟨l, H2, I2, pl, q2⟩ => thn (hu pins s2 σ H2 _ I2 q2) fun vu s3 ⟨u, H3, I3, pu, q3⟩ => ?_)
  rw [evalPart_none]
  refine wpAny_pure ?_
  have I4 : Inv X pins σ H3 { s3 with heap := s3.heap.push { cls := .type "slice", data := .fields #[vl, vu, .none] } } := I3.kept (t' := s3.toks) fun b ob q => Heap.get?_push_of_some _ q
  obtain ⟨T, id, hT, ht, hg⟩ := hr pins { s3 with heap := s3.heap.push { cls := .type "slice", data := .fields #[vl, vu, .none] } } σ H3 x v vl vu l u s3.heap.objs.size Q I4 r1 (Heap.IsSliceOf.new ..) pl pu q3
  show wpAny (model X.prog X.w) X.A (subscriptTail e (.Slice lo hi none p2) v (.ref s3.heap.objs.size)) (EP X pins σ Q) X.xe { s3 with heap := s3.heap.push { cls := .type "slice", data := .fields #[vl, vu, .none] } }
  exact tail_any (ops := [.ref s3.heap.objs.size, v]) ht hT hg (by with_unfolding_all rfl)
def cutV (xs : List V) (lo hi : Option Int) : List V := (xs.drop (HT.sIx xs.length 0 lo)).take (HT.sIx xs.length xs.length hi - HT.sIx xs.length 0 lo)
theorem cutV_length (xs : List V) (lo hi : Option Int) : (cutV xs lo hi).length ≤ xs.length := by
  unfold cutV
  rw [List.length_take, List.length_drop]
  omega
end
end L2
namespace L2
open PySem PySem.Spec PyProof.Rows
def ixN (n : Nat) (i : Int) : Option Nat := if 0 ≤ i then (if i < n then some i.toNat else none) else if -(n : Int) ≤ i then some (i + n).toNat else none
def atI {α : Type} (xs : List α) (i : Int) : Option α := (ixN xs.length i).bind fun j => xs[j]?
theorem ixN_seq {n : Nat} {i : Int} {j : Nat} (h : ixN n i = some j) : seqIndex? i n = some j ∧ j < n ∧ -(n : Int) ≤ i ∧ i < n := by
  unfold ixN at h
  by_cases h0 : 0 ≤ i
  · rw [if_pos h0] at h
    by_cases h1 : i < n
    · rw [if_pos h1] at h
      have e : i.toNat = j := Option.some.inj h
      exact ⟨by rw [seqIndex_of h0 h1, e], by omega, by omega, h1⟩
    · rw [if_neg h1] at h; cases h
  · rw [if_neg h0] at h
    by_cases h1 : -(n : Int) ≤ i
    · rw [if_pos h1] at h
      have e : (i + n).toNat = j := Option.some.inj h
      exact ⟨by rw [seqIndex_neg (by omega) h1, e], by omega, h1, by omega⟩
    · rw [if_neg h1] at h; cases h
theorem atI_get {α : Type} {xs : List α} {i : Int} {v : α} (h : atI xs i = some v) : ∃ j, seqIndex? i xs.length = some j ∧ xs[j]? = some v ∧ j < xs.length ∧ -(xs.length : Int) ≤ i ∧ i < xs.length := by
  unfold atI at h
  cases e : ixN xs.length i with
  | none => rw [e] at h; cases h
  | some j =>
    rw [e] at h
    obtain ⟨h1, h2, h3, h4⟩ := ixN_seq e
    exact ⟨j, h1, h, h2, h3, h4⟩
theorem atI_nat {α : Type} {xs : List α} {j : Nat} {v : α} (h : xs[j]? = some v) : atI xs (j : Int) = some v := by
  have hj : j < xs.length := (List.getElem?_eq_some_iff.mp h).1
  have e : ixN xs.length (j : Int) = some j := by
    unfold ixN
    rw [if_pos (by omega), if_pos (by omega)]; simp
  unfold atI; rw [e]; exact h
def PlainIx (b : Expr) : Prop := ∀ o i, subscripted b false o i = operate [o, i] (getItem o i)
def IxR (X : Cx) (r : R2) : Prop :=
  ∀ (value slice : Expr) (pins : List (Addr × Obj)) (s : Shared) (σ : St) (H : Hp) (x y : V) (v u : Value) (Q : VK), Inv X pins σ H s → RelV x v → RelV y u → r x y H Q →
    subscripted slice false v u = operate [v, u] (getItem v u) → wpAny (model X.prog X.w) X.A (subscriptTail value slice v u) (EP X pins σ Q) X.xe s
def MtR (X : Cx) (id : String) (r : V → List V → Hp → VK → Prop) : Prop :=
  ∀ (pins : List (Addr × Obj)) (s : Shared) (σ : St) (H : Hp) (x : V) (xs : List V) (v : Value) (us : List Value) (Q : VK), Inv X pins σ H s → RelV x v → Vals xs us → r x xs H Q →
    wpAny (model X.prog X.w) X.A (call (.builtin id) (v :: us)) (EP X pins σ Q) X.xe s
section
variable {X : Cx} {a b : Expr} {ta tb : TE} {pos : Pos}
theorem pe_ix {r : R2} (hr : IxR X r) (ha : PE X a ta) (hb : PE X b tb) (hs : PlainIx b) : PE X (.Subscript a b pos) (tOp r ta tb) := by
  intro pins s σ H Q I h
  exact Subscript_ (binT ha hb I h fun v u s2 x y H2 I2 rx ry q => hr a b pins s2 σ H2 x y v u Q I2 rx ry q (hs _ _))
def rIxL (K : PySem.W.Frag) : R2 := fun x y H Q => ∃ p xs i v, x = .ref p ∧ y = .int i ∧ SqL K H p xs ∧ atI xs i = some v ∧ Q v H
def rIxT (K : PySem.W.Frag) : R2 := fun x y H Q => ∃ p xs i v, x = .ref p ∧ y = .int i ∧ SqT K H p xs ∧ atI xs i = some v ∧ Q v H
theorem ix_list : IxR X (rIxL X.K) := by
  intro value slice pins s σ H x y v u Q I rx ry h hs
  obtain ⟨p, xs, i, z, rfl, rfl, hq, he, q⟩ := h
  cases rx
  obtain ⟨t, rfl⟩ := ry
  obtain ⟨its, r, pl, hz⟩ := I.list hq
  obtain ⟨j, h1, h2, h3, h4, h5⟩ := atI_get he
  obtain ⟨w, ew, rw'⟩ := r.get h2
  have hl := r.length
  have hn := line63
  have fin : EP X pins σ Q w s := ⟨z, H, I, rw', q⟩
  by_cases h0 : 0 ≤ i
  · have hj : i.toNat = j := by
      rw [seqIndex_of h0 h5] at h1
      exact Option.some.inj h1
    exact item_listR pl.isList h0 (by omega) (by rw [hj]; simpa using ew) fin hs
  · have hj : (i + (its.toArray.size : Int)).toNat = j := by
      rw [seqIndex_neg (by omega) h4] at h1
      rw [List.size_toArray, ← hl]
      exact Option.some.inj h1
    exact subscriptTail_builtinR (x := w) pl.isList.typeIs slot_list_getitem.lookup
      (wpAny_getItem_list_neg (Q := fun r s' => r = w ∧ EP X pins σ Q r s') pl.isList (by omega) (by rw [List.size_toArray] <;> omega) (by omega) (by rw [hj]; simpa using ew) ⟨rfl, fin⟩) hs
theorem ix_tup : IxR X (rIxT X.K) := by
  intro value slice pins s σ H x y v u Q I rx ry h hs
  obtain ⟨p, xs, i, z, rfl, rfl, hq, he, q⟩ := h
  cases rx
  obtain ⟨t, rfl⟩ := ry
  obtain ⟨its, r, pl, hz⟩ := I.tuple hq
  obtain ⟨j, h1, h2, h3, h4, h5⟩ := atI_get he
  obtain ⟨w, ew, rw'⟩ := r.get h2
  have hl := r.length
  have hn := line63
  have fin : EP X pins σ Q w s := ⟨z, H, I, rw', q⟩
  exact subscriptTail_builtinR (x := w) pl.typeIs slot_tuple_getitem.lookup
    (getItem_tuple (j := j) (Q := fun r s' => r = w ∧ EP X pins σ Q r s') pl (by omega) (by omega) (by rw [List.size_toArray, ← hl]; exact h1) (by simpa using ew) ⟨rfl, fin⟩) hs
theorem mapSeq_set (its : List Value) (n j : Nat) (u : Value) : Obj.mapSeq (·.setIfInBounds j u) { cls := .type "list", data := .seq its.toArray n } = { cls := .type "list", data := .seq (its.set j u).toArray n } := by
  simp [Obj.mapSeq]
theorem Inv.lst {pins : List (Addr × Obj)} {σ : St} {H : Hp} {s : Shared} {p : Addr} {xs : List V} (I : Inv X pins σ H s) (h : H p = some (.lst xs)) :
    ∃ (its : List Value) (n : Nat), Vals xs its ∧ s.heap.get? p = some { cls := .type "list", data := .seq its.toArray n } ∧ xs.length ≤ sizeLine := by
  obtain ⟨z, its, n, r, e⟩ := I.hok p _ h
  exact ⟨its, n, r, e, z⟩
theorem Inv.lstUpd {pins : List (Addr × Obj)} {σ : St} {H : Hp} {s : Shared} {p : Addr} {xs ys : List V} {its its' : List Value} {n n' : Nat} {f : Obj → Obj} (I : Inv X pins σ H s) (h : H p = some (.lst xs))
    (ho : s.heap.get? p = some { cls := .type "list", data := .seq its.toArray n }) (hf : f { cls := .type "list", data := .seq its.toArray n } = { cls := .type "list", data := .seq its'.toArray n' }) (r : Vals ys its') (hz : ys.length ≤ sizeLine) (t : Nat) :
    Inv X pins σ (upd H p (.lst ys)) { s with heap := s.heap.update p f, toks := t } := by
  have e : (s.heap.update p f).get? p = some { cls := .type "list", data := .seq its'.toArray n' } := by
    rw [Heap.get?_update_self f ho (by rw [hf] <;> rfl), hf]
  refine I.write (x := p) (e := p) (by rw [h]; trivial) (.inl rfl) (fun b u hb q => (Heap.get?_update_other _ _ (Ne.symm hb)).trans q) ⟨_, e⟩ ?_
  exact ⟨hz, its', n', r, e⟩
def rSetL : V → V → V → Hp → (Hp → Prop) → Prop := fun o i v H Q => ∃ p xs k j, o = .ref p ∧ i = .int k ∧ H p = some (.lst xs) ∧ ixN xs.length k = some j ∧ Q (upd H p (.lst (xs.set j v)))
theorem set_list : PSet X rSetL := by
  intro pins s σ H o i v ov iv u Q I ro ri rv h
  obtain ⟨p, xs, k, j, rfl, rfl, hp, hj, q⟩ := h
  cases ro
  obtain ⟨t, rfl⟩ := ri
  obtain ⟨its, n, r, ho, hz⟩ := I.lst hp
  obtain ⟨h1, h2, h3, h4⟩ := ixN_seq hj
  have hl := r.length
  have hn := line63
  have I' : Inv X pins σ (upd H p (.lst (xs.set j v))) { s with heap := s.heap.update p (Obj.mapSeq (·.setIfInBounds j u)) } :=
    I.lstUpd hp ho (mapSeq_set its n j u) (r.set rv j) (by rw [List.length_set]; exact hz) s.toks
  by_cases h0 : 0 ≤ k
  · have hk : k.toNat = j := by
      rw [seqIndex_of h0 h4] at h1
      exact Option.some.inj h1
    exact PySem.W.ki_setAt ho h0 (by omega) (by rw [List.size_toArray, ← hl]; exact h4) (by rw [hk]; exact ⟨_, I', q⟩)
  · have hk : (k + (its.toArray.size : Int)).toNat = j := by
      rw [seqIndex_neg (by omega) h3] at h1
      rw [List.size_toArray, ← hl]
      exact Option.some.inj h1
    exact PySem.W.ki_setBack ho (by omega) (by rw [List.size_toArray, ← hl]; exact h3) (by omega) (by rw [hk]; exact ⟨_, I', q⟩)
theorem slice_bounds (lo hi : Option Int) (n : Nat) : (sliceBounds lo hi none n).1 = ((HT.sIx n 0 lo : Nat) : Int) ∧ (sliceBounds lo hi none n).2.1 = ((HT.sIx n n hi : Nat) : Int) ∧ (sliceBounds lo hi none n).2.2 = 1 := by
  refine ⟨?_, ?_, rfl⟩
  · cases lo with
    | none => simp [sliceBounds, HT.sIx]
    | some i =>
      simp only [sliceBounds, HT.sIx, Option.getD_none, show (1 : Int) > 0 by decide, if_true]
      by_cases h : i < 0
      · simp only [h, if_true] <;> omega
      · simp only [h, if_false] <;> omega
  · cases hi with
    | none => simp [sliceBounds, HT.sIx]
    | some i =>
      simp only [sliceBounds, HT.sIx, Option.getD_none, show (1 : Int) > 0 by decide, if_true]
      by_cases h : i < 0
      · simp only [h, if_true] <;> omega
      · simp only [h, if_false] <;> omega
theorem slicePick_cut (its : List Value) (lo hi : Option Int) : slicePick its.toArray lo hi none = ((its.drop (HT.sIx its.length 0 lo)).take (HT.sIx its.length its.length hi - HT.sIx its.length 0 lo)).toArray := by
  obtain ⟨h1, h2, h3⟩ := slice_bounds lo hi its.toArray.size
  unfold slicePick
  rw [h1, h2, h3]
  simp only [sliceRange_one, pick_run, List.size_toArray] <;> rfl
def rSlL (K : PySem.W.Frag) : V → Option Int → Option Int → Hp → VK → Prop := fun x lo hi H Q => ∃ a xs, x = .ref a ∧ SqL K H a xs ∧ ∀ p, H p = none → Q (.ref p) (upd H p (.lst (cutV xs lo hi)))
theorem sl_list : SlR X (rSlL X.K) := by
  intro pins s σ H x v vl vu lo hi sl Q I rx hs pl pu h
  obtain ⟨a, xs, rfl, hx, q⟩ := h
  cases rx
  obtain ⟨its, r, ht, hz⟩ := I.list hx
  have hlen := r.length
  refine ⟨"list", _, slot_list_getitem.lookup, ht.isList.typeIs, ?_⟩
  refine wpAny_getItem_list_slice ht.isList hs pl pu .none (by simp) ?_ (by rw [List.size_toArray] <;> omega)
  rw [slicePick_cut, ← hlen]
  refine ⟨.ref s.heap.objs.size, _, I.laid (t' := s.toks) (o := .lst (cutV xs lo hi)) (fun b ob q => Heap.get?_push_of_some _ q) (Nat.le_refl _) ?_, rfl, q _ (I.hok.fresh (Nat.le_refl _))⟩
  exact ⟨Nat.le_trans (cutV_length xs lo hi) hz, _, 0, (r.drop (HT.sIx xs.length 0 lo)).take (HT.sIx xs.length xs.length hi - HT.sIx xs.length 0 lo), Heap.get?_push_size _ rfl⟩
theorem call_len_seq : CallR X (.builtin "len") (fun xs H Q => ∃ p ys, xs = [.ref p] ∧ (SqL X.K H p ys ∨ SqT X.K H p ys) ∧ Q (.int ys.length) H) := by
  intro pins s σ H xs us Q I r h
  obtain ⟨p, ys, rfl, hq, q⟩ := h
  obtain ⟨u, rfl, rx⟩ := vals1 r
  cases rx
  have hn := line63
  rcases hq with hq | hq
  · obtain ⟨its, r', pl, hz⟩ := I.list hq
    have hlen := r'.length
    exact Calls.call_len_list pl.isList (by simp only [List.size_toArray] <;> omega) ⟨.int ys.length, H, I.tok _, ⟨s.toks + 1, by rw [List.size_toArray, hlen]⟩, q⟩
  · obtain ⟨its, r', pl, hz⟩ := I.tuple hq
    have hlen := r'.length
    exact len_tuple pl (by simp only [List.size_toArray] <;> omega) ⟨.int ys.length, H, I.tok _, ⟨s.toks + 1, by rw [List.size_toArray, hlen]⟩, q⟩
theorem call_tuple_of : CallR X (.type "tuple") (fun xs H Q => ∃ p ys, xs = [.ref p] ∧ ((SqL X.K H p ys ∧ ∀ l, H l = none → Q (.ref l) (upd H l (.tup ys))) ∨ (SqT X.K H p ys ∧ Q (.ref p) H))) := by
  intro pins s σ H xs us Q I r h
  obtain ⟨p, ys, rfl, h⟩ := h
  obtain ⟨u, rfl, rx⟩ := vals1 r
  cases rx
  rcases h with ⟨hq, q⟩ | ⟨hq, q⟩
  · obtain ⟨its, r', pl, hz⟩ := I.list hq
    have hlen := r'.length
    refine call_tuple_list pl.isList (fun h' kp => ?_) (by simp only [List.size_toArray] <;> omega)
    have I1 : Inv X pins σ H { s with heap := h' } := I.kept (t' := s.toks) kp
    have I2 : Inv X pins σ (upd H h'.objs.size (.tup ys)) { s with heap := h'.push { cls := .type "tuple", data := .seq its.toArray } } :=
      I1.laid (t' := s.toks) (fun b o e => Heap.get?_push_of_some _ e) (Nat.le_refl _) (show ObjOk X.prog X.w _ _ _ (.tup ys) from ⟨hz, its, r', IsTup.new _ _⟩)
    exact ⟨.ref h'.objs.size, _, I2, rfl, q _ (I1.hok.fresh (Nat.le_refl _))⟩
  · obtain ⟨its, r', pl, hz⟩ := I.tuple hq
    exact call_tuple_same pl ⟨.ref p, H, I, rfl, q⟩
def tyV (K : PySem.W.Frag) (T : String) (x : V) (H : Hp) : Prop := match x with
  | .str _ => T = "str"
  | .int _ => T = "int"
  | .ref p => (T = "list" ∧ ∃ xs, SqL K H p xs) ∨ (T = "tuple" ∧ ∃ o, K.lookup p = some o ∧ o.cls = .type "tuple" ∧ o.dict = none) ∨
      (T = "dict" ∧ ((∃ kvs, H p = some (.dK kvs)) ∨ ∃ kvs, H p = some (.dT kvs))) ∨ (T = "set" ∧ ∃ S n, H p = some (.set S n))
  | _ => False
theorem tyV_is {pins : List (Addr × Obj)} {σ : St} {H : Hp} {s : Shared} {T : String} {x : V} {v : Value} (I : Inv X pins σ H s) (r : RelV x v) (ty : tyV X.K T x H) :
    s.TypeIs v T ∧ ∀ a, v = .ref a → ∃ ob, s.heap.get? a = some ob ∧ ob.dict = none := by
  cases x with
  | str z =>
    obtain ⟨t, rfl⟩ := r
    cases (show T = "str" from ty)
    exact ⟨typeIs_str s z t, fun _ e => nomatch e⟩
  | int i =>
    obtain ⟨t, rfl⟩ := r
    cases (show T = "int" from ty)
    exact ⟨typeIs_int s i t, fun _ e => nomatch e⟩
  | ref p =>
    cases r
    rcases ty with ⟨rfl, xs, hq⟩ | ⟨rfl, o, hk, hc, hd⟩ | ⟨rfl, hk⟩ | ⟨rfl, S, n, hk⟩
    · obtain ⟨its, _, pl, _⟩ := I.list hq
      refine ⟨pl.isList.typeIs, fun a e => ?_⟩
      cases e
      obtain ⟨o, n, e, c, hd, _⟩ := pl
      exact ⟨o, e, hd⟩
    · refine ⟨⟨o, I.kIn p o hk, hc⟩, fun a e => ?_⟩
      cases e
      exact ⟨o, I.kIn _ o hk, hd⟩
    · have z : ∃ o, s.heap.get? p = some o ∧ o.ExactDict := by
        rcases hk with ⟨kvs, hk⟩ | ⟨kvs, hk⟩
        · obtain ⟨_, _, _, _, o, _, _, e, ex, _⟩ := I.hok p _ hk
          exact ⟨o, e, ex⟩
        · obtain ⟨_, _, _, _, o, _, _, e, ex, _⟩ := I.hok p _ hk
          exact ⟨o, e, ex⟩
      obtain ⟨o, e, ex⟩ := z
      refine ⟨⟨o, e, ex.1⟩, fun a e2 => ?_⟩
      cases e2
      exact ⟨o, e, ex.2.1⟩
    · obtain ⟨o, _, _, _, e, ex, _⟩ := I.hok p _ hk
      refine ⟨⟨o, e, ex.1⟩, fun a e2 => ?_⟩
      cases e2
      exact ⟨o, e, ex.2.1⟩
  | _ => exact False.elim ty
def tBM (K : PySem.W.Frag) (T : String) (r : V → List V → Hp → VK → Prop) (to : TE) (t : TA) : TE := fun σ H Q => to σ H fun x H1 => tyV K T x H1 ∧ t σ H1 fun xs H2 => r x xs H2 Q
variable {o e : Expr} {es : List Expr} {to : TE} {t : TA} {name : Str} {apos cpos : Pos} {T id : String} {r : V → List V → Hp → VK → Prop}
theorem pe_bm (pa : PlainAttrs T) (slot : Slot T name id) (hty : typeOf (.builtin id) = pure (.type "method_descriptor")) (hm : MtR X id r) (ho : PE X o to) (ha : PA X (e :: es) t)
    (hbase : attributeBase o name X.env (eval o X.env) = eval o X.env := by rfl)
    (hfew : ((backTo cpos (starEach (e :: es) X.env)).all (fun x => !x.1) && (backToKw cpos (keywordEach [] X.env)).all (fun x => x.1.isSome)
      && decide ((e :: es).length + ([] : List Keyword).length + (if ([] : List Keyword).isEmpty then 0 else 1) < 30)) = true := by rfl)
    (hline : (apos.endLine == cpos.line) = true := by rfl) (hs : starEach (e :: es) X.env = (false, eval e X.env) :: starEach es X.env := by rfl) (hplain : (backTo cpos (starEach es X.env)).any (·.1) = false := by rfl) :
    PE X (.Call (.Attribute o name apos) (e :: es) [] cpos) (tBM X.K T r to t) := by
  intro pins s σ H Q I h
  refine wpAny_Call_method_late hbase hfew hline rfl (thn (ho pins s σ H _ I h) fun v s1 ⟨x, H1, I1, r1, ty, q1⟩ => ?_)
  obtain ⟨h1, h2⟩ := tyV_is I1 r1 ty
  refine ⟨T, id, pa, slot, hty, h1, h2, ?_⟩
  have hA := ha cpos pins s1 σ H1 _ I1 q1
  rw [hs] at hA ⊢
  refine Calls.callWith_builtin (by show (false || (backTo cpos (starEach es X.env)).any (·.1)) = false; rw [hplain] <;> rfl) (Calls.evalArgs_plain ?_)
  exact thn hA fun us s2 ⟨vs, H2, I2, r2, q2⟩ => hm pins s2 σ H2 x vs v us Q I2 r1 r2 q2
end
end L2
namespace L2
open PySem PySem.Spec PyProof.Rows
def MtM (X : Cx) (id : String) (r : V → List V → Hp → VK → Prop) : Prop :=
  ∀ (pins : List (Addr × Obj)) (s : Shared) (σ : St) (H : Hp) (x : V) (xs : List V) (v : Value) (us : List Value) (Q : VK), Inv X pins σ H s → RelV x v → Vals xs us → r x xs H Q →
    wpAny (model X.prog X.w) X.A (call (.builtin id) (v :: us)) (EP X pins σ Q) X.xe s
theorem Vals.one : ∀ {x : V} {us : List Value}, Vals [x] us → ∃ u, us = [u] ∧ RelV x u
  | _, _, .cons r .nil => ⟨_, rfl, r⟩
theorem Vals.two : ∀ {x y : V} {us : List Value}, Vals [x, y] us → ∃ u v, us = [u, v] ∧ RelV x u ∧ RelV y v
  | _, _, _, .cons r (.cons q .nil) => ⟨_, _, rfl, r, q⟩
theorem Vals.rep {xs : List V} {us : List Value} (h : Vals xs us) : ∀ k : Nat, Vals (List.replicate k xs).flatten (List.replicate k us).flatten
  | 0 => .nil
  | k + 1 => by
    rw [List.replicate_succ, List.replicate_succ, List.flatten_cons, List.flatten_cons]
    exact Vals.append h (Vals.rep h k)
theorem foldl_rep (its : List Value) : ∀ (k : Nat) (acc : List Value),
    List.foldl (fun x1 x2 => x1 ++ x2) acc.toArray (List.replicate k its.toArray) = (acc ++ (List.replicate k its).flatten).toArray
  | 0, acc => by simp
  | k + 1, acc => by
    have e : acc.toArray ++ its.toArray = (acc ++ its).toArray := by simp
    have e2 : (acc ++ its) ++ (List.replicate k its).flatten = acc ++ (List.replicate (k + 1) its).flatten := by
      rw [List.replicate_succ, List.flatten_cons, List.append_assoc]
    rw [← e2, ← foldl_rep its k (acc ++ its), ← e, List.replicate_succ, List.foldl_cons]
section
variable {X : Cx} {pins : List (Addr × Obj)} {σ : St} {H : Hp} {s : Shared} {l b : Addr} {xs ys zs : List V}
theorem Inv.lset {its its' : List Value} {n : Nat} {f : Array Value → Array Value} {t' : Nat} (I : Inv X pins σ H s) (hH : H l = some (.lst xs))
    (e : s.heap.get? l = some { cls := .type "list", data := .seq its.toArray n }) (hf : f its.toArray = its'.toArray) (hv : Vals ys its') (hz : ys.length ≤ sizeLine) :
    Inv X pins σ (upd H l (.lst ys)) { s with heap := s.heap.update l (Obj.mapSeq f), toks := t' } := by
  have q := PySem.IsL.update e f
  rw [hf] at q
  refine I.write (x := l) (e := l) (by rw [hH]; exact trivial) (.inl rfl) (fun b' u hb hu => (Heap.get?_update_other s.heap (Obj.mapSeq f) (Ne.symm hb)).trans hu) ⟨_, q⟩ ?_
  exact ⟨hz, its', _, hv, q⟩
theorem Inv.lnew {its : List Value} {t' : Nat} (I : Inv X pins σ H s) (hv : Vals ys its) (hz : ys.length ≤ sizeLine) :
    Inv X pins σ (upd H s.heap.objs.size (.lst ys)) { s with heap := s.heap.push { cls := .type "list", data := .seq its.toArray }, toks := t' } :=
  I.laid (fun _ _ q => Heap.get?_push_of_some _ q) (Nat.le_refl _) ⟨hz, its, 0, hv, Heap.get?_push_size _ rfl⟩
theorem Inv.fresh (I : Inv X pins σ H s) : H s.heap.objs.size = none := I.hok.fresh (Nat.le_refl _)
theorem Inv.lstM (I : Inv X pins σ H s) (hH : H l = some (.lst xs)) : xs.length ≤ sizeLine ∧ ∃ (its : List Value) (n : Nat), Vals xs its ∧ xs.length = its.length ∧ s.heap.get? l = some { cls := .type "list", data := .seq its.toArray n } := by
  obtain ⟨z, its, n, r, e⟩ := I.hok l _ hH
  exact ⟨z, its, n, r, r.length, e⟩
theorem notLongL {n : Nat} (h : n ≤ sizeLine) : Builtin.List.listTooLong n = false := by
  unfold Builtin.List.listTooLong
  exact decide_eq_false (by omega)
end
section
variable {X : Cx}
def rAppend : V → List V → Hp → VK → Prop := fun x vs H Q => ∃ l xs y, x = .ref l ∧ vs = [y] ∧ H l = some (.lst xs) ∧ xs.length < sizeLine ∧ Q .non (upd H l (.lst (xs ++ [y])))
theorem mt_append : MtM X "list.append" rAppend := by
  intro pins s σ H x vs v us Q I rx rv h
  obtain ⟨l, xs, y, rfl, rfl, hH, hz, q⟩ := h
  cases rx
  obtain ⟨u, rfl, ru⟩ := rv.one
  obtain ⟨z, its, n, r, hl, e⟩ := I.lstM hH
  refine call_meets F.slot_list_append ⟨_, e, rfl⟩ F.entry_list_append (F.args_list_append_2 _ _) (PySem.list_append l its.toArray n u (by rw [List.size_toArray]; omega)) ⟨e, ?_⟩
  refine ⟨.non, _, I.lset (its' := its ++ [u]) hH e (by simp) (r.append (.cons ru .nil)) ?_, rfl, q⟩
  rw [List.length_append, List.length_singleton]
  omega
def rExtend : V → List V → Hp → VK → Prop := fun x vs H Q => ∃ l b xs zs, x = .ref l ∧ vs = [.ref b] ∧ H l = some (.lst xs) ∧ H b = some (.lst zs) ∧ xs.length + zs.length ≤ sizeLine ∧ Q .non (upd H l (.lst (xs ++ zs)))
theorem mt_extend : MtM X "list.extend" rExtend := by
  intro pins s σ H x vs v us Q I rx rv h
  obtain ⟨l, b, xs, zs, rfl, rfl, hH, hB, hz, q⟩ := h
  cases rx
  obtain ⟨u, rfl, ru⟩ := rv.one
  cases ru
  obtain ⟨z, its, n, r, hl, e⟩ := I.lstM hH
  obtain ⟨z2, its2, n2, r2, hl2, e2⟩ := I.lstM hB
  have hsz : its.toArray.size + its2.toArray.size ≤ sizeLine := by rw [List.size_toArray, List.size_toArray]; omega
  have hlong : ¬ (!its.toArray.isEmpty && Builtin.List.listTooLong (its.toArray.size + its2.toArray.size)) = true := by
    rw [notLongL hsz, Bool.and_false]
    exact Bool.false_ne_true
  refine call_meets F.slot_list_extend ⟨_, e, rfl⟩ F.entry_list_extend (F.args_list_extend_2 _ _)
    (AutoSeq1.list_extend_list_list_0 l its.toArray n b its2.toArray n2 hlong (by rw [List.size_toArray]; omega) (by omega)) ⟨e, e2, ?_⟩
  refine ⟨.non, _, I.lset (its' := its ++ its2) hH e (by simp) (r.append r2) ?_, rfl, q⟩
  rw [List.length_append]
  omega
def rCat : R2 := fun x y H Q => ∃ l b xs zs, x = .ref l ∧ y = .ref b ∧ H l = some (.lst xs) ∧ H b = some (.lst zs) ∧ xs.length + zs.length ≤ sizeLine ∧ ∀ p, H p = none → Q (.ref p) (upd H p (.lst (xs ++ zs)))
theorem op_cat : OpR X (binaryOp .Add) rCat := by
  intro pins s σ H x y v u Q I rx ry h
  obtain ⟨l, b, xs, zs, rfl, rfl, hH, hB, hz, q⟩ := h
  cases rx
  cases ry
  obtain ⟨z, its, n, r, hl, e⟩ := I.lstM hH
  obtain ⟨z2, its2, n2, r2, hl2, e2⟩ := I.lstM hB
  refine PySem.P.add_list e e2 ?_ (by rw [List.size_toArray, List.size_toArray]; omega)
  have ea : its.toArray ++ its2.toArray = (its ++ its2).toArray := by simp
  rw [ea]
  exact ⟨.ref _, _, I.lnew (t' := s.toks) (r.append r2) (by rw [List.length_append]; omega), rfl, q _ I.fresh⟩
def rRep : R2 := fun x y H Q => ∃ l k xs, x = .ref l ∧ y = .int k ∧ H l = some (.lst xs) ∧ -(2 ^ 63) ≤ k ∧ k < 2 ^ 63 ∧ xs.length * k.toNat ≤ sizeLine ∧
  ∀ p, H p = none → Q (.ref p) (upd H p (.lst (List.replicate k.toNat xs).flatten))
theorem len_rep {α : Type} (xs : List α) (k : Nat) : (List.replicate k xs).flatten.length = k * xs.length := by
  induction k with
  | zero => simp
  | succ k ih => rw [List.replicate_succ, List.flatten_cons, List.length_append, ih, Nat.succ_mul, Nat.add_comm]
theorem op_rep : OpR X (binaryOp .Mult) rRep := by
  intro pins s σ H x y v u Q I rx ry h
  obtain ⟨l, k, xs, rfl, rfl, hH, h1, h2, hz, q⟩ := h
  cases rx
  obtain ⟨t, rfl⟩ := ry
  obtain ⟨z, its, n, r, hl, e⟩ := I.lstM hH
  have hlen : its.toArray.size * k.toNat ≤ sizeLine := by rw [List.size_toArray, ← hl]; exact hz
  have hcap : ¬ its.toArray.size * k.toNat > (2 ^ 63 - 1) / 8 := by
    have : (sizeLine : Nat) ≤ (2 ^ 63 - 1) / 8 := by decide
    omega
  have hfit : ¬ (!Builtin.List.listFitsIndex k) = true := by
    rw [fitsIndex_both h1 h2]
    exact Bool.false_ne_true
  have hlong : ¬ Builtin.List.listTooLong (its.toArray.size * k.toNat) = true := by
    rw [notLongL hlen]
    exact Bool.false_ne_true
  have hnew : List.foldl (fun x1 x2 => x1 ++ x2) #[] (List.replicate (if its.toArray.isEmpty = true then 0 else k.toNat) its.toArray) = (List.replicate k.toNat its).flatten.toArray := by
    have f0 : ∀ m : Nat, List.foldl (fun x1 x2 => x1 ++ x2) #[] (List.replicate m its.toArray) = (List.replicate m its).flatten.toArray := fun m => by
      have := foldl_rep its m []
      rw [List.nil_append] at this
      exact this
    rw [f0]
    cases its with
    | nil => simp
    | cons a r' => rw [if_neg (by simp)]
  refine wpAny_binaryOp_repeat_ref (T := "list") (U := "int") (by decide) ⟨_, e, rfl⟩ (fun s' => typeIs_int s' k t) noFill_list_mul F.fills_int_mul F.slot_int_rmul repeat_list F.slot_int_index.lookup
    (call_meets F.slot_int_rmul (typeIs_int s k t) F.entry_int_rmul (F.args_int_rmul_2 _ _) (int___rmul___int_list k t l its.toArray n)
      ⟨e, rfl, ⟨_, e, rfl⟩, call_meets F.slot_list_mul ⟨_, e, rfl⟩ F.entry_list_mul (F.args_list_mul_2 _ _) (AutoListH.list___mul___list_int_3 l its.toArray n k t hfit hcap hlong) ⟨e, ?_⟩⟩)
  rw [hnew]
  exact ⟨.ref _, _, I.lnew (t' := s.toks) (r.rep k.toNat) (by rw [len_rep, Nat.mul_comm]; exact hz), rfl, q _ I.fresh⟩
end
section
variable {prog : Program} {w : World} {A : Around} {E : Value → Shared → Prop} {s : Shared}
end
section
variable {X : Cx}
end
end L2
namespace Att
open PySem PySem.W PySem.Calls PyProof.Rows
theorem ints_of_wellAll {P : Params} {h : Heap} : ∀ (ns : List Int) (vs : List Value), WellAll P h vs (ns.map WData.int) → IntsAre vs ns := by
  intro ns
  induction ns with
  | nil =>
    intro vs w
    rw [List.map_nil] at w
    cases w
    exact .nil
  | cons n ns ih =>
    intro vs w
    rw [List.map_cons] at w
    cases w with
    | cons a b =>
      cases a
      exact .cons _ _ (ih _ b)
theorem script_of {l : OpenLaw} {n : Nat} (hn : l.most = some n) {P : Params} {h : Heap} {args : List WData} {vals : List Value}
    (hpre : l.row.toRowW.claim.pre args = true) (hwl : WellAll P h vals args) :
    ∃ a vs ns, vals = [Value.ref a] ∧ args = [WData.list (ns.map WData.int)] ∧ h.get? a = some { cls := .type "list", data := .seq vs.toArray } ∧ IntsAre vs ns ∧ ns.length ≤ n := by
  have hsh : WShape.hasAll [] args [.list .int] = true := (pre_splitW hpre).1
  have hc : l.pre.holds [] { args := args } = true := (pre_splitW hpre).2
  obtain ⟨d, r, rfl, h1, h2⟩ := hasAllW_cons hsh
  obtain rfl := hasAllW_nil h2
  obtain ⟨xs, rfl, h3⟩ := hasW_list h1
  obtain ⟨ns, rfl⟩ := items_int h3
  have hlen : ns.length ≤ n := by
    unfold OpenLaw.pre at hc
    have h4 : (WTm.not (.lt (.lit (.int (n : Int))) (.len (.arg 0)))).holds [] { args := [.list (ns.map .int)] } = true := by
      have h4 := (holds_andW hc).1
      rw [hn] at h4
      exact h4
    have h5 := condW_of h4 (w_not (w_lt w_lit (w_len_list (w_arg rfl))))
    rw [List.length_map] at h5
    refine Nat.le_of_not_lt fun q => ?_
    have q' : (n : Int) < ((ns.length : Nat) : Int) := by omega
    first
      | (rw [decide_eq_true q'] at h5; exact absurd h5 (by decide))
      | (simp at h5; omega)
  cases hwl with
  | cons w1 w2 =>
    cases w2
    cases w1 with
    | list ho hall => exact ⟨_, _, ns, rfl, rfl, ho, ints_of_wellAll ns _ hall, hlen⟩
theorem post_true (l : OpenLaw) (args : List WData) : l.row.toRowW.claim.post args (.bool true) args = true :=
  postW_of (r := l.row.toRowW) (X := (true == true))
    (show WShape.has [] (.bool true) .bool = true by first | rfl | decide | simp [WShape.has, WShape.arms, WShape.armsAll])
    (show (WTm.eq .res (.lit (.bool true))).value [] { args := args, res := some (.bool true), after := args } = some (.bool (true == true)) from w_eq_bool (w_res rfl) w_lit) rfl
theorem attach_call {l : OpenLaw} {n : Nat} {q : Program} {loose : List Str} {XP : (Str → Option Value) → Heap → Prop} {YP : World → Heap → Prop} {d : DefRec}
    (hn : l.most = some n) (hdf : d.params.defaults = [])
    (call : ∀ (w : World) (s₀ s₁ : Shared) (mg mb : Str → Option Value) (fa : Addr) (o : Obj) (pm cd doc : Value) (a : Addr) (vs : List Value) (ns : List Int),
      Ground q loose [] XP w s₀ mg mb s₁.heap → YP w s₁.heap →
      s₁.heap.get? fa = some o → o.data = .func (docDef d.name d.params d.body d.scope pm cd doc) → s₁.heap.CodeRec cd d.name → mg d.name = some (.ref fa) →
      s₁.heap.get? a = some { cls := .type "list", data := .seq vs.toArray } → IntsAre vs ns → ns.length ≤ n → s₁.gens = #[] →
      codeAny (model l.prog w) callerA (.call (.ref fa) ⟨[.ref a], []⟩) (fun r s' => r = .ok (.ret (.bool true)) ∧ OldK s₁.heap s'.heap ∧ s'.os = s₁.os ∧ AllBare s'.gens) s₁) :
    WalkO q loose XP YP l.row.toRowW d [] (fun f vs => PySem.call f vs) := by
  intro w s₀ s₁ mg mb G Y fa o pm cd doc dV kV ho hd hcd hD hmg hg args vals as hpre hlay hrd hwl hlo
  obtain rfl : dV = .none := Dflts.none hD hdf
  obtain rfl : kV = .none := Dflts.noKw hD
  obtain ⟨a, vs, ns, rfl, rfl, hobj, hints, hlen⟩ := script_of hn hpre hwl
  refine enter_call (codeAny_mono (call w s₀ s₁ mg mb fa o pm cd doc a vs ns G Y ho (fd_plain hd) hcd hmg hobj hints hlen hg) fun r s' hq => ?_)
  obtain ⟨rfl, h2, h3, h4⟩ := hq
  exact ⟨.inl ⟨.bool true, .bool true, [], rfl, fun _ => rfl, .bool true, post_true l _, fun _ => ⟨List.Pairwise.nil, fun _ hm => (nomatch hm)⟩⟩, h2, h3, h4⟩
section
variable {prog : Program} {w : World} {A : Around} {E : Value → Shared → Prop} {s : Shared} {K : Frag}
end
end Att
namespace L2
open PySem PySem.Spec PyProof.Rows
theorem vals_ints : ∀ {vs : List Value} {ns : List Int}, IntsAre vs ns → Vals (ns.map V.int) vs
  | _, _, .nil => .nil
  | _, _, .cons n t h => .cons ⟨t, rfl⟩ (vals_ints h)
def Only (H : Hp) : Prop := ∀ b, H b = none ∨ ∃ o xs, H b = some (.frz o (.lst xs))
theorem law_call {P : Program} {w : World} {K : PySem.W.Frag} {mg mb : Str → Option Value} {CX : CXT} {k : Nat} {fa a : Addr} {fd : FuncData} {x : Str} {sp : Sp} {s₁ : Shared} {vs : List Value} {ns : List Int}
    (KX : K.In s₁.heap) (hns : s₁.heap.Ns mainGlobals mg) (hb : s₁.heap.Ns builtinsNs mb) (hbb : ∀ x : Str, x ≠ "__name__" → mb x = bootBuiltins x) (hlim : s₁.heap.NoLimit) (hg : s₁.gens = #[])
    (ha : s₁.heap.get? a = some { cls := .type "list", data := .seq vs.toArray }) (hi : IntsAre vs ns) (hl : ns.length ≤ sizeLine) (hr : Room k callerA)
    (F : ∀ base : Heap, K.In base → base.Ns mainGlobals mg → FnOk P w K mg base CX k fa fd [x] sp) (hbind : ∀ (s : Shared) (u : Value), BindsTo s fd ⟨[u], []⟩ [(x, u)])
    (hsp : ∀ H : Hp, Only H → SqL K H a (ns.map V.int) → sp [.ref a] H (fun v _ => v = .bl true) fun _ _ _ => False)
    (hCX : ∀ H e s', CX [] H s₁ (fun _ _ _ => False) e s' → False) :
    codeAny (model P w) callerA (.call (.ref fa) ⟨[.ref a], []⟩) (fun r s' => r = .ok (.ret (.bool true)) ∧ OldK s₁.heap s'.heap ∧ s'.os = s₁.os ∧ AllBare s'.gens) s₁ := by
  have rv := vals_ints hi
  have lenV := hi.length
  have core : ∀ H : Hp, Only H → SqL K H a (ns.map V.int) → HOk P w H s₁.heap → (∀ b, H b ≠ none → b = a) → (H a ≠ none → K.lookup a = none) →
      codeAny (model P w) callerA (.call (.ref fa) ⟨[.ref a], []⟩) (fun r s' => r = .ok (.ret (.bool true)) ∧ OldK s₁.heap s'.heap ∧ s'.os = s₁.os ∧ AllBare s'.gens) s₁ := by
    intro H hO hS hok hA hK
    have base_of : ∀ {b : Addr} {o : Obj}, s₁.heap.get? b = some o → H b = none → (hidT s₁.heap H).get? b = some o := fun e n => hidT_get e n
    have noA : ∀ {b : Addr} {o : Obj} {es : Array DictEntry} {ep : Nat}, s₁.heap.get? b = some o → o.data = .dict es ep → H b = none := fun {b o es ep} e d => by
      cases q : H b with
      | none => rfl
      | some u =>
        have e' : b = a := hA b (by rw [q]; simp)
        subst e'
        rw [ha] at e; cases e
        have d' : Data.seq vs.toArray _ = Data.dict es ep := d
        cases d'
    have nsK : ∀ {b : Addr} {m : Str → Option Value}, s₁.heap.Ns b m → (hidT s₁.heap H).Ns b m := fun {b m} ⟨o, es, ep, e, d, r⟩ => ⟨o, es, ep, base_of e (noA e d), d, r⟩
    have hKb : K.In (hidT s₁.heap H) := fun b o e => base_of (KX b o e) (by
      cases q : H b with
      | none => rfl
      | some u =>
        have e' : b = a := hA b (by rw [q]; simp)
        subst e'
        rw [hK (by rw [q]; simp)] at e; cases e)
    have hM : Mod K mg (hidT s₁.heap H) := ⟨hKb, nsK hns, ⟨mb, nsK hb, hbb⟩, let ⟨mc, h1, h2⟩ := hlim; ⟨mc, nsK h1, h2⟩⟩
    have e0 : Env0 P w K mg (hidT s₁.heap H) callerA [] s₁ H := ⟨rfl, hM, fun b o e => of_hidT e, Nat.le_of_eq (hidT_size _ _), trivial, fun b hb => absurd (show b ∈ ([] : List Addr) from hb) (by simp), hok, .of_eq hg⟩
    refine codeAny_mono ((F _ hKb (nsK hns)).run callerA [] s₁ H ⟨[.ref a], []⟩ [.ref a] [.ref a] _ _ hr e0 (hbind s₁ (.ref a)) (.cons rfl .nil) (hsp H hO hS)) fun r s' h => ?_
    cases r with
    | error e => exact (hCX H e s' h).elim
    | ok fl =>
      cases fl with
      | next => exact False.elim h
      | brk => exact False.elim h
      | cont => exact False.elim h
      | ret u =>
        obtain ⟨v, H', os, bare, un, hok', r', q⟩ := h
        have q' : v = .bl true := q
        subst q'
        obtain rfl : u = Value.bool true := r'
        refine ⟨rfl, OldK.of_keep fun b o e => ?_, os, bare⟩
        cases q : H b with
        | none => exact un.keep b o e q (by intro z; exact absurd (show b ∈ ([] : List Addr) from z) (by simp)) (by simp)
        | some u =>
          rcases hO b with z | ⟨ob, xs, z⟩
          · rw [q] at z; cases z
          · have z2 := un.frzs b ob _ z
            obtain ⟨e1, _⟩ := hok b _ z
            obtain ⟨e2, _⟩ := hok' b _ z2
            rw [e] at e1; cases e1
            exact e2
  cases hk : K.lookup a with
  | some o =>
    have e := KX a o hk
    rw [ha] at e
    cases e
    refine core (fun _ => none) (fun _ => .inl rfl) (.inr ⟨_, vs.toArray, _, hk, rfl, rfl, rfl, by rw [List.size_toArray, lenV]; exact hl, by simpa using rv⟩) (fun b u z => by have z' : (none : Option HO) = some u := z; cases z') (fun b z => absurd rfl z) fun z => absurd rfl z
  | none =>
    refine core (fun b => if b = a then some (.frz { cls := .type "list", data := .seq vs.toArray } (.lst (ns.map V.int))) else none) (fun b => ?_) (.inl (.inr ⟨{ cls := .type "list", data := .seq vs.toArray }, if_pos rfl⟩)) (fun b u z => ?_) (fun b z => ?_) fun _ => hk
    · by_cases hb : b = a
      · exact .inr ⟨_, _, if_pos hb⟩
      · exact .inl (if_neg hb)
    · by_cases hb : b = a
      · have z' := (if_pos hb).symm.trans z
        cases z'
        subst hb
        exact ⟨ha, by rw [List.length_map]; exact hl, vs, _, rv, ha⟩
      · have z' := (if_neg hb).symm.trans z
        cases z'
    · by_cases hb : b = a
      · exact hb
      · exact absurd (if_neg hb) z
end L2
namespace L2
open PySem PySem.Spec PyProof.Rows
theorem walk_of {l : PySem.W.OpenLaw} {n k : Nat} {q : Program} {loose : List Str} {XP : (Str → Option Value) → Heap → Prop} {YP : World → Heap → Prop} {d : DefRec} {K : Params → PySem.W.Frag} {CX : World → CXT} {sp : World → Sp} {x : Str}
    (hn : l.most = some n) (hn2 : n ≤ sizeLine) (hdf : d.params.defaults = []) (hr : Room k callerA)
    (hY : ∀ (w : World) (h : Heap), YP w h → (K w.params).In h)
    (F : ∀ (w : World) (mg : Str → Option Value) (fa : Addr) (h : Heap), (K w.params).In h → h.Ns mainGlobals mg → mg d.name = some (.ref fa) →
      ∃ fd : FuncData, (∀ (s : Shared) (u : Value), BindsTo s fd ⟨[u], []⟩ [(x, u)]) ∧
        ∀ base : Heap, (K w.params).In base → base.Ns mainGlobals mg → FnOk l.prog w (K w.params) mg base (CX w) k fa fd [x] (sp w))
    (hsp : ∀ (w : World) (H : Hp) (a : Addr) (ns : List Int), ns.length ≤ n → Only H → SqL (K w.params) H a (ns.map V.int) → sp w [.ref a] H (fun v _ => v = .bl true) fun _ _ _ => False)
    (hCX : ∀ (w : World) (H : Hp) (s : Shared) (e : Value) (s' : Shared), CX w [] H s (fun _ _ _ => False) e s' → False) :
    PySem.W.WalkO q loose XP YP l.row.toRowW d [] (fun f vs => PySem.call f vs) := by
  refine Att.attach_call hn hdf fun w s₀ s₁ mg mb fa o pm cd doc a vs ns G Y ho hd hcd hmg hobj hints hlen hg => ?_
  have KX := hY w _ Y
  obtain ⟨fd, hb, hF⟩ := F w mg fa _ KX G.T.g hmg
  exact law_call KX G.T.g G.T.b G.T.builtins G.T.nolimit hg hobj hints (Nat.le_trans hlen hn2) hr hF hb (fun H hO hS => hsp w H a ns hlen hO hS) fun H e s' => hCX w H s₁ e s'
end L2
namespace L2
open PySem PySem.Spec PyProof.Rows
def defArgs (s : Stmt) : Arguments := match s with
  | .FunctionDef _ a _ _ _ _ _ _ _ _ => a
  | _ => { posonlyargs := [], args := [], vararg := none, kwonlyargs := [], kw_defaults := [], kwarg := none, defaults := [] }
def defBody (s : Stmt) : List Stmt := match s with
  | .FunctionDef _ _ b _ _ _ _ _ _ _ => b
  | _ => []
def defScope (s : Stmt) : Scope := match s with
  | .FunctionDef _ _ _ _ _ _ sc _ _ _ => sc
  | _ => { kind := .function, names := [], isGenerator := false, isCoroutine := false }
abbrev CX0 : CXT := fun _ _ _ _ _ _ => False
abbrev E0 : XK := fun _ _ _ => False
theorem pass0 {X : Cx} : Passes CX0 X E0 := fun _ _ _ _ _ _ _ h => h.elim
structure Fun (K : PySem.W.Frag) (x qual : Str) (st : Stmt) (f : Addr) (fd : FuncData) : Prop where
  ex : ∃ (oc : Value) (od : Option Addr) (kV doc pm : Value) (an : Option Addr) (cdv ct : Value) (osl : Array (Option Value)),
    fd = PySem.W.fnOf x qual (defArgs st) (defBody st) (defScope st) .none kV doc pm an cdv ct ∧ K.lookup f = some ⟨oc, od, .func fd, osl⟩ ∧ PySem.W.codeIn K cdv qual = true
  kp : PySem.W.keepIn K (.ref f) = true
section
variable {P : Program} {w : World} {K : PySem.W.Frag} {mg : Str → Option Value} {base : Heap}
theorem Fun.ok {x qual : Str} {st : Stmt} {f : Addr} {fd : FuncData} {N ps : List Str} {k : Nat} {sp : Sp} (F : Fun K x qual st f fd) (S : FnScope N ps (defScope st)) (len : ∀ vs H Q E, sp vs H Q E → vs.length = ps.length)
    (hbody : ∀ (cdv : Value) (A : Around) (outer : List Env) (s : Shared) (H : Hp) (vs : List V) (Q : VK) (E : XK), Room k (A.deeper (envOfC qual (defScope st) s.heap.objs.size f cdv)) → sp vs H Q E →
      ∃ t, PSs (cxOf CX0 P w K mg base N qual (defScope st) f cdv A outer s H E).nox (defBody st) t ∧ t { nx := fun _ H' => Q .non H', rt := Q } (start N vs) H) : FnOk P w K mg base CX0 (k + 1) f fd ps sp := by
  obtain ⟨oc, od, kV, doc, pm, an, cdv, ct, osl, rfl, lk, hcd⟩ := F.ex
  refine fn_of lk hcd S len fun A outer s H vs Q E hr hsp => ?_
  obtain ⟨t, h, q⟩ := hbody cdv A outer s H vs Q E hr hsp
  exact ⟨t, h.nox, q⟩
theorem Fun.binds {x qual : Str} {st : Stmt} {f : Addr} {fd : FuncData} {ps : List Str} (F : Fun K x qual st f fd)
    (h : ∀ (kV doc pm : Value) (an : Option Addr) (cdv ct : Value) (us : List Value), us.length = ps.length → bindArgs (PySem.W.fnOf x qual (defArgs st) (defBody st) (defScope st) .none kV doc pm an cdv ct) ⟨us, []⟩ = pure (ps.zip us)) : Binds K fd ps [] := by
  obtain ⟨oc, od, kV, doc, pm, an, cdv, ct, osl, rfl, lk, hcd⟩ := F.ex
  exact .all (h kV doc pm an cdv ct)
theorem fun_mk {x qual : Str} {st : Stmt} {f : Addr} {oc : Value} {od an : Option Addr} {osl : Array (Option Value)} {kV doc pm cdv ct : Value} (l : K.lookup f = some ⟨oc, od, .func (PySem.W.fnOf x qual (defArgs st) (defBody st) (defScope st) .none kV doc pm an cdv ct), osl⟩)
    (c : PySem.W.codeIn K cdv qual = true) (k : PySem.W.keepIn K (.ref f) = true) : Fun K x qual st f (PySem.W.fnOf x qual (defArgs st) (defBody st) (defScope st) .none kV doc pm an cdv ct) := ⟨⟨oc, od, kV, doc, pm, an, cdv, ct, osl, rfl, l, c⟩, k⟩
end
theorem hu_of {A : Around} {k : Nat} (hr : Room k A) : A.units + 1 < cLine := Nat.lt_of_le_of_lt (Nat.add_le_add_left (by decide : 1 ≤ 64) _) hr.units
theorem small1000 {n : Nat} (h : n ≤ 1000) : n < sizeLine := Nat.lt_of_le_of_lt h (by decide)
section
variable {X : Cx}
theorem pv (i : Nat) {x : Str} {pos : Pos} (hN : X.N[i]? = some x := by rfl) (hv : Vis X.env.scope x := by first | exact Or.inl rfl | exact Or.inr (Or.inl rfl) | exact Or.inr (Or.inr rfl)) (hd : (x == ("__debug__" : Str)) = false := by decide)
    (hcd : (x == ("__classdict__" : Str)) = false := by decide) : PE X (.Name x pos) (tVar i) := pe_var hN hv hd hcd
end
theorem iteF {A B : Prop} (h : B) : if false = true then A else B := by
  rw [if_neg Bool.false_ne_true]
  exact h
theorem iteT {A B : Prop} (h : A) : if true = true then A else B := by
  rw [if_pos rfl]
  exact h
theorem iteNS {c A B : Prop} [Decidable c] (hc : c) (h : B) : if (!decide c) = true then A else B := by
  rw [decide_eq_true hc]
  exact iteF h
def Same (H H' : Hp) : Prop := ∀ b o, H b = some o → H' b = some o
theorem Same.refl (H : Hp) : Same H H := fun _ _ h => h
theorem Same.trans {H H1 H2 : Hp} (a : Same H H1) (b : Same H1 H2) : Same H H2 := fun c o h => b c o (a c o h)
theorem Same.free {H H' : Hp} (e : Same H H') {l : Addr} (h : H' l = Option.none) : H l = Option.none := by
  cases q : H l with
  | none => rfl
  | some o =>
    rw [e l o q] at h
    cases h
theorem Same.seq {K : PySem.W.Frag} {H H' : Hp} {a : Addr} {xs : List V} (e : Same H H') (h : SqL K H a xs) : SqL K H' a xs := by
  rcases h with (h | ⟨o, h⟩) | h
  · exact .inl (.inl (e _ _ h))
  · exact .inl (.inr ⟨o, e _ _ h⟩)
  · exact .inr h
end L2
set_option maxHeartbeats 4000000
set_option exponentiation.threshold 2000
namespace L2
open PySem PySem.Spec PyProof.Rows
section
variable {X : Cx}
theorem call_isinst : CallR X (.builtin "isinstance") (fun xs H Q => ∃ x t n b, xs = [x, .ty n] ∧ TyOf X.K H x t ∧ PySem.W.kitOne X.K t (.type n) = some b ∧ Q (.bl b) H) := by
  intro pins s σ H xs us Q I r h
  obtain ⟨x, t, n, b, rfl, ty, e, q⟩ := h
  obtain ⟨u, w', rfl, ru, rw'⟩ := vals2 r
  cases (show w' = Value.type n from rw')
  exact isinst_ok I ru ty e fun tk => ⟨.bl b, H, I.tok _, rfl, q⟩
mutual
inductive DA (K : PySem.W.Frag) (ok : Addr → Prop) (H : Hp) : V → PyData → Prop
  | non : DA K ok H .non .none
  | bl (b : Bool) : DA K ok H (.bl b) (.bool b)
  | int (i : Int) : DA K ok H (.int i) (.int i)
  | str (x : Str) : DA K ok H (.str x) (.str x)
  | lst {a : Addr} {vs : List V} {ds : List PyData} : ok a → SqL K H a vs → DAs K ok H vs ds → DA K ok H (.ref a) (.list ds)
  | tup {a : Addr} {vs : List V} {ds : List PyData} : ok a → SqT K H a vs → DAs K ok H vs ds → DA K ok H (.ref a) (.tuple ds)
inductive DAs (K : PySem.W.Frag) (ok : Addr → Prop) (H : Hp) : List V → List PyData → Prop
  | nil : DAs K ok H [] []
  | cons {v : V} {d : PyData} {vs : List V} {ds : List PyData} : DA K ok H v d → DAs K ok H vs ds → DAs K ok H (v :: vs) (d :: ds)
end
abbrev any (_ : Addr) : Prop := True
def Keep (ok : Addr → Prop) (H H' : Hp) : Prop := ∀ b o, ok b → H b = some o → H' b = some o
theorem Keep.refl (ok : Addr → Prop) (H : Hp) : Keep ok H H := fun _ _ _ h => h
theorem Same.keep {ok : Addr → Prop} {H H' : Hp} (e : Same H H') : Keep ok H H' := fun b o _ h => e b o h
theorem Keep.seq {K : PySem.W.Frag} {ok : Addr → Prop} {H H' : Hp} {a : Addr} {xs : List V} (e : Keep ok H H') (n : ok a) (h : SqL K H a xs) : SqL K H' a xs := by
  rcases h with (h | ⟨o, h⟩) | h
  · exact .inl (.inl (e _ _ n h))
  · exact .inl (.inr ⟨o, e _ _ n h⟩)
  · exact .inr h
theorem Keep.seqT {K : PySem.W.Frag} {ok : Addr → Prop} {H H' : Hp} {a : Addr} {xs : List V} (e : Keep ok H H') (n : ok a) (h : SqT K H a xs) : SqT K H' a xs := by
  rcases h with (h | ⟨o, h⟩) | h
  · exact .inl (.inl (e _ _ n h))
  · exact .inl (.inr ⟨o, e _ _ n h⟩)
  · exact .inr h
theorem Same.seqT {K : PySem.W.Frag} {H H' : Hp} {a : Addr} {xs : List V} (e : Same H H') (h : SqT K H a xs) : SqT K H' a xs := (e.keep (ok := any)).seqT trivial h
theorem Same.upd {H : Hp} {p : Addr} {o : HO} (h : H p = none) : Same H (upd H p o) := fun b u e => by rw [upd_ne (ne_of_none e h)]; exact e
mutual
theorem DA.mono {K : PySem.W.Frag} {ok ok' : Addr → Prop} {H H' : Hp} (e : Keep ok H H') (m : ∀ a, ok a → ok' a) : ∀ {v : V} {d : PyData}, DA K ok H v d → DA K ok' H' v d
  | _, _, .non => .non
  | _, _, .bl b => .bl b
  | _, _, .int i => .int i
  | _, _, .str x => .str x
  | _, _, .lst n s r => .lst (m _ n) (e.seq n s) (DAs.mono e m r)
  | _, _, .tup n s r => .tup (m _ n) (e.seqT n s) (DAs.mono e m r)
theorem DAs.mono {K : PySem.W.Frag} {ok ok' : Addr → Prop} {H H' : Hp} (e : Keep ok H H') (m : ∀ a, ok a → ok' a) : ∀ {v : List V} {d : List PyData}, DAs K ok H v d → DAs K ok' H' v d
  | _, _, .nil => .nil
  | _, _, .cons a r => .cons (DA.mono e m a) (DAs.mono e m r)
end
mutual
theorem DA.reads {ok : Addr → Prop} {pins : List (Addr × Obj)} {σ : St} {H : Hp} {s : Shared} (I : Inv X pins σ H s) : ∀ {v : V} {d : PyData} {u : Value}, DA X.K ok H v d → RelV v u → ∃ as, Reads s.heap u d as
  | _, _, _, .non, r => by cases r; exact ⟨_, .none⟩
  | _, _, _, .bl b, r => by cases r; exact ⟨_, .bool b⟩
  | _, _, _, .int i, r => by obtain ⟨t, rfl⟩ := r; exact ⟨_, .int i t⟩
  | _, _, _, .str x, r => by obtain ⟨t, rfl⟩ := r; exact ⟨_, .str x t⟩
  | _, _, _, .lst _ h q, r => by
    cases r
    obtain ⟨its, rv, ⟨o, n, e, c, _, d⟩, _⟩ := I.list h
    obtain ⟨as, p⟩ := DAs.reads I q rv
    exact ⟨_, .list e c d (by simpa using p)⟩
  | _, _, _, .tup _ h q, r => by
    cases r
    obtain ⟨its, rv, ⟨o, e, c, n, d⟩, _⟩ := I.tuple h
    obtain ⟨as, p⟩ := DAs.reads I q rv
    exact ⟨_, .tuple e c d (by simpa using p)⟩
theorem DAs.reads {ok : Addr → Prop} {pins : List (Addr × Obj)} {σ : St} {H : Hp} {s : Shared} (I : Inv X pins σ H s) : ∀ {v : List V} {d : List PyData} {u : List Value}, DAs X.K ok H v d → Vals v u → ∃ as, ReadsAll s.heap u d as
  | _, _, _, .nil, r => by cases r; exact ⟨_, .nil⟩
  | _, _, _, .cons a q, r => by
    cases r with
    | cons r1 r2 =>
      obtain ⟨as, p⟩ := DA.reads I a r1
      obtain ⟨bs, p'⟩ := DAs.reads I q r2
      exact ⟨_, .cons p p'⟩
end
def rEqD (K : PySem.W.Frag) : R2 := fun x y H Q => ∃ d e, DA K any H x d ∧ DA K any H y e ∧ (d.canLay0 = true ∧ e.canLay0 = true ∧ d.depth ≤ 64) ∧ Q (.bl (PyData.eqv d e)) H
def rNeD (K : PySem.W.Frag) : R2 := fun x y H Q => ∃ d e, DA K any H x d ∧ DA K any H y e ∧ (d.canLay0 = true ∧ e.canLay0 = true ∧ d.depth ≤ 64) ∧ Q (.bl (!PyData.eqv d e)) H
theorem op_eqD (hu : X.A.units + 64 < cLine) : OpR X (compareOp .Eq) (rEqD X.K) := by
  intro pins s σ H x y v u Q I rx ry h
  obtain ⟨d, e, hd, he, ⟨l1, l2, l3⟩, q⟩ := h
  obtain ⟨as, p1⟩ := hd.reads I rx
  obtain ⟨bs, p2⟩ := he.reads I ry
  exact PySem.SeqAt.compareEq_reads p1 p2 l1 l2 (by omega) ⟨.bl _, H, I, rfl, q⟩
theorem op_neD (hu : X.A.units + 64 < cLine) : OpR X (compareOp .NotEq) (rNeD X.K) := by
  intro pins s σ H x y v u Q I rx ry h
  obtain ⟨d, e, hd, he, ⟨l1, l2, l3⟩, q⟩ := h
  obtain ⟨as, p1⟩ := hd.reads I rx
  obtain ⟨bs, p2⟩ := he.reads I ry
  exact PySem.SeqAt.compareNe_reads p1 p2 l1 l2 (by omega) ⟨.bl _, H, I, rfl, q⟩
end
theorem iteNP {c A B : Prop} [Decidable c] (hc : ¬ c) (h : A) : if (!decide c) = true then A else B := by
  rw [decide_eq_false hc]
  exact iteT h
theorem itDP {c A B : Prop} [Decidable c] (hc : c) (h : A) : if decide c = true then A else B := by
  rw [decide_eq_true hc]
  exact iteT h
theorem itDN {c A B : Prop} [Decidable c] (hc : ¬ c) (h : B) : if decide c = true then A else B := by
  rw [decide_eq_false hc]
  exact iteF h
structure Dn (K : PySem.W.Frag) (mg : Str → Option Value) (x : Str) (st : Stmt) (ps : List Str) (f : Addr) (fd : FuncData) : Prop where
  fn : Fun K x x st f fd
  gl : mg x = some (.ref f)
  bd : Binds K fd ps []
section
variable {X : Cx} {k : Nat} {f : Addr} {fd : FuncData} {x : Str} {st : Stmt} {ps : List Str} {sp : Sp} {e : Expr} {es : List Expr} {p pos : Pos} {t : TA}
theorem pe_fn (D : Dn X.K X.mg x st ps f fd) (G : FnOk X.prog X.w X.K X.mg X.base CX0 k f fd ps sp) (hr : Room k X.A) (hg : Gl X x) (ha : PA X (e :: es) t) (hdb : (x == ("__debug__" : Str)) = false := by decide)
    (hs : starEach (e :: es) X.env = (false, eval e X.env) :: starEach es X.env := by rfl) (hpl : (backTo pos (starEach es X.env)).any (·.1) = false := by rfl) : PE X (.Call (.Name x p) (e :: es) [] pos) (tCall sp [] E0 t) :=
  pe_call G hr hg D.gl D.fn.kp D.bd .nil pass0 ha hdb hs hpl
end
end L2
namespace L2
open PySem PySem.Spec PyProof.Rows
def blkN (N : List Str) (x : Str) : List Str := N.map (fun y => if y = x then Str.empty else y) ++ [x]
def clOf (cells : List (Str × Addr)) : List (Str × NameKind) → List (Str × Addr) → List (Str × Addr)
  | [], acc => acc
  | (n, k) :: r, acc => clOf cells r (if (k == .free) = true then (match cells.lookup n with | some c => (n, c) :: acc | none => acc) else acc)
structure LcScope (S : Scope) (N : List Str) (sc : Scope) (x : Str) : Prop where
  uniq : (sc.names.map (·.1)).Nodup
  kind : sc.kind = .function
  names : ∀ y ∈ sc.names, y.2 = .local → sc.names.lookup y.1 = some .local
  loc : sc.names.lookup x = some .local ∨ sc.names.lookup x = some .cell
  free : ∀ y ∈ sc.names, y.2 = .free → S.names.lookup y.1 = some .cell ∨ S.names.lookup y.1 = some .free
  only : ∀ y ∈ sc.names, y.2 = .local → y.1 = x ∨ y.1 = ".0"
  onlyC : ∀ y ∈ sc.names, y.2 = .cell → y.1 = x
  ne : ∀ y ∈ sc.names, y.1 ≠ Str.empty
  dot : ∀ y ∈ N, y ≠ ".0"
  nd : (blkN N x).Nodup
theorem lookup_relab {c : Str → NameKind → Bool} {y : Str} : ∀ (names : List (Str × NameKind)), (names.map fun (n, k) => if c n k = true then (n, NameKind.cell) else (n, k)).lookup y = (names.lookup y).map fun k => if c y k = true then NameKind.cell else k
  | [] => rfl
  | (n, k) :: r => by
    have ih := lookup_relab (c := c) (y := y) r
    show List.lookup y ((if c n k = true then (n, NameKind.cell) else (n, k)) :: _) = _
    cases hx : y == n with
    | true =>
      have e : y = n := by simpa using hx
      subst e
      by_cases hc : c y k = true
      · rw [if_pos hc]; simp [List.lookup_cons, hc]
      · rw [if_neg hc]; simp [List.lookup_cons, hc]
    | false =>
      by_cases hc : c n k = true
      · rw [if_pos hc]; simp only [List.lookup_cons, hx]; exact ih
      · rw [if_neg hc]; simp only [List.lookup_cons, hx]; exact ih
theorem relab_lookup {sc : Scope} {env : Env} {y : Str} {k : NameKind} (h : (relabel sc env).names.lookup y = some k) : ∃ k0, (y, k0) ∈ sc.names ∧ (k = k0 ∨ (k = .cell ∧ k0 = .free)) := by
  have e := lookup_relab (c := fun n k => k == NameKind.free && env.scope.kind == .function && env.kindOf n == some .cell) (y := y) sc.names
  have h' : (sc.names.map fun (n, k) => if (k == NameKind.free && env.scope.kind == .function && env.kindOf n == some .cell) = true then (n, NameKind.cell) else (n, k)).lookup y = some k := h
  rw [e] at h'
  cases q : sc.names.lookup y with
  | none => rw [q] at h'; cases h'
  | some k0 =>
    rw [q] at h'
    refine ⟨k0, PySem.mem_of_lookup q, ?_⟩
    have h'' : (if (k0 == NameKind.free && env.scope.kind == .function && env.kindOf y == some .cell) = true then NameKind.cell else k0) = k := Option.some.inj h'
    by_cases hc : (k0 == NameKind.free && env.scope.kind == .function && env.kindOf y == some .cell) = true
    · rw [if_pos hc] at h''
      refine .inr ⟨h''.symm, ?_⟩
      have := (Bool.and_eq_true_iff.mp (Bool.and_eq_true_iff.mp hc).1).1
      simpa using this
    · rw [if_neg hc] at h''
      exact .inl h''.symm
theorem clOf_sub {cells : List (Str × Addr)} : ∀ (names : List (Str × NameKind)) (acc : List (Str × Addr)), (∀ y c, acc.lookup y = some c → cells.lookup y = some c) → ∀ y c, (clOf cells names acc).lookup y = some c → cells.lookup y = some c
  | [], _, h => h
  | (n, k) :: r, acc, h => by
    refine clOf_sub r _ fun y c => ?_
    by_cases hk : (k == NameKind.free) = true
    · rw [if_pos hk]
      cases q : cells.lookup n with
      | none => exact h y c
      | some d =>
        intro e
        show cells.lookup y = some c
        have e' : List.lookup y ((n, d) :: acc) = some c := e
        rw [List.lookup_cons] at e'
        cases hx : y == n with
        | true =>
          rw [hx] at e'
          have : y = n := by simpa using hx
          subst this
          rw [q]; exact e'
        | false =>
          rw [hx] at e'
          exact h y c e'
    · rw [if_neg hk]
      exact h y c
theorem clOf_acc {cells : List (Str × Addr)} {y : Str} : ∀ (names : List (Str × NameKind)) (acc : List (Str × Addr)), (acc.lookup y).isSome = true → ((clOf cells names acc).lookup y).isSome = true
  | [], _, h => h
  | (n, k) :: r, acc, h => by
    refine clOf_acc r _ ?_
    by_cases hk : (k == NameKind.free) = true
    · rw [if_pos hk]
      cases q : cells.lookup n with
      | none => exact h
      | some d =>
        show (List.lookup y ((n, d) :: acc)).isSome = true
        rw [List.lookup_cons]
        cases hx : y == n with
        | true => rfl
        | false => exact h
    · rw [if_neg hk]; exact h
theorem clOf_has {cells : List (Str × Addr)} {y : Str} (hc : (cells.lookup y).isSome = true) : ∀ (names : List (Str × NameKind)) (acc : List (Str × Addr)), (y, NameKind.free) ∈ names → ((clOf cells names acc).lookup y).isSome = true
  | (n, k) :: r, acc, h => by
    rcases List.mem_cons.mp h with e | h
    · cases e
      refine clOf_acc r _ ?_
      rw [if_pos (by rfl)]
      obtain ⟨c, q⟩ := Option.isSome_iff_exists.mp hc
      rw [q]
      show (List.lookup y ((y, c) :: acc)).isSome = true
      rw [List.lookup_cons, beq_self_eq_true]
      rfl
    · exact clOf_has hc r _ h
theorem cellOf_some {env : Env} {y : Str} {c : Addr} (h : env.cells.lookup y = some c) : cellOf env y = pure c := by
  unfold cellOf
  rw [h]
theorem closure_of {sc : Scope} {env : Env} (h : ∀ y ∈ sc.names, y.2 = .free → (env.cells.lookup y.1).isSome = true) : closureFor sc env = pure (clOf env.cells sc.names []) := by
  have all : ∀ (names : List (Str × NameKind)) (acc : List (Str × Addr)), (∀ y ∈ names, y.2 = .free → (env.cells.lookup y.1).isSome = true) →
      (forIn names acc fun (x : Str × NameKind) (cs : List (Str × Addr)) => (do
        let (name, kind) := x
        if (kind == .free) = true then let c ← cellOf env name; pure (ForInStep.yield ((name, c) :: cs)) else pure (ForInStep.yield cs) : Sem (ForInStep (List (Str × Addr))))) = pure (clOf env.cells names acc) := by
    intro names
    induction names with
    | nil => intro acc _; rfl
    | cons a r ih =>
      intro acc hh
      obtain ⟨n, k⟩ := a
      rw [List.forIn_cons]
      by_cases hk : (k == NameKind.free) = true
      · obtain ⟨c, q⟩ := Option.isSome_iff_exists.mp (hh (n, k) List.mem_cons_self (by simpa using hk))
        simp only [hk, if_true, cellOf_some q, pure_bind]
        rw [ih _ fun y hy => hh y (List.mem_cons_of_mem _ hy)]
        show pure (clOf env.cells r ((n, c) :: acc)) = pure (clOf env.cells r (if (k == NameKind.free) = true then _ else acc))
        rw [if_pos hk, q]
      · simp only [hk, Bool.false_eq_true, if_false, pure_bind]
        rw [ih _ fun y hy => hh y (List.mem_cons_of_mem _ hy)]
        show pure (clOf env.cells r acc) = pure (clOf env.cells r (if (k == NameKind.free) = true then _ else acc))
        rw [if_neg hk]
  unfold closureFor
  first
    | exact (congrArg (fun z => z >>= pure) (all sc.names [] h)).trans (by simp)
    | (have e := all sc.names [] h
       simp only [bind_pure] at e ⊢
       exact e)
def ownC (sc : Scope) (x : Str) (n : Nat) : List (Str × Addr) := if sc.names.lookup x = some .cell then [(x, n)] else []
def Cx.blk (X : Cx) (N' : List Str) (sc : Scope) (x : Str) (s₀ : Shared) (H₀ : Hp) (fp : List Addr) : Cx :=
  { X with N := N', s₀ := s₀, H₀ := H₀, env := compEnvC sc (ownC sc x (s₀.heap.objs.size + 1) ++ clOf X.env.cells sc.names []) s₀.heap.objs.size X.env, outer := X.stack, stack := X.stack, ex := fp, fn := fun y => decide (y = x ∧ sc.names.lookup x = some .cell), pn := [], xe := fun _ _ => False }
theorem lookup_mem {α : Type} : ∀ {l : List (Str × α)} {y : Str} {k : α}, (l.map (·.1)).Nodup → (y, k) ∈ l → l.lookup y = some k
  | (n, v) :: r, y, k, nd, h => by
    rw [List.lookup_cons]
    have nd' : (n :: r.map (·.1)).Nodup := nd
    obtain ⟨h1, h2⟩ := List.nodup_cons.mp nd'
    rcases List.mem_cons.mp h with e | h
    · cases e
      rw [beq_self_eq_true]
    · have ne : (y == n) = false := by
        rw [beq_eq_false_iff_ne]
        exact fun e => h1 (List.mem_map.mpr ⟨(y, k), h, e⟩)
      rw [ne]
      exact lookup_mem h2 h
theorem cellsFrom_none {acc : List (Str × Addr)} : ∀ {names : List (Str × NameKind)} {n : Nat}, (∀ y ∈ names, y.2 ≠ .cell) → cellsFrom n names acc = acc
  | [], _, _ => rfl
  | (y, k) :: r, n, h => by
    unfold cellsFrom
    rw [if_neg (by simpa using h (y, k) List.mem_cons_self)]
    exact cellsFrom_none fun z hz => h z (List.mem_cons_of_mem _ hz)
theorem pushCells_none : ∀ {names : List (Str × NameKind)} {h : Heap}, (∀ y ∈ names, y.2 ≠ .cell) → pushCells h names = h
  | [], _, _ => rfl
  | (y, k) :: r, h, hn => by
    unfold pushCells
    rw [if_neg (by simpa using hn (y, k) List.mem_cons_self)]
    exact pushCells_none fun z hz => hn z (List.mem_cons_of_mem _ hz)
theorem cellsFrom_one {x : Str} {acc : List (Str × Addr)} : ∀ {names : List (Str × NameKind)} {n : Nat}, (names.map (·.1)).Nodup → (∀ y ∈ names, y.2 = .cell → y.1 = x) → (x, NameKind.cell) ∈ names → cellsFrom n names acc = (x, n) :: acc
  | (y, k) :: r, n, nd, ho, hm => by
    have nd' : (y :: r.map (·.1)).Nodup := nd
    obtain ⟨h1, h2⟩ := List.nodup_cons.mp nd'
    unfold cellsFrom
    by_cases hk : (k == NameKind.cell) = true
    · rw [if_pos hk]
      have e : y = x := ho (y, k) List.mem_cons_self (by simpa using hk)
      subst e
      refine cellsFrom_none fun z hz hc => h1 (List.mem_map.mpr ⟨z, hz, ?_⟩)
      exact ho z (List.mem_cons_of_mem _ hz) hc
    · rw [if_neg hk]
      rcases List.mem_cons.mp hm with e | hm
      · cases e
        exact absurd rfl hk
      · exact cellsFrom_one h2 (fun z hz => ho z (List.mem_cons_of_mem _ hz)) hm
theorem pushCells_one {x : Str} : ∀ {names : List (Str × NameKind)} {h : Heap}, (names.map (·.1)).Nodup → (∀ y ∈ names, y.2 = .cell → y.1 = x) → (x, NameKind.cell) ∈ names → pushCells h names = h.push { cls := .type "cell", data := .cell none }
  | (y, k) :: r, h, nd, ho, hm => by
    have nd' : (y :: r.map (·.1)).Nodup := nd
    obtain ⟨h1, h2⟩ := List.nodup_cons.mp nd'
    unfold pushCells
    by_cases hk : (k == NameKind.cell) = true
    · rw [if_pos hk]
      have e : y = x := ho (y, k) List.mem_cons_self (by simpa using hk)
      subst e
      refine pushCells_none fun z hz hc => h1 (List.mem_map.mpr ⟨z, hz, ?_⟩)
      exact ho z (List.mem_cons_of_mem _ hz) hc
    · rw [if_neg hk]
      rcases List.mem_cons.mp hm with e | hm
      · cases e
        exact absurd rfl hk
      · exact pushCells_one h2 (fun z hz => ho z (List.mem_cons_of_mem _ hz)) hm
theorem newEnv_lc {M : Model} {A : Around} {E : Value → Shared → Prop} {s : Shared} {scope : Scope} {globals : Addr} {closure : List (Str × Addr)} {qual : Str} {func : Option Addr} {code : Value} {outer : Env} {builtins : Addr} {Q : Env → Shared → Prop}
    (hQ : Q (newEnv scope s.heap.objs.size globals (cellsFrom (s.heap.objs.size + 1) scope.names closure) qual func code (some outer) builtins) { s with heap := pushCells (s.heap.push { cls := .type "dict", data := .dict #[] }) scope.names }) :
    wpAny M A (newFunctionEnv scope globals closure [] qual func code (some outer) builtins) Q E s := by
  simp only [newFunctionEnv, Option.isSome_some, if_true]
  refine wpAny_bind (wpAny_alloc ?_)
  refine wpAny_bind (wpAny_layCells _ (fun name kind cells => by cases hkc : kind == NameKind.cell <;> simp [hkc]) _ _ _ _ ?_)
  rw [show ({ s with heap := s.heap.push { cls := .type "dict", data := .dict #[] } } : Shared).heap.objs.size = s.heap.objs.size + 1 from Heap.size_push ..]
  exact wpAny_bind (wpAny_pure (wpAny_pure hQ))
theorem LcScope.cells {S : Scope} {N : List Str} {sc : Scope} {x : Str} (L : LcScope S N sc x) (n : Nat) (cl : List (Str × Addr)) : cellsFrom n sc.names cl = ownC sc x n ++ cl := by
  unfold ownC
  rcases L.loc with h | h
  · rw [if_neg (by rw [h]; simp)]
    exact cellsFrom_none fun y hy hc => by
      have e := L.onlyC y hy hc
      have := lookup_mem L.uniq (y := x) (k := .cell) (by rw [← e, ← hc]; exact hy)
      rw [h] at this
      cases this
  · rw [if_pos h]
    exact cellsFrom_one L.uniq L.onlyC (PySem.mem_of_lookup h)
theorem LcScope.heap {S : Scope} {N : List Str} {sc : Scope} {x : Str} (L : LcScope S N sc x) (h : Heap) : (∀ b o, h.get? b = some o → (pushCells h sc.names).get? b = some o) ∧ (sc.names.lookup x = some .cell → (pushCells h sc.names).IsCell h.objs.size none) := by
  refine ⟨fun b o e => pushCells_keeps _ _ b o e, fun hc => ?_⟩
  rw [pushCells_one L.uniq L.onlyC (PySem.mem_of_lookup hc)]
  exact ⟨_, Heap.get?_push_size _ rfl, rfl⟩
theorem ownC_lookup {sc : Scope} {x y : Str} {n : Nat} {c : Addr} {cl : List (Str × Addr)} (h : (ownC sc x n ++ cl).lookup y = some c) : (y = x ∧ c = n ∧ sc.names.lookup x = some .cell) ∨ cl.lookup y = some c := by
  unfold ownC at h
  by_cases hc : sc.names.lookup x = some .cell
  · rw [if_pos hc] at h
    have h' : List.lookup y ((x, n) :: cl) = some c := h
    rw [List.lookup_cons] at h'
    cases e : y == x with
    | true =>
      rw [e] at h'
      exact .inl ⟨by simpa using e, (Option.some.inj h').symm, hc⟩
    | false =>
      rw [e] at h'
      exact .inr h'
  · rw [if_neg hc] at h
    exact .inr h
theorem ownC_other {sc : Scope} {x y : Str} {n : Nat} {cl : List (Str × Addr)} (h : y ≠ x) : (ownC sc x n ++ cl).lookup y = cl.lookup y := by
  unfold ownC
  by_cases hc : sc.names.lookup x = some .cell
  · rw [if_pos hc]
    show List.lookup y ((x, n) :: cl) = _
    rw [List.lookup_cons, beq_eq_false_iff_ne.mpr h]
  · rw [if_neg hc]
    rfl
theorem ownC_self {sc : Scope} {x : Str} {n : Nat} {cl : List (Str × Addr)} (h : sc.names.lookup x = some .cell) : (ownC sc x n ++ cl).lookup x = some n := by
  unfold ownC
  rw [if_pos h]
  show List.lookup x ((x, n) :: cl) = _
  rw [List.lookup_cons, beq_self_eq_true]
section
variable {X : Cx} {pins : List (Addr × Obj)} {σ : St} {H : Hp} {s : Shared} {sc : Scope} {x : Str} {fp : List Addr}
theorem blkN_len (N : List Str) (x : Str) : (blkN N x).length = N.length + 1 := by simp [blkN]
theorem blkN_at {N : List Str} {x : Str} {i : Nat} {y : Str} (h : (blkN N x)[i]? = some y) (hi : i < N.length) : ∃ y0, N[i]? = some y0 ∧ ((y0 = x ∧ y = Str.empty) ∨ (y0 ≠ x ∧ y = y0)) := by
  unfold blkN at h
  rw [List.getElem?_append_left (by simpa using hi), List.getElem?_map] at h
  cases q : N[i]? with
  | none => rw [q] at h; cases h
  | some y0 =>
    rw [q] at h
    refine ⟨y0, rfl, ?_⟩
    have h' : (if y0 = x then Str.empty else y0) = y := Option.some.inj h
    by_cases e : y0 = x
    · rw [if_pos e] at h'; exact .inl ⟨e, h'.symm⟩
    · rw [if_neg e] at h'; exact .inr ⟨e, h'.symm⟩
theorem Inv.has_cell (I : Inv X pins σ H s) {S : Scope} (L : LcScope S X.N sc x) (hS : X.env.scope = S) : ∀ y ∈ sc.names, y.2 = .free → (X.env.cells.lookup y.1).isSome = true := fun y hy hf => by
  have k : X.env.kindOf y.1 = some .cell ∨ X.env.kindOf y.1 = some .free := by
    show X.env.scope.names.lookup y.1 = _ ∨ X.env.scope.names.lookup y.1 = _
    rw [hS]
    exact L.free y hy hf
  obtain ⟨c, e⟩ := I.ok.has y.1 k
  rw [e]; rfl
theorem Inv.blk (I : Inv X pins σ H s) {S : Scope} (L : LcScope S X.N sc x) (hS : X.env.scope = S) (hf : ∀ b ∈ fp, FpOk X pins H b) (hb : ∀ b ∈ fp, b < s.heap.objs.size) {h1 : Heap} {tk : Nat} {m : Str → Option Value} (hn : h1.Ns s.heap.objs.size m)
    (hk : ∀ b o, s.heap.get? b = some o → h1.get? b = some o) (hoc : sc.names.lookup x = some .cell → h1.IsCell (s.heap.objs.size + 1) none) : Inv (X.blk (blkN X.N x) sc x s H fp) [] (σ ++ [none]) H { s with heap := h1, toks := tk } := by
  have sub : ∀ y c, (clOf X.env.cells sc.names []).lookup y = some c → X.env.cells.lookup y = some c := clOf_sub sc.names [] fun _ _ z => by cases z
  have sub2 : ∀ y c, (ownC sc x (s.heap.objs.size + 1) ++ clOf X.env.cells sc.names []).lookup y = some c → (y = x ∧ c = s.heap.objs.size + 1 ∧ sc.names.lookup x = some .cell) ∨ X.env.cells.lookup y = some c := fun y c e =>
    (ownC_lookup e).imp id (sub y c)
  have ltc : ∀ y c, X.env.cells.lookup y = some c → c < s.heap.objs.size := fun y c e => by
    obtain ⟨v, z⟩ := I.cell y c e
    exact z.lt
  have fkey : ∀ y, (y, NameKind.free) ∈ sc.names → y ≠ x := fun y hy e => by
    subst e
    have z := lookup_mem L.uniq hy
    rcases L.loc with q | q <;> rw [q] at z <;> cases z
  have hasC : ∀ y, (y, NameKind.free) ∈ sc.names → ∃ c, (ownC sc x (s.heap.objs.size + 1) ++ clOf X.env.cells sc.names []).lookup y = some c := fun y hy => by
    rw [ownC_other (fkey y hy)]
    exact Option.isSome_iff_exists.mp (clOf_has (I.has_cell L hS (y, .free) hy rfl) sc.names [] hy)
  have kinds : ∀ y k, (relabel sc X.env).names.lookup y = some k → (k = .cell ∨ k = .free) → (y, NameKind.free) ∈ sc.names ∨ (y = x ∧ sc.names.lookup x = some .cell) := fun y k e hk => by
    obtain ⟨k0, hm, q⟩ := relab_lookup e
    rcases q with rfl | ⟨_, rfl⟩
    · rcases hk with rfl | rfl
      · have e := L.onlyC _ hm rfl
        have e' : y = x := e
        subst e'
        exact .inr ⟨rfl, lookup_mem L.uniq hm⟩
      · exact .inl hm
    · exact .inl hm
  have stk := I.stkSub
  refine ⟨⟨I.ok.mod, L.kind, I.ok.glob, I.ok.blt, Nat.le_refl _, fun y z c e1 e2 => ?_, fun y hy => ?_, fun y c z e => ?_, I.ok.hd, I.ok.frames, .inl rfl, fun b hb' => ?_, I.bs, Nat.le_trans I.ok.bsz I.sz, fun b o e hb' => ?_, fun b hb' z => ?_, I.stack, I.stkFree⟩,
    rfl, I.bare, Un.kept hk, ⟨m, hn, fun i y v e1 e2 e3 => ?_⟩, fun y c e => ?_, I.hok.fresh (Nat.le_refl _), fun y c e => ?_, fun p hp => absurd (show p ∈ ([] : List (Addr × Obj)) from hp) (by simp), I.hok.kept hk, ?_⟩
  · rcases sub2 y c e1 with ⟨q1, q2, _⟩ | q <;> rcases sub2 z c e2 with ⟨q1', q2', _⟩ | q'
    · rw [q1, q1']
    · have z1 := ltc z c q'
      rw [q2] at z1
      exact absurd z1 (Nat.not_lt.mpr (Nat.le_succ _))
    · have z1 := ltc y c q
      rw [q2'] at z1
      exact absurd z1 (Nat.not_lt.mpr (Nat.le_succ _))
    · exact I.ok.inj y z c q q'
  · have hy' : (relabel sc X.env).names.lookup y = some .cell ∨ (relabel sc X.env).names.lookup y = some .free := hy
    have z : (y, NameKind.free) ∈ sc.names ∨ (y = x ∧ sc.names.lookup x = some .cell) := by
      rcases hy' with e | e
      · exact kinds y _ e (.inl rfl)
      · exact kinds y _ e (.inr rfl)
    rcases z with z | ⟨rfl, z⟩
    · exact hasC y z
    · exact ⟨_, ownC_self z⟩
  · have z' : decide (y = x ∧ sc.names.lookup x = some .cell) = true := z
    obtain ⟨rfl, z2⟩ := of_decide_eq_true z'
    have e' : (ownC sc y (s.heap.objs.size + 1) ++ clOf X.env.cells sc.names []).lookup y = some c := e
    rw [ownC_self z2] at e'
    cases e'
    exact Nat.le_succ _
  · obtain ⟨f0, f1, f2, f3, f4, f5⟩ := hf b hb'
    refine ⟨Nat.ne_of_lt (hb b hb'), fun y c e z => ?_⟩
    rcases sub2 y c e with ⟨_, q2, _⟩ | q
    · have z1 := hb b hb'
      rw [← z, q2] at z1
      exact absurd z1 (Nat.not_lt.mpr (Nat.le_succ _))
    · exact f4 y c q z
  · obtain ⟨f0, f1, f2, f3, f4, f5⟩ := hf b hb'
    rcases f3 with z | z
    · exact I.ok.noex b o e z
    · exact absurd (Nat.lt_of_lt_of_le (Heap.lt_size (I.ok.bs b o e).1) z) (Nat.lt_irrefl _)
  · obtain ⟨f0, f1, f2, f3, f4, f5⟩ := hf b hb'
    rcases List.mem_cons.mp (stk b z) with q | q
    · exact f1 q
    · exact f2 q
  · have hl : σ.length = X.N.length := I.len
    have hi : i < X.N.length := by
      by_cases hi : i < σ.length
      · omega
      · rw [List.getElem?_append_right (by omega)] at e2
        cases q : i - σ.length with
        | zero => rw [q] at e2; cases e2
        | succ n => rw [q] at e2; cases e2
    rw [List.getElem?_append_left (by omega)] at e2
    obtain ⟨y0, g1, g2⟩ := blkN_at e1 hi
    have vis : ∃ k, (relabel sc X.env).names.lookup y = some k ∧ (k = .local ∨ k = .cell ∨ k = .free) := by
      rcases e3 with q | q | q
      · exact ⟨_, q, .inl rfl⟩
      · exact ⟨_, q, .inr (.inl rfl)⟩
      · exact ⟨_, q, .inr (.inr rfl)⟩
    obtain ⟨k, q, hk'⟩ := vis
    obtain ⟨k0, hm, q0⟩ := relab_lookup q
    rcases g2 with ⟨_, rfl⟩ | ⟨g2, rfl⟩
    · exact absurd rfl (L.ne _ hm)
    · have hkc : k = .cell ∨ k = .free := by
        rcases hk' with rfl | z
        · exfalso
          rcases q0 with rfl | ⟨z, _⟩
          · rcases L.only _ hm rfl with z | z
            · exact g2 z
            · exact L.dot y (List.mem_of_getElem? g1) z
          · cases z
        · exact z
      have hfr : (y, NameKind.free) ∈ sc.names := (kinds y k q hkc).resolve_right fun z => g2 z.1
      have visX : X.env.scope.names.lookup y = some .cell ∨ X.env.scope.names.lookup y = some .free := by rw [hS]; exact L.free _ hfr rfl
      obtain ⟨m0, _, hl0⟩ := I.loc
      obtain ⟨u, r, lk⟩ := hl0 i y v g1 e2 (.inr visX)
      refine ⟨u, r, ?_⟩
      rcases lk with ⟨z, _⟩ | ⟨_, c, ec, hc⟩
      · exfalso
        have z' : X.env.scope.names.lookup y = some .local := z
        rcases visX with w' | w' <;> rw [z'] at w' <;> cases w'
      · obtain ⟨c', ec'⟩ := hasC y hfr
        have : c' = c := by
          rw [ownC_other (fkey y hfr)] at ec'
          exact Option.some.inj ((sub y c' ec').symm.trans ec)
        subst this
        refine .inr ⟨?_, c', ec', ?_⟩
        · rcases hkc with rfl | rfl
          · exact .inl q
          · exact .inr q
        · obtain ⟨o, ho, hd⟩ := hc
          exact ⟨o, hk _ _ ho, hd⟩
  · rcases sub2 y c e with ⟨_, q2, q3⟩ | q
    · rw [q2]; exact ⟨_, hoc q3⟩
    · obtain ⟨v, o, ho, hd⟩ := I.cell y c q
      exact ⟨v, o, hk _ _ ho, hd⟩
  · rcases sub2 y c e with ⟨_, q2, _⟩ | q
    · rw [q2]; exact I.hok.fresh (Nat.le_succ _)
    · exact I.freeC y c q
  · rw [List.length_append, I.len]
    exact (blkN_len X.N x).symm
theorem relab_own {sc : Scope} {env : Env} {x : Str} (h : sc.names.lookup x = some .cell) : (relabel sc env).names.lookup x = some .cell := by
  have e := lookup_relab (c := fun n k => k == NameKind.free && env.scope.kind == .function && env.kindOf n == some .cell) (y := x) sc.names
  show (sc.names.map fun (n, k) => if (k == NameKind.free && env.scope.kind == .function && env.kindOf n == some .cell) = true then (n, NameKind.cell) else (n, k)).lookup x = some .cell
  rw [e, h]
  rfl
theorem relab_loc {S : Scope} {N : List Str} {env : Env} (L : LcScope S N sc x) : Loc (relabel sc env) x := by
  rcases L.loc with h | h
  · exact .inl (lookup_relabel_local h)
  · exact .inr (relab_own h)
theorem relab_fn {S : Scope} {N : List Str} {env : Env} (L : LcScope S N sc x) : decide (x = x ∧ sc.names.lookup x = some .cell) = true ∨ (relabel sc env).names.lookup x = some .local := by
  rcases L.loc with h | h
  · exact .inr (lookup_relabel_local h)
  · exact .inl (decide_eq_true ⟨rfl, h⟩)
theorem compLoopG {prog : Program} {w : World} {A : Around} {R : Result → Shared → Prop} {elt target iter : Expr} {scope : Scope} {pos : Pos} {it acc : Value} {env : Env} (I : Nat → Shared → Prop)
    (turn : ∀ n s, I n s → wpAny (model prog w) A (pyNext it) (fun r s₁ => match r with
      | none => R (.ok .next) s₁
      | some v => wpAny (model prog w) A (letOwnedTupleGo target it v) (fun _ s₁' => wpAny (model prog w) A (assign target env v) (fun _ s₂ => wpAny (model prog w) A (eval elt env) (fun x s₃ =>
          wpAny (model prog w) A (call (.builtin "list.append") [acc, x]) (fun _ s₄ => ∃ m, m < n ∧ I m s₄) (fun _ _ => False) s₃) (fun _ _ => False) s₂) (fun _ _ => False) s₁') (fun _ _ => False) s₁) (fun _ _ => False) s)
    (n : Nat) (h : I n s) : codeAny (model prog w) A (.compLoop (.ListComp elt [⟨target, iter, [], 0⟩] scope pos) 0 it acc env) R s := by
  refine codeAny_loop rfl I (fun n s hI => ?_) n h
  show wpAny _ _ ((compTurn (.ListComp elt [⟨target, iter, [], 0⟩] scope pos) 0 it acc env).onRaise (fun x => do noteFrame x env; theTreesLotGoes x)) _ _ s
  refine wpAny_noted ?_
  rw [compTurn_list1]
  refine wpAny_bind (wpAny_standAt (wpAny_bind (wpAny_mono (turn n s hI) (fun r s₁ h₁ => ?_) fun _ _ z => z.elim)))
  cases r with
  | none => exact wpAny_pure h₁
  | some v =>
    exact wpAny_bind (wpAny_mono h₁ (fun _ s₁' h₁' => wpAny_bind (wpAny_mono h₁' (fun _ s₂ h₂ => wpAny_bind (wpAny_bind (wpAny_mono h₂ (fun x s₃ h₃ => wpAny_bind (wpAny_mono h₃
      (fun _ s₄ h₄ => wpAny_pure (wpAny_pure ⟨rfl, h₄⟩)) fun _ _ z => z.elim)) fun _ _ z => z.elim))) fun _ _ z => z.elim)) fun _ _ z => z.elim)
def tLc (ti : TI) (te : TE) : TE := fun σ H Q => ti σ H fun J H1 => ∀ D, H1 D = none → ∃ W : Nat → Nat → List V → Hp → Prop, (∃ m, W 0 m [] (upd H1 D (.lst []))) ∧
  ∀ i m ys H', W i m ys H' → H' D = some (.lst ys) ∧ ((J.stop i H' ∧ Q (.ref D) H') ∨ (J.go i H' ∧ ∀ z H2, J.yld i H' z H2 → te (σ ++ [some z]) H2 fun v H3 => H3 D = some (.lst ys) ∧ ys.length < sizeLine ∧ ∃ m', m' < m ∧ W (i + 1) m' (ys ++ [v]) (upd H3 D (.lst (ys ++ [v])))))
theorem lc_core {elt iter : Expr} {px pos : Pos} {te : TE} {S : Scope} {use : Option (Value → Sem Unit)} {QQ : Value → Shared → Prop} {Q : VK} {it : Addr} {tn : Nat → Heap → Prop} {J : It} (hc : X.calm = true) (L : LcScope S X.N sc x) (hS : X.env.scope = S)
    (he : ∀ (s₀ : Shared) (H₀ : Hp) (fp : List Addr), PE (X.blk (blkN X.N x) sc x s₀ H₀ fp) elt te)
    (I : Inv X pins σ H s) (T : Turn X.prog X.w X.K (.Name x px) J fp it tn) (st : tn 0 s.heap) (hf : ∀ b ∈ fp, FpOk X pins H b)
    (h : ∀ D, H D = none → ∃ W : Nat → Nat → List V → Hp → Prop, (∃ m, W 0 m [] (upd H D (.lst []))) ∧
      ∀ i m ys H', W i m ys H' → H' D = some (.lst ys) ∧ ((J.stop i H' ∧ Q (.ref D) H') ∨ (J.go i H' ∧ ∀ z H2, J.yld i H' z H2 → te (σ ++ [some z]) H2 fun v H3 => H3 D = some (.lst ys) ∧ ys.length < sizeLine ∧ ∃ m', m' < m ∧ W (i + 1) m' (ys ++ [v]) (upd H3 D (.lst (ys ++ [v]))))))
    (fin : ∀ (D C : Addr) (H' : Hp) (s' : Shared) (m : Str → Option Value), Inv X pins σ H' s' → Q (.ref D) H' → s'.heap.Ns C m → H' C = none → s.heap.objs.size ≤ C → (∀ p ∈ X.pn ++ pins, p.1 ≠ C) → C ≠ X.env.locals → (∀ y c, X.env.cells.lookup y = some c → c ≠ C) → compPost (model X.prog X.w) X.A X.xe use QQ (.ref D) C (.ok .next) s') :
    wpAny (model X.prog X.w) X.A (newList []) (fun acc s₃ => wpAny (model X.prog X.w) X.A (newFunctionEnv sc X.env.globals (clOf X.env.cells sc.names []) [] X.env.qual none .none (some X.env)) (fun cenv s₄ =>
      codeAny (model X.prog X.w) X.A (.compStart (.ListComp elt [⟨.Name x px, iter, [], 0⟩] sc pos) 0 (.ref it) acc { cenv with scope := relabel sc X.env }) (compPost (model X.prog X.w) X.A X.xe use QQ acc cenv.locals) s₄) X.xe s₃) X.xe s := by
  refine wpAny_newObj_type ?_
  have hD : H s.heap.objs.size = none := I.hok.fresh (Nat.le_refl _)
  obtain ⟨W, ⟨m0, w0⟩, turn⟩ := h s.heap.objs.size hD
  have I2 : Inv X pins σ (upd H s.heap.objs.size (.lst [])) { s with heap := s.heap.push { cls := .type "list", data := .seq ([] : List Value).toArray } } := I.lnew (t' := s.toks) .nil (Nat.zero_le _)
  have lt0 : ∀ b ∈ fp, b < s.heap.objs.size := fun b hb => by
    obtain ⟨o, e, _⟩ := T.obj 0 s.heap st b hb
    exact Heap.lt_size e
  have hf2 : ∀ b ∈ fp, FpOk X pins (upd H s.heap.objs.size (.lst [])) b := fun b hb => by
    obtain ⟨f0, f⟩ := hf b hb
    exact ⟨by rw [upd_ne (Nat.ne_of_lt (lt0 b hb))]; exact f0, f⟩
  have st2 : tn 0 (s.heap.push { cls := .type "list", data := .seq ([] : List Value).toArray }) := T.keep 0 _ _ st fun b _ o e => Heap.get?_push_of_some _ e
  generalize hs2 : ({ s with heap := s.heap.push { cls := .type "list", data := .seq ([] : List Value).toArray } } : Shared) = s2 at I2
  have eh : s2.heap = s.heap.push { cls := .type "list", data := .seq ([] : List Value).toArray } := by rw [← hs2]
  have lt2 : ∀ b ∈ fp, b < s2.heap.objs.size := fun b hb => by rw [eh, Heap.size_push]; exact Nat.lt_succ_of_lt (lt0 b hb)
  rw [← eh] at st2
  have le2 : s.heap.objs.size ≤ s2.heap.objs.size := by rw [eh, Heap.size_push]; exact Nat.le_succ _
  show wpAny _ _ _ _ _ s2
  refine newEnv_lc ?_
  rw [L.cells]
  have hp0 := L.heap (s2.heap.push { cls := .type "dict", data := .dict #[] })
  have hns0 : (s2.heap.push { cls := .type "dict", data := .dict #[] }).Ns s2.heap.objs.size _ := Heap.Ns.new s2.heap (.type "dict")
  have hns₁ := hns0.keeps hp0.1
  have hoc := hp0.2
  rw [Heap.size_push] at hoc
  have keep : ∀ b o, s2.heap.get? b = some o → (pushCells (s2.heap.push { cls := .type "dict", data := .dict #[] }) sc.names).get? b = some o := fun b o e => hp0.1 b o (Heap.get?_push_of_some _ e)
  generalize pushCells (s2.heap.push { cls := .type "dict", data := .dict #[] }) sc.names = h₁ at hns₁ hoc keep ⊢
  have J0 : Inv (X.blk (blkN X.N x) sc x s2 (upd H s.heap.objs.size (.lst [])) fp) [] (σ ++ [none]) (upd H s.heap.objs.size (.lst [])) { s2 with heap := h₁ } := I2.blk (tk := s2.toks) L hS hf2 lt2 hns₁ keep hoc
  have st3 : tn 0 h₁ := T.keep 0 _ _ st2 fun b _ o e => keep b o e
  have hl : σ.length = X.N.length := I.len
  have stat : ∀ {H' : Hp}, (∀ b ∈ fp, H' b = none) → ∀ b ∈ fp, FpOk (X.blk (blkN X.N x) sc x s2 (upd H s.heap.objs.size (.lst [])) fp) [] H' b := fun {H'} hn b hb => by
    have o1 := J0.ok.exf b hb
    exact ⟨hn b hb, o1.1, J0.ok.exfs b hb, .inl hb, o1.2, fun p hp => absurd (show p ∈ ([] : List (Addr × Obj)) from hp) (by simp)⟩
  have loop : codeAny (model X.prog X.w) X.A (.compLoop (.ListComp elt [⟨.Name x px, iter, [], 0⟩] sc pos) 0 (.ref it) (.ref s.heap.objs.size) (compEnvC sc (ownC sc x (s2.heap.objs.size + 1) ++ clOf X.env.cells sc.names []) s2.heap.objs.size X.env))
      (compPost (model X.prog X.w) X.A X.xe use QQ (.ref s.heap.objs.size) s2.heap.objs.size) { s2 with heap := h₁ } := by
    refine compLoopG (fun n s' => ∃ i ys H' o, Inv (X.blk (blkN X.N x) sc x s2 (upd H s.heap.objs.size (.lst [])) fp) [] (σ ++ [o]) H' s' ∧ tn i s'.heap ∧ (∀ b ∈ fp, H' b = none) ∧ W i n ys H') ?_ m0 ⟨0, [], _, none, J0, st3, fun b hb => (hf2 b hb).1, w0⟩
    rintro n s4 ⟨i, ys, H4, o, J4, st4, fr4, w4⟩
    obtain ⟨hD4, tt⟩ := turn i n ys H4 w4
    rcases tt with ⟨stop, q⟩ | ⟨go, step⟩
    · refine thn (T.done (X.blk (blkN X.N x) sc x s2 (upd H s.heap.objs.size (.lst [])) fp) rfl rfl rfl hc i [] s4 _ H4 _ J4 (stat fr4) st4 stop) fun r s5 ⟨hr, J5⟩ => ?_
      subst hr
      have I5 : Inv X pins σ H4 s5 := I2.call' J5.os J5.base J5.hok J5.bare fun b hb => by
        obtain ⟨f0, f1, f2, f3, f4, f5⟩ := hf2 b hb
        exact ⟨f3, f1, f4, f5⟩
      obtain ⟨m5, n5, _⟩ := J5.loc
      exact fin _ _ H4 s5 m5 I5 q n5 J5.free le2 (fun p hp z => by
          have := Heap.lt_size (I2.pin p hp).1
          rw [z] at this
          exact Nat.lt_irrefl _ this) (Nat.ne_of_gt I2.lt) (fun y c e z => by
          obtain ⟨v, o, ho, _⟩ := I2.cell y c e
          have := Heap.lt_size ho
          rw [z] at this
          exact Nat.lt_irrefl _ this)
    · refine thn (T.item (X.blk (blkN X.N x) sc x s2 (upd H s.heap.objs.size (.lst [])) fp) rfl rfl rfl hc i [] s4 _ H4 _ J4 (stat fr4) st4 go) fun r s5 ⟨u, hr, h5⟩ => ?_
      subst hr
      refine thn h5 fun _ s6 ⟨z, H6, J6, r6, y6, st6, fr6⟩ => ?_
      have J6' := J6.pinned (stat fr6) (T.obj _ _ st6)
      refine thn (pg_name (X := X.blk (blkN X.N x) sc x s2 (upd H s.heap.objs.size (.lst [])) fp) (i := X.N.length) L.nd (by show (blkN X.N x)[X.N.length]? = some x; unfold blkN; rw [List.getElem?_append_right (by simp)]; simp) (relab_loc L) (relab_fn L)
        _ s6 _ H6 z u (fun σ' H' => σ' = σ ++ [some z] ∧ H' = H6) J6' r6 ⟨by
          rw [List.set_append_right _ _ (by omega)]
          have : X.N.length - σ.length = 0 := by omega
          rw [this]
          rfl, rfl⟩) fun _ s7 ⟨σ7, H7, J7, e7, e8⟩ => ?_
      subst e7 e8
      refine thn (he s2 (upd H s.heap.objs.size (.lst [])) fp _ s7 _ H7 _ J7 (step z H7 y6)) fun vv s8 ⟨v, H8, J8, r8, hD8, hz8, m', hm, w8⟩ => ?_
      refine thn (mt_append (X := X.blk (blkN X.N x) sc x s2 (upd H s.heap.objs.size (.lst [])) fp) _ s8 _ H8 (.ref s.heap.objs.size) [v] (.ref s.heap.objs.size) [vv] (fun _ H' => H' = upd H8 s.heap.objs.size (.lst (ys ++ [v]))) J8 rfl (.cons r8 .nil) ⟨_, ys, v, rfl, rfl, hD8, hz8, rfl⟩) fun _ s9 ⟨_, H9, J9, _, e9⟩ => ?_
      subst e9
      refine ⟨m', hm, i + 1, ys ++ [v], _, some z, J9.unpinned, T.keep _ _ _ st6 fun b hb o e => (J9.pin (b, o) (List.mem_append_right _ (List.mem_append_right _ (mem_pinsAt hb e)))).1, fun b hb => ?_, w8⟩
      obtain ⟨o', e', _⟩ := T.obj _ _ st6 b hb
      exact (J9.pin (b, o') (List.mem_append_right _ (List.mem_append_right _ (mem_pinsAt hb e')))).2.1
  refine codeAny_compStart_list loop (T.self _ 0 _ _ _ st3 loop)
theorem pe_lc {elt iter : Expr} {px pos : Pos} {ti : TI} {te : TE} {S : Scope} (hc : X.calm = true) (L : LcScope S X.N sc x) (hS : X.env.scope = S) (hi : PI X (.Name x px) iter ti)
    (he : ∀ (s₀ : Shared) (H₀ : Hp) (fp : List Addr), PE (X.blk (blkN X.N x) sc x s₀ H₀ fp) elt te) (hs : ∀ x, foldedSetIterable iter X.env x = pure x := by intro _; rfl) :
    PE X (.ListComp elt [⟨.Name x px, iter, [], 0⟩] sc pos) (tLc ti te) := by
  intro pins s σ H Q I h
  rw [eval_ListComp]
  refine wpAny_comprehension_free (use := none) rfl hs (closure_of (I.has_cell L hS)) L.kind L.names (thn (hi pins s σ H _ I h) fun xv s₁ h₁ => thn h₁ fun itv s₂ h₂ => ?_)
  obtain ⟨it, fp, tn, J, H2, rfl, I2, T, st2, f2, q2⟩ := h₂
  refine lc_core hc L hS he I2 T st2 f2 q2 ?_
  intro D C H' s' m I' q hn hC hle hp hL hcl
  refine ⟨m, hn, fun h' hs' => ?_⟩
  have I3 : Inv X pins σ H' { s' with heap := h' } := I'.turned (t' := s'.toks) (fun b o hb e => (hs'.2 b hb).trans e) hC hL (.inr (Nat.le_trans I2.sz hle)) hcl hp
  exact ⟨.ref D, H', I3, rfl, q⟩
theorem ps_setLc {elt iter : Expr} {i : Nat} {y : Str} {px py pos spos : Pos} {ti : TI} {te : TE} {S : Scope} (hN : X.N.Nodup) (hi : X.N[i]? = some y) (hy : Loc X.env.scope y) (hc : X.calm = true) (L : LcScope S X.N sc x) (hS : X.env.scope = S) (hit : PI X (.Name x px) iter ti)
    (he : ∀ (s₀ : Shared) (H₀ : Hp) (fp : List Addr), PE (X.blk (blkN X.N x) sc x s₀ H₀ fp) elt te)
    (hsw : swapsWith (.ListComp elt [⟨.Name x px, iter, [], 0⟩] sc pos) (some (.Name y py)) spos.line X.env = pure true := by rfl) (hs : ∀ x, foldedSetIterable iter X.env x = pure x := by intro _; rfl)
    (hf : X.fn y = true ∨ X.env.scope.names.lookup y = some .local := by first | exact .inl rfl | exact .inr rfl | assumption) :
    PS X (.Assign [.Name y py] (.ListComp elt [⟨.Name x px, iter, [], 0⟩] sc pos) spos) (tAsg (tLc ti te) (gName i)) := by
  intro pins s σ H D I h
  rw [exec_Assign_Name_used _ _ _ _ hsw]
  refine wpAny_bind (wpAny_standAt (wpAny_bind ?_))
  show wpAny _ _ (do let _ ← comprehension (.ListComp elt [⟨.Name x px, iter, [], 0⟩] sc pos) sc X.env _ (newList []) false (eval iter X.env) (some (assign (.Name y py) X.env))) _ _ s
  refine wpAny_bind (wpAny_mono (wpAny_comprehension_free (use := some (assign (.Name y py) X.env)) (Q := fun _ s' => SP X pins D .next s') rfl hs (closure_of (I.has_cell L hS)) L.kind L.names
    (thn (hit pins s σ H _ I h) fun xv s₁ h₁ => thn h₁ fun itv s₂ h₂ => ?_)) (fun _ s' hq => wpAny_pure (wpAny_pure hq)) fun _ _ e => e)
  obtain ⟨it, fp, tn, J, H2, rfl, I2, T, st2, f2, q2⟩ := h₂
  refine lc_core (Q := fun v H' => D.nx (σ.set i (some v)) H') hc L hS he I2 T st2 f2 q2 ?_
  intro D' C H' s' m I' q hn hC hle hp hL hcl
  show wpAny _ _ (assign (.Name y py) X.env (.ref D')) _ _ s'
  refine wpAny_assign_Name (store_ok2 I' hN hi hy (v := .ref D') (u := .ref D') rfl (fun s'' I'' ⟨a, sb, ha⟩ => ?_) hf)
  have nCa : C ≠ a := by
    rcases ha with rfl | ha
    · exact hL
    · exact fun z => hcl y a ha z.symm
  refine ⟨m, hn.sameBut sb nCa, fun h' hs' => ?_⟩
  have I3 : Inv X pins (σ.set i (some (.ref D'))) H' { s'' with heap := h' } := I''.turned (t' := s''.toks) (fun b o hb e => (hs'.2 b hb).trans e) hC hL (.inr (Nat.le_trans I2.sz hle)) hcl hp
  exact ⟨_, H', I3, q⟩
end
end L2
namespace L2
open PySem PySem.Spec PyProof.Rows
section
variable {X : Cx}
theorem call_sorted : CallR X (.builtin "sorted") (fun xs H Q => ∃ (p : Addr) (ns : List Int), xs = [.ref p] ∧ SqL X.K H p (ns.map V.int) ∧ ns.length < 64 ∧ ∀ (l : Addr) (ns' : List Int), H l = none → ns'.Perm ns → ns'.Pairwise (· ≤ ·) → Q (.ref l) (upd H l (.lst (ns'.map V.int)))) := by
  intro pins s σ H xs us Q I r h
  obtain ⟨p, ns, rfl, hq, hl, q⟩ := h
  obtain ⟨u, rfl, rx⟩ := vals1 r
  cases rx
  obtain ⟨its, rv, pl, hz⟩ := I.list hq
  have hI : IntsAre its ns := intsAre_of rv
  have hlen := rv.length
  rw [List.length_map] at hlen
  refine sorted_ints pl.isList hI (by omega) fun out ns' a1 a2 a3 => ?_
  obtain ⟨e, he⟩ := sortedAll_at s.heap its out
  have hn : H (s.heap.objs.size + 1) = none := I.hok.fresh (Nat.le_succ _)
  refine ⟨.ref (s.heap.objs.size + 1), _, I.laid (t' := s.toks) (fun b o z => sortedAll_old z) (Nat.le_succ _) ?_, rfl, q _ ns' hn a2 a3⟩
  refine ⟨?_, out.toList, e, vals_ints a1, he⟩
  rw [List.length_map, a2.length_eq]
  exact Nat.le_of_lt (small1000 (by omega))
theorem call_range1v : CallR X (.type "range") (fun xs H Q => ∃ j : Int, xs = [.int j] ∧ ∀ p, H p = none → Q (.ref p) (upd H p (.rng 0 j))) := by
  intro pins s σ H xs us Q I r h
  obtain ⟨j, rfl, q⟩ := h
  obtain ⟨u, rfl, t, rfl⟩ := vals1 r
  have hn : H s.heap.objs.size = none := I.hok.fresh (Nat.le_refl _)
  exact call_range_1 ⟨.ref s.heap.objs.size, _, I.laid (fun b o z => Heap.get?_push_of_some _ z) (Nat.le_refl _) (show ObjOk X.prog X.w (upd H s.heap.objs.size (.rng 0 j)) _ s.heap.objs.size (.rng 0 j) from ⟨_, _, _, Heap.get?_push_size _ rfl⟩), rfl, q _ hn⟩
theorem vals_items : ∀ {n : Nat} {us : List Value} {f : Nat → Int}, us.length = n → (∀ (i : Nat) (u : Value), us[i]? = some u → ∃ t, u = .int (f i) t) → Vals ((List.range n).map fun i => V.int (f i)) us := by
  intro n
  induction n with
  | zero =>
    intro us f hl _
    rw [List.length_eq_zero_iff.mp hl]
    exact .nil
  | succ n ih =>
    intro us f hl h
    cases us with
    | nil => cases hl
    | cons u us =>
      rw [List.range_succ_eq_map, List.map_cons, List.map_map]
      obtain ⟨t, e⟩ := h 0 u rfl
      refine .cons ⟨t, e⟩ (ih (f := fun i => f (i + 1)) (by simpa using hl) fun i u' hu => h (i + 1) u' (by simpa using hu))
theorem call_list_rng (hc : X.calm = true) : CallR X (.type "list") (fun xs H Q => ∃ (p : Addr) (n : Nat), xs = [.ref p] ∧ H p = some (.rng 0 (n : Int)) ∧ n ≤ 1000 ∧ ∀ l, H l = none → Q (.ref l) (upd H l (.lst ((List.range n).map fun (i : Nat) => V.int (i : Int))))) := by
  intro pins s σ H xs us Q I r h
  obtain ⟨p, n, rfl, hp, hle, q⟩ := h
  obtain ⟨u, rfl, rx⟩ := vals1 r
  cases rx
  obtain ⟨t, u, v, e⟩ := I.hok p _ hp
  have hs : Builtin.Range.rangeSize 0 (n : Int) 1 = (n : Nat) := by rw [rangeSize_one]; split <;> omega
  have hn : H s.heap.objs.size = none := I.hok.fresh (Nat.le_refl _)
  refine call_list_range (I.ok.hd hc) (show IsRange s.heap p 0 (n : Int) 1 t u v from e) (small_one (by omega) (by omega) (by omega) (by omega)) hs (by omega) fun h' tk acc c' kp ga it => ?_
  refine ⟨.ref s.heap.objs.size, _, I.laid (t' := tk) kp (Nat.le_refl _) ?_, rfl, q _ hn⟩
  have hv : Vals ((List.range n).map fun (i : Nat) => V.int (i : Int)) acc.toList := by
    refine vals_items (f := fun i => (i : Int)) (by simpa using it.1) fun i w hw => ?_
    obtain ⟨t', et⟩ := it.2 i w (by simpa using hw)
    refine ⟨t', ?_⟩
    rw [et]
    congr 1
    omega
  refine ⟨?_, acc.toList, c', hv, by simpa using ga⟩
  rw [List.length_map, List.length_range]
  exact Nat.le_of_lt (small1000 hle)
end
end L2
namespace L2
open PySem PySem.Spec PyProof.Rows
theorem lc_list {K : PySem.W.Frag} {a : Addr} {xs : List V} {te : TE} {Q : Hp → Prop} {σ : St} {H1 : Hp} {D : Addr} (Pv : Nat → List V → Hp → Prop) (h0 : Pv 0 [] (upd H1 D (.lst []))) (hl : ∀ i ys H', i ≤ xs.length → Pv i ys H' → SqL K H' a xs ∧ H' D = some (.lst ys))
    (hs : ∀ i x ys H', xs[i]? = some x → Pv i ys H' → te (σ ++ [some x]) H' fun v H3 => H3 D = some (.lst ys) ∧ ys.length < sizeLine ∧ Pv (i + 1) (ys ++ [v]) (upd H3 D (.lst (ys ++ [v])))) (hd : ∀ ys H', Pv xs.length ys H' → Q H')
    (mono : ∀ σ H Q Q', (∀ v H1, Q v H1 → Q' v H1) → te σ H Q → te σ H Q') :
    ∃ W : Nat → Nat → List V → Hp → Prop, (∃ m, W 0 m [] (upd H1 D (.lst []))) ∧
      ∀ i m ys H', W i m ys H' → H' D = some (.lst ys) ∧ (((Itl K a).stop i H' ∧ Q H') ∨ ((Itl K a).go i H' ∧ ∀ z H2, (Itl K a).yld i H' z H2 → te (σ ++ [some z]) H2 fun v H3 => H3 D = some (.lst ys) ∧ ys.length < sizeLine ∧ ∃ m', m' < m ∧ W (i + 1) m' (ys ++ [v]) (upd H3 D (.lst (ys ++ [v]))))) := by
  refine ⟨fun i m ys H' => m = xs.length - i ∧ i ≤ xs.length ∧ Pv i ys H', ⟨xs.length, by simp, Nat.zero_le _, h0⟩, ?_⟩
  rintro i m ys H' ⟨rfl, hi, p⟩
  obtain ⟨q, eD⟩ := hl i ys H' hi p
  refine ⟨eD, ?_⟩
  by_cases hlt : i < xs.length
  · refine .inr ⟨⟨xs, xs[i], q, by simp [hlt]⟩, fun z H2 y => ?_⟩
    obtain ⟨e, y⟩ := y
    subst e
    refine mono _ _ _ _ (fun v H3 ⟨z1, z2, z3⟩ => ⟨z1, z2, xs.length - (i + 1), by omega, rfl, hlt, z3⟩) (hs i z ys _ (y xs q) p)
  · have e : i = xs.length := by omega
    subst e
    exact .inl ⟨⟨xs, q, Nat.le_refl _⟩, hd ys H' p⟩
theorem lc_range {lo : Int} {n : Nat} {te : TE} {Q : Hp → Prop} {σ : St} {H1 : Hp} {D : Addr} (Pv : Nat → List V → Hp → Prop) (h0 : Pv 0 [] (upd H1 D (.lst []))) (hl : ∀ i ys H', i ≤ n → Pv i ys H' → H' D = some (.lst ys))
    (hs : ∀ i ys H', i < n → Pv i ys H' → te (σ ++ [some (.int (lo + (i : Nat)))]) H' fun v H3 => H3 D = some (.lst ys) ∧ ys.length < sizeLine ∧ Pv (i + 1) (ys ++ [v]) (upd H3 D (.lst (ys ++ [v])))) (hd : ∀ ys H', Pv n ys H' → Q H')
    (mono : ∀ σ H Q Q', (∀ v H1, Q v H1 → Q' v H1) → te σ H Q → te σ H Q') :
    ∃ W : Nat → Nat → List V → Hp → Prop, (∃ m, W 0 m [] (upd H1 D (.lst []))) ∧
      ∀ i m ys H', W i m ys H' → H' D = some (.lst ys) ∧ (((Itr lo n).stop i H' ∧ Q H') ∨ ((Itr lo n).go i H' ∧ ∀ z H2, (Itr lo n).yld i H' z H2 → te (σ ++ [some z]) H2 fun v H3 => H3 D = some (.lst ys) ∧ ys.length < sizeLine ∧ ∃ m', m' < m ∧ W (i + 1) m' (ys ++ [v]) (upd H3 D (.lst (ys ++ [v]))))) := by
  refine ⟨fun i m ys H' => m = n - i ∧ i ≤ n ∧ Pv i ys H', ⟨n, by simp, Nat.zero_le _, h0⟩, ?_⟩
  rintro i m ys H' ⟨rfl, hi, p⟩
  refine ⟨hl i ys H' hi p, ?_⟩
  by_cases hlt : i < n
  · refine .inr ⟨hlt, fun z H2 y => ?_⟩
    obtain ⟨e, y⟩ := y
    subst e y
    refine mono _ _ _ _ (fun v H3 ⟨z1, z2, z3⟩ => ⟨z1, z2, n - (i + 1), by omega, rfl, hlt, z3⟩) (hs i ys _ hlt p)
  · have e : i = n := by omega
    subst e
    exact .inl ⟨Nat.le_refl _, hd ys H' p⟩
end L2
namespace L2
open PySem PySem.Spec PyProof.Rows
section
variable {X : Cx}
theorem call_sum (hc : X.calm = true) : CallR X (.builtin "sum") (fun xs H Q => ∃ (p : Addr) (ns : List Int), xs = [.ref p] ∧ SqL X.K H p (ns.map V.int) ∧ Q (.int ns.sum) H) := by
  intro pins s σ H xs us Q I r h
  obtain ⟨p, ns, rfl, hq, q⟩ := h
  obtain ⟨u, rfl, rx⟩ := vals1 r
  cases rx
  obtain ⟨its, rv, pl, hz⟩ := I.list hq
  have hI : IntsAre its ns := intsAre_of rv
  obtain ⟨ys, hx⟩ := hI.allInts.items
  have hl' : s.heap.IsList p (intItems ys) := hx ▸ pl.isList
  refine sum_intListG (I.ok.hd hc) hl' fun h' tk t' hk => ?_
  have e1 : ns = ys.toList.map (·.1) := by
    rw [← nums_intItems, ← hx]
    exact (show numsOf its.toArray.toList = ns from hI.numsOf).symm
  have e2 : preSum (numAt ys) ys.size = ns.sum := by
    rw [preSum_eq, List.take_of_length_le (by simp), e1]
  rw [e2]
  exact ⟨.int ns.sum, H, I.kept hk, ⟨_, rfl⟩, q⟩
end
end L2
namespace L2
open PySem PySem.Spec PyProof.Rows
section
variable {X : Cx} {pins : List (Addr × Obj)} {σ : List (Option V)} {H : Hp} {s : Shared} {h' : Heap}
theorem Inv.turnedL {t' : Nat} {its : List Addr} (I : Inv X pins σ H s) (k : ∀ b o, b ∉ its → s.heap.get? b = some o → h'.get? b = some o) (hf : ∀ b ∈ its, FpOk X pins H b) : Inv X pins σ H { s with heap := h', toks := t' } := by
  have nit : ∀ b u, H b = some u → b ∉ its := fun b u e z => by rw [(hf b z).1] at e; cases e
  refine I.step (g' := s.gens) (d' := s.drawn) (ch := its) (fun b hb => ?_) (fun b o _ _ hc e _ => k b o hc e) (fun b o _ _ hc e _ => ⟨o.slots, k b o hc e⟩) (fun _ _ _ _ n => n)
    (fun b o hc e => ⟨o, k b o hc e⟩) (fun _ _ e => e) (fun _ _ _ e => e) (fun b ps e => ⟨#[], by rw [e]; simp⟩) (fun m hm => ?_) (fun b u e => ?_) I.bare
  · obtain ⟨f0, f1, f2, f3, f4, f5⟩ := hf b hb
    exact ⟨f3, f1, f4, f5⟩
  · obtain ⟨o, es, ep, ho, r⟩ := hm
    exact ⟨o, es, ep, k _ o (fun z => (hf _ z).2.1 rfl) ho, r⟩
  · refine (I.hok b u e).stay (fun c v hc q => k c v ?_ q) (fun _ q => q) fun _ _ q => q
    rcases hc with z | z
    · rw [z]; exact nit b u e
    · exact nit c _ z
end
def Itz (K : PySem.W.Frag) (a b : Addr) : It :=
  ⟨fun i H => ∃ xs ys x y, SqL K H a xs ∧ SqL K H b ys ∧ xs[i]? = some x ∧ ys[i]? = some y,
   fun i H z H' => ∃ t x y, z = .ref t ∧ H t = none ∧ H' = upd H t (.tup [x, y]) ∧ (∀ xs, SqL K H a xs → xs[i]? = some x) ∧ ∀ ys, SqL K H b ys → ys[i]? = some y,
   fun i H => ∃ xs ys, SqL K H a xs ∧ SqL K H b ys ∧ (xs.length ≤ i ∨ ys.length ≤ i)⟩
structure Ap5 (z TI TO i1 i2 : Addr) : Prop where
  a1 : TI ≠ z
  a2 : TO ≠ z
  a3 : i1 ≠ z
  a4 : i2 ≠ z
  a5 : TI ≠ TO
  a6 : TI ≠ i1
  a7 : TI ≠ i2
  a8 : TO ≠ i1
  a9 : TO ≠ i2
  b1 : i1 ≠ i2
def ZSt (z TI TO i1 i2 a b : Addr) (i : Nat) (h : Heap) : Prop := IsZip h z TI TO .none ∧ IsPair h TI (.ref i1) (.ref i2) ∧ (∃ c d, IsPair h TO c d) ∧ h.IsListIter i1 a i ∧ h.IsListIter i2 b i
theorem cls_ne {h : Heap} {a b : Addr} {o o' : Obj} (e : h.get? a = some o) (e' : h.get? b = some o') (n : o.cls ≠ o'.cls) : a ≠ b := fun z => by
  subst z
  rw [e] at e'
  cases e'
  exact n rfl
theorem zap {h : Heap} {z TI TO i1 i2 a b : Addr} {i : Nat} {xs ys : Array Value} (D : Ap5 z TI TO i1 i2) (st : ZSt z TI TO i1 i2 a b i h) (ha : h.IsList a xs) (hb : h.IsList b ys) : ZipApart z TI TO i1 i2 a b := by
  obtain ⟨hz, hTI, ⟨c, d, hTO⟩, ⟨o1, e1, c1, _⟩, ⟨o2, e2, c2, _⟩⟩ := st
  obtain ⟨oa, ea, ca, _⟩ := ha
  obtain ⟨ob, eb, cb, _⟩ := hb
  exact ⟨D.a1, D.a2, D.a3, D.a4, D.a5, D.a6, D.a7, D.a8, D.a9, D.b1,
    cls_ne ea hz (by rw [ca]; show Value.type "list" ≠ Value.type "zip"; decide), cls_ne ea hTO (by rw [ca]; show Value.type "list" ≠ Value.type "tuple"; decide), cls_ne ea e1 (by rw [ca, c1]; decide), cls_ne ea e2 (by rw [ca, c2]; decide),
    cls_ne eb hz (by rw [cb]; show Value.type "list" ≠ Value.type "zip"; decide), cls_ne eb hTO (by rw [cb]; show Value.type "list" ≠ Value.type "tuple"; decide), cls_ne eb e1 (by rw [cb, c1]; decide), cls_ne eb e2 (by rw [cb, c2]; decide)⟩
theorem turn_zip {P : Program} {w : World} {K : PySem.W.Frag} {elts : List Expr} {ek : Nat} {epos : Pos} {z TI TO i1 i2 a b : Addr} (D : Ap5 z TI TO i1 i2) : Turn P w K (.Tuple elts ek epos) (Itz K a b) [z, TI, TO, i1, i2] z (ZSt z TI TO i1 i2 a b) where
  mem := by simp
  obj := fun i h st c hc => by
    obtain ⟨hz, hTI, ⟨p, q, hTO⟩, ⟨o1, e1, c1, d1⟩, ⟨o2, e2, c2, d2⟩⟩ := st
    have hc' : c = z ∨ c = TI ∨ c = TO ∨ c = i1 ∨ c = i2 := by simpa using hc
    rcases hc' with rfl | rfl | rfl | rfl | rfl
    · exact ⟨_, hz, fun v e => by cases e⟩
    · exact ⟨_, hTI, fun v e => by cases e⟩
    · exact ⟨_, hTO, fun v e => by cases e⟩
    · exact ⟨_, e1, fun v e => by rw [d1] at e; cases e⟩
    · exact ⟨_, e2, fun v e => by rw [d2] at e; cases e⟩
  keep := fun i h h' st k => by
    obtain ⟨hz, hTI, ⟨p, q, hTO⟩, l1, l2⟩ := st
    exact ⟨k z (by simp) _ hz, k TI (by simp) _ hTI, ⟨p, q, k TO (by simp) _ hTO⟩, l1.at fun o e => k i1 (by simp) o e, l2.at fun o e => k i2 (by simp) o e⟩
  item := by
    intro X hP hw hK hc i pins s σ H E I hf st hg
    subst hP hw hK
    obtain ⟨xs, ys, x, y, hx, hy, ex, ey⟩ := hg
    obtain ⟨ia, ra, pa, za⟩ := I.list hx
    obtain ⟨ib, rb, pb, zb⟩ := I.list hy
    obtain ⟨u, hu, ru⟩ := ra.get ex
    obtain ⟨v, hv, rv⟩ := rb.get ey
    have A := zap D st pa.isList pb.isList
    have stl := st
    obtain ⟨hz, hTI, ⟨p, q, hTO⟩, l1, l2⟩ := st
    refine wpAny_pyNext_zip_item A hz hTI hTO l1 l2 pa.isList pb.isList (x := u) (y := v) (by simpa using hu) (by simpa using hv) fun h' a1 a2 a3 a4 a5 a6 a7 => ?_
    refine ⟨_, rfl, wpAny_letOwnedTupleGo_zip a1 fun h2 b1 b2 => ?_⟩
    have hT : H s.heap.objs.size = none := I.hok.fresh (Nat.le_refl _)
    have ltz : ∀ c o, s.heap.get? c = some o → s.heap.objs.size ≠ c := fun c o e => Nat.ne_of_gt (Heap.lt_size e)
    have hTI' := a7 _ _ D.a1 D.a5 D.a6 D.a7 hTI
    have Tz : s.heap.objs.size ≠ z := ltz _ _ hz
    have aT : h2.get? s.heap.objs.size = some { cls := .type "tuple", data := .seq #[u, v] } := b2.extBut _ _ Tz a5
    have k2 : ∀ c o, c ≠ z → c ≠ TO → c ≠ i1 → c ≠ i2 → s.heap.get? c = some o → h2.get? c = some o := fun c o n1 n2 n3 n4 e => b2.extBut _ _ n1 (a7 c o n1 n2 n3 n4 e)
    have I1 : Inv X pins σ (upd H s.heap.objs.size (.tup [x, y])) { s with heap := s.heap.push { cls := .type "tuple", data := .seq #[u, v] } } := by
      refine I.laid (t' := s.toks) (fun c o e => Heap.get?_push_of_some _ e) (Nat.le_refl _) ?_
      exact ⟨(by show 2 ≤ sizeLine; decide), [u, v], .cons ru (.cons rv .nil), IsTup.new s.heap _⟩
    have hf1 : ∀ c ∈ [z, TI, TO, i1, i2], FpOk X pins (upd H s.heap.objs.size (.tup [x, y])) c := fun c hc' => by
      obtain ⟨f0, f⟩ := hf c hc'
      refine ⟨?_, f⟩
      have : ∃ o, s.heap.get? c = some o := by
        have hc'' : c = z ∨ c = TI ∨ c = TO ∨ c = i1 ∨ c = i2 := by simpa using hc'
        obtain ⟨o1, e1, _⟩ := l1
        obtain ⟨o2, e2, _⟩ := l2
        rcases hc'' with rfl | rfl | rfl | rfl | rfl
        · exact ⟨_, hz⟩
        · exact ⟨_, hTI⟩
        · exact ⟨_, hTO⟩
        · exact ⟨_, e1⟩
        · exact ⟨_, e2⟩
      obtain ⟨o, e⟩ := this
      rw [upd_ne (ltz c o e).symm]
      exact f0
    have I2 : Inv X pins σ (upd H s.heap.objs.size (.tup [x, y])) { s with heap := h2 } := by
      refine Inv.turnedL (s := { s with heap := s.heap.push { cls := .type "tuple", data := .seq #[u, v] } }) (h' := h2) (t' := s.toks) (its := [z, TI, TO, i1, i2]) I1 (fun c o hc' e => ?_) hf1
      have hc'' : ¬ (c = z ∨ c = TI ∨ c = TO ∨ c = i1 ∨ c = i2) := by simpa using hc'
      by_cases hcs : c = s.heap.objs.size
      · subst hcs
        have e' : (s.heap.push { cls := .type "tuple", data := .seq #[u, v] }).get? s.heap.objs.size = some o := e
        rw [Heap.get?_push_size _ rfl] at e'
        cases e'
        exact aT
      · have hlt : c < (s.heap.push { cls := .type "tuple", data := .seq #[u, v] }).objs.size := Heap.lt_size e
        rw [Heap.size_push] at hlt
        refine k2 c o (fun z' => hc'' (.inl z')) (fun z' => hc'' (.inr (.inr (.inl z')))) (fun z' => hc'' (.inr (.inr (.inr (.inl z'))))) (fun z' => hc'' (.inr (.inr (.inr (.inr z'))))) ?_
        rw [← e]
        exact (Heap.get?_push_ne _ _ _ hcs).symm
    refine ⟨.ref s.heap.objs.size, _, I2, rfl, ⟨_, x, y, rfl, hT, rfl, fun ws hw => by rw [I.list_inj hw hx]; exact ex, fun ws hw => by rw [I.list_inj hw hy]; exact ey⟩, ?_, fun c hc' => (hf1 c hc').1⟩
    exact ⟨b1, b2.extBut _ _ D.a1 hTI', ⟨_, _, b2.extBut _ _ D.a2 a2⟩, a3.extBut b2.extBut D.a3, a4.extBut b2.extBut D.a4⟩
  done := by
    intro X hP hw hK hc i pins s σ H E I hf st hg
    subst hP hw hK
    obtain ⟨xs, ys, hx, hy, hl⟩ := hg
    obtain ⟨ia, ra, pa, za⟩ := I.list hx
    obtain ⟨ib, rb, pb, zb⟩ := I.list hy
    have A := zap D st pa.isList pb.isList
    have hla := ra.length
    have hlb := rb.length
    obtain ⟨hz, hTI, ⟨p, q, hTO⟩, l1, l2⟩ := st
    refine wpAny_pyNext_zip_end (I.ok.hd hc) A hz hTI hTO l1 l2 pa.isList pb.isList (by
      rcases hl with hl | hl
      · exact .inl (by simp; omega)
      · exact .inr (by simp; omega)) fun h' k => ⟨rfl, ?_⟩
    exact I.turnedL (t' := s.toks) (its := [z, TI, TO, i1, i2]) (fun c o hc' e => by
      have hc'' : ¬ (c = z ∨ c = TI ∨ c = TO ∨ c = i1 ∨ c = i2) := by simpa using hc'
      exact k c o (fun z' => hc'' (.inl z')) (fun z' => hc'' (.inr (.inr (.inl z')))) (fun z' => hc'' (.inr (.inr (.inr (.inl z'))))) (fun z' => hc'' (.inr (.inr (.inr (.inr z'))))) e) hf
  self := fun _ _ _ _ _ st h => wpAny_pyIter_zip st.1 h
section
variable {X : Cx}
def iZip (K : PySem.W.Frag) (ta : TA) : TI := fun σ H R => ta σ H fun vs H1 => ∃ a b, vs = [.ref a, .ref b] ∧ (∃ xs, SqL K H1 a xs) ∧ (∃ ys, SqL K H1 b ys) ∧ R (Itz K a b) H1
theorem boot_zip : bootBuiltins "zip" = some (.type "zip") := by decide +kernel
theorem pi_zip {elts : List Expr} {ek : Nat} {epos : Pos} {a b : Expr} {ta : TA} {p pos : Pos} (hg : Gl X "zip") (hm : X.mg "zip" = none) (ha : PA X [a, b] ta) (hs : starEach [a, b] X.env = [(false, eval a X.env), (false, eval b X.env)] := by rfl) (hs2 : starEach [b] X.env = [(false, eval b X.env)] := by rfl) :
    PI X (.Tuple elts ek epos) (.Call (.Name "zip" p) [a, b] [] pos) (iZip X.K ta) := by
  intro pins s σ H R I h
  refine Call_ (ld_blt I hg hm boot_zip (PyProof.Rows.callWith_type1 (thn (ha pos pins s σ H _ I h) fun us s1 ⟨vs, H1, I1, r1, q1⟩ => ?_) (by rw [hs, hs2]) (by rw [hs2]; rfl)))
  obtain ⟨l1, l2, e, ⟨xs, hx⟩, ⟨ys, hy⟩, q⟩ := q1
  subst e
  obtain ⟨u, v, rfl, ru, rv⟩ := vals2 r1
  cases ru
  cases rv
  obtain ⟨ia, ra, pa, za⟩ := I1.list hx
  obtain ⟨ib, rb, pb, zb⟩ := I1.list hy
  refine call_zip_2 pa.isList pb.isList fun h' hz hTI hTO hi1 hi2 hsz hk => wpAny_pyIter_zip hz ?_
  have fr : ∀ b, s1.heap.objs.size ≤ b → FpOk X pins H1 b := fun b hb => I1.fpOk hb (I1.hok.fresh hb)
  refine ⟨_, [s1.heap.objs.size + 4, s1.heap.objs.size + 2, s1.heap.objs.size + 3, s1.heap.objs.size, s1.heap.objs.size + 1], _, _, H1, rfl, I1.kept (t' := s1.toks) hk,
    turn_zip (TI := s1.heap.objs.size + 2) (TO := s1.heap.objs.size + 3) (i1 := s1.heap.objs.size) (i2 := s1.heap.objs.size + 1) (a := l1) (b := l2) ?_, ⟨hz, hTI, ⟨_, _, hTO⟩, hi1, hi2⟩, fun b hb => ?_, q⟩
  · generalize s1.heap.objs.size = n
    have ne : ∀ {x y : Nat}, x ≠ y → (n + x : Nat) ≠ n + y := fun h e => h (Nat.add_left_cancel e)
    exact ⟨ne (by decide), ne (by decide), ne (x := 0) (by decide), ne (by decide), ne (by decide), ne (y := 0) (by decide), ne (by decide), ne (y := 0) (by decide), ne (by decide), ne (x := 0) (by decide)⟩
  · have hb' : b = s1.heap.objs.size + 4 ∨ b = s1.heap.objs.size + 2 ∨ b = s1.heap.objs.size + 3 ∨ b = s1.heap.objs.size ∨ b = s1.heap.objs.size + 1 := by simpa using hb
    rcases hb' with rfl | rfl | rfl | rfl | rfl
    · exact fr _ (Nat.le_add_right _ _)
    · exact fr _ (Nat.le_add_right _ _)
    · exact fr _ (Nat.le_add_right _ _)
    · exact fr _ (Nat.le_refl _)
    · exact fr _ (Nat.le_add_right _ _)
end
end L2
namespace L2
open PySem PySem.Spec PyProof.Rows
def hid (y : Str) : Str := "." ++ y
def blkNs (N xs : List Str) : List Str := N.map (fun y => if y ∈ xs then hid y else y) ++ xs
structure LcScopes (S : Scope) (N : List Str) (sc : Scope) (xs : List Str) : Prop where
  uniq : (sc.names.map (·.1)).Nodup
  kind : sc.kind = .function
  names : ∀ y ∈ sc.names, y.2 = .local → sc.names.lookup y.1 = some .local
  loc : ∀ x ∈ xs, sc.names.lookup x = some .local
  free : ∀ y ∈ sc.names, y.2 = .free → S.names.lookup y.1 = some .cell ∨ S.names.lookup y.1 = some .free
  only : ∀ y ∈ sc.names, y.2 = .local → y.1 ∈ xs ∨ y.1 = ".0"
  noC : ∀ y ∈ sc.names, y.2 ≠ .cell
  ne : ∀ y ∈ sc.names, ∀ x ∈ xs, y.1 ≠ hid x
  dot : ∀ y ∈ N, y ≠ ".0"
  nd : (blkNs N xs).Nodup
def Cx.blks (X : Cx) (N' : List Str) (sc : Scope) (s₀ : Shared) (H₀ : Hp) (fp : List Addr) : Cx :=
  { X with N := N', s₀ := s₀, H₀ := H₀, env := compEnvC sc (clOf X.env.cells sc.names []) s₀.heap.objs.size X.env, outer := X.stack, stack := X.stack, ex := fp, fn := fun _ => false, pn := [], xe := fun _ _ => False }
section
variable {X : Cx} {pins : List (Addr × Obj)} {σ : St} {H : Hp} {s : Shared} {sc : Scope} {xs : List Str} {fp : List Addr}
theorem blkNs_len (N xs : List Str) : (blkNs N xs).length = N.length + xs.length := by simp [blkNs]
theorem blkNs_at {N xs : List Str} {i : Nat} {y : Str} (h : (blkNs N xs)[i]? = some y) (hi : i < N.length) : ∃ y0, N[i]? = some y0 ∧ ((y0 ∈ xs ∧ y = hid y0) ∨ (y0 ∉ xs ∧ y = y0)) := by
  unfold blkNs at h
  rw [List.getElem?_append_left (by simpa using hi), List.getElem?_map] at h
  cases q : N[i]? with
  | none => rw [q] at h; cases h
  | some y0 =>
    rw [q] at h
    refine ⟨y0, rfl, ?_⟩
    have h' : (if y0 ∈ xs then hid y0 else y0) = y := Option.some.inj h
    by_cases e : y0 ∈ xs
    · rw [if_pos e] at h'; exact .inl ⟨e, h'.symm⟩
    · rw [if_neg e] at h'; exact .inr ⟨e, h'.symm⟩
theorem Inv.has_cells (I : Inv X pins σ H s) {S : Scope} (L : LcScopes S X.N sc xs) (hS : X.env.scope = S) : ∀ y ∈ sc.names, y.2 = .free → (X.env.cells.lookup y.1).isSome = true := fun y hy hf => by
  have k : X.env.kindOf y.1 = some .cell ∨ X.env.kindOf y.1 = some .free := by
    show X.env.scope.names.lookup y.1 = _ ∨ X.env.scope.names.lookup y.1 = _
    rw [hS]
    exact L.free y hy hf
  obtain ⟨c, e⟩ := I.ok.has y.1 k
  rw [e]; rfl
theorem Inv.blks (I : Inv X pins σ H s) {S : Scope} (L : LcScopes S X.N sc xs) (hS : X.env.scope = S) (hf : ∀ b ∈ fp, FpOk X pins H b) (hb : ∀ b ∈ fp, b < s.heap.objs.size) {h1 : Heap} {tk : Nat} {m : Str → Option Value} (hn : h1.Ns s.heap.objs.size m)
    (hk : ∀ b o, s.heap.get? b = some o → h1.get? b = some o) : Inv (X.blks (blkNs X.N xs) sc s H fp) [] (σ ++ xs.map fun _ => none) H { s with heap := h1, toks := tk } := by
  have sub : ∀ y c, (clOf X.env.cells sc.names []).lookup y = some c → X.env.cells.lookup y = some c := clOf_sub sc.names [] fun _ _ z => by cases z
  have hasC : ∀ y, (y, NameKind.free) ∈ sc.names → ∃ c, (clOf X.env.cells sc.names []).lookup y = some c := fun y hy =>
    Option.isSome_iff_exists.mp (clOf_has (I.has_cells L hS (y, .free) hy rfl) sc.names [] hy)
  have kinds : ∀ y k, (relabel sc X.env).names.lookup y = some k → (k = .cell ∨ k = .free) → (y, NameKind.free) ∈ sc.names := fun y k e hk => by
    obtain ⟨k0, hm, q⟩ := relab_lookup e
    rcases q with rfl | ⟨_, rfl⟩
    · rcases hk with rfl | rfl
      · exact absurd rfl (L.noC _ hm)
      · exact hm
    · exact hm
  have stk := I.stkSub
  refine ⟨⟨I.ok.mod, L.kind, I.ok.glob, I.ok.blt, Nat.le_refl _, fun y z c e1 e2 => ?_, fun y hy => ?_, fun y c z e => ?_, I.ok.hd, I.ok.frames, .inl rfl, fun b hb' => ?_, I.bs, Nat.le_trans I.ok.bsz I.sz, fun b o e hb' => ?_, fun b hb' z => ?_, I.stack, I.stkFree⟩,
    rfl, I.bare, Un.kept hk, ⟨m, hn, fun i y v e1 e2 e3 => ?_⟩, fun y c e => ?_, I.hok.fresh (Nat.le_refl _), fun y c e => ?_, fun p hp => absurd (show p ∈ ([] : List (Addr × Obj)) from hp) (by simp), I.hok.kept hk, ?_⟩
  · exact I.ok.inj y z c (sub y c e1) (sub z c e2)
  · have hy' : (relabel sc X.env).names.lookup y = some .cell ∨ (relabel sc X.env).names.lookup y = some .free := hy
    rcases hy' with e | e
    · exact hasC y (kinds y _ e (.inl rfl))
    · exact hasC y (kinds y _ e (.inr rfl))
  · exact absurd (show false = true from z) (by decide)
  · obtain ⟨f0, f1, f2, f3, f4, f5⟩ := hf b hb'
    exact ⟨Nat.ne_of_lt (hb b hb'), fun y c e z => f4 y c (sub y c e) z⟩
  · obtain ⟨f0, f1, f2, f3, f4, f5⟩ := hf b hb'
    rcases f3 with z | z
    · exact I.ok.noex b o e z
    · exact absurd (Nat.lt_of_lt_of_le (Heap.lt_size (I.ok.bs b o e).1) z) (Nat.lt_irrefl _)
  · obtain ⟨f0, f1, f2, f3, f4, f5⟩ := hf b hb'
    rcases List.mem_cons.mp (stk b z) with q | q
    · exact f1 q
    · exact f2 q
  · have hl : σ.length = X.N.length := I.len
    have hi : i < X.N.length := by
      by_cases hi : i < σ.length
      · omega
      · rw [List.getElem?_append_right (by omega), List.getElem?_map] at e2
        cases q : xs[i - σ.length]? with
        | none => rw [q] at e2; cases e2
        | some n => rw [q] at e2; cases e2
    rw [List.getElem?_append_left (by omega)] at e2
    obtain ⟨y0, g1, g2⟩ := blkNs_at e1 hi
    have vis : ∃ k, (relabel sc X.env).names.lookup y = some k ∧ (k = .local ∨ k = .cell ∨ k = .free) := by
      rcases e3 with q | q | q
      · exact ⟨_, q, .inl rfl⟩
      · exact ⟨_, q, .inr (.inl rfl)⟩
      · exact ⟨_, q, .inr (.inr rfl)⟩
    obtain ⟨k, q, hk'⟩ := vis
    obtain ⟨k0, hm, q0⟩ := relab_lookup q
    rcases g2 with ⟨g2, rfl⟩ | ⟨g2, rfl⟩
    · exact absurd rfl (L.ne _ hm _ g2)
    · have hkc : k = .cell ∨ k = .free := by
        rcases hk' with rfl | z
        · exfalso
          rcases q0 with rfl | ⟨z, _⟩
          · rcases L.only _ hm rfl with z | z
            · exact g2 z
            · exact L.dot y (List.mem_of_getElem? g1) z
          · cases z
        · exact z
      have hfr : (y, NameKind.free) ∈ sc.names := kinds y k q hkc
      have visX : X.env.scope.names.lookup y = some .cell ∨ X.env.scope.names.lookup y = some .free := by rw [hS]; exact L.free _ hfr rfl
      obtain ⟨m0, _, hl0⟩ := I.loc
      obtain ⟨u, r, lk⟩ := hl0 i y v g1 e2 (.inr visX)
      refine ⟨u, r, ?_⟩
      rcases lk with ⟨z, _⟩ | ⟨_, c, ec, hc⟩
      · exfalso
        have z' : X.env.scope.names.lookup y = some .local := z
        rcases visX with w' | w' <;> rw [z'] at w' <;> cases w'
      · obtain ⟨c', ec'⟩ := hasC y hfr
        have : c' = c := Option.some.inj ((sub y c' ec').symm.trans ec)
        subst this
        refine .inr ⟨?_, c', ec', ?_⟩
        · rcases hkc with rfl | rfl
          · exact .inl q
          · exact .inr q
        · obtain ⟨o, ho, hd⟩ := hc
          exact ⟨o, hk _ _ ho, hd⟩
  · obtain ⟨v, o, ho, hd⟩ := I.cell y c (sub y c e)
    exact ⟨v, o, hk _ _ ho, hd⟩
  · exact I.freeC y c (sub y c e)
  · rw [List.length_append, List.length_map, I.len]
    exact (blkNs_len X.N xs).symm
def PTs (X : Cx) (ifs : List Expr) (t : TT) : Prop :=
  ∀ (pins : List (Addr × Obj)) (s : Shared) (σ : St) (H : Hp) (Q : Bool → Hp → Prop), Inv X pins σ H s → t σ H Q →
    wpAny (model X.prog X.w) X.A (forIn ifs true fun c r => if r = true then do let ok ← isTrue c X.env (eval c X.env); pure (ForInStep.yield ok) else pure (ForInStep.yield r)) (TP X pins σ Q) X.xe s
def tYes : TT := fun _ H Q => Q true H
theorem pts_nil : PTs X [] tYes := fun _ _ _ H _ I h => wpAny_tests_nil ⟨H, I, h⟩
theorem compLoopT {prog : Program} {w : World} {A : Around} {R : Result → Shared → Prop} {elt target iter : Expr} {ifs : List Expr} {scope : Scope} {pos : Pos} {it acc : Value} {env : Env} (I : Nat → Shared → Prop)
    (turn : ∀ n s, I n s → wpAny (model prog w) A (pyNext it) (fun r s₁ => match r with
      | none => R (.ok .next) s₁
      | some v => wpAny (model prog w) A (letOwnedTupleGo target it v) (fun _ s₁' => wpAny (model prog w) A (assign target env v) (fun _ s₂ =>
          wpAny (model prog w) A (forIn ifs true fun c r => if r = true then do let ok ← isTrue c env (eval c env); pure (ForInStep.yield ok) else pure (ForInStep.yield r)) (fun ok s₃ =>
            if ok = true then wpAny (model prog w) A (eval elt env) (fun x s₄ =>
              wpAny (model prog w) A (call (.builtin "list.append") [acc, x]) (fun _ s₅ => ∃ m, m < n ∧ I m s₅) (fun _ _ => False) s₄) (fun _ _ => False) s₃
            else ∃ m, m < n ∧ I m s₃) (fun _ _ => False) s₂) (fun _ _ => False) s₁') (fun _ _ => False) s₁) (fun _ _ => False) s)
    (n : Nat) (h : I n s) : codeAny (model prog w) A (.compLoop (.ListComp elt [⟨target, iter, ifs, 0⟩] scope pos) 0 it acc env) R s := by
  refine codeAny_loop rfl I (fun n s hI => ?_) n h
  show wpAny _ A ((compTurn (.ListComp elt [⟨target, iter, ifs, 0⟩] scope pos) 0 it acc env).onRaise (fun x => do noteFrame x env; theTreesLotGoes x)) _ _ s
  refine wpAny_noted ?_
  rw [compTurn_list]
  refine wpAny_bind (wpAny_standAt (wpAny_bind (wpAny_mono (turn n s hI) (fun r s₁ h₁ => ?_) fun _ _ z => z.elim)))
  cases r with
  | none => exact wpAny_pure h₁
  | some v =>
    refine wpAny_bind (wpAny_mono h₁ (fun _ s₁' h₁' => ?_) fun _ _ z => z.elim)
    refine wpAny_bind (wpAny_mono h₁' (fun _ s₂ h₂ => wpAny_bind (wpAny_mono h₂ (fun ok s₃ h₃ => ?_) fun _ _ z => z.elim)) fun _ _ z => z.elim)
    cases ok with
    | false => exact wpAny_pure ⟨rfl, h₃⟩
    | true =>
      exact wpAny_bind (wpAny_bind (wpAny_mono h₃ (fun x s₄ h₄ => wpAny_bind (wpAny_mono h₄ (fun _ s₅ h₅ => wpAny_pure (wpAny_pure ⟨rfl, h₅⟩)) fun _ _ z => z.elim)) fun _ _ z => z.elim))
def LcW (n : Nat) (J : It) (g : TG) (tt : TT) (te : TE) (σ : St) (H1 : Hp) (Q : VK) : Prop := ∀ D, H1 D = none → ∃ W : Nat → Nat → List V → Hp → Prop, (∃ m, W 0 m [] (upd H1 D (.lst []))) ∧
  ∀ i m ys H', W i m ys H' → H' D = some (.lst ys) ∧ ((J.stop i H' ∧ Q (.ref D) H') ∨ (J.go i H' ∧ ∀ z H2, J.yld i H' z H2 → ∀ os : St, os.length = n → g z (σ ++ os) H2 fun σ' H3 => (∃ os' : St, σ' = σ ++ os' ∧ os'.length = n) ∧ tt σ' H3 fun ok H4 =>
    if ok = true then te σ' H4 fun v H5 => H5 D = some (.lst ys) ∧ ys.length < sizeLine ∧ ∃ m', m' < m ∧ W (i + 1) m' (ys ++ [v]) (upd H5 D (.lst (ys ++ [v]))) else ∃ m', m' < m ∧ W (i + 1) m' ys H4))
def tLcs (n : Nat) (ti : TI) (g : TG) (tt : TT) (te : TE) : TE := fun σ H Q => ti σ H fun J H1 => LcW n J g tt te σ H1 Q
theorem lcs_core {elt iter target : Expr} {ifs : List Expr} {pos : Pos} {g : TG} {tt : TT} {te : TE} {S : Scope} {use : Option (Value → Sem Unit)} {QQ : Value → Shared → Prop} {Q : VK} {it : Addr} {tn : Nat → Heap → Prop} {J : It} (hc : X.calm = true) (L : LcScopes S X.N sc xs) (hS : X.env.scope = S)
    (hg : ∀ (s₀ : Shared) (H₀ : Hp) (fp : List Addr), PG (X.blks (blkNs X.N xs) sc s₀ H₀ fp) target g) (ht : ∀ (s₀ : Shared) (H₀ : Hp) (fp : List Addr), PTs (X.blks (blkNs X.N xs) sc s₀ H₀ fp) ifs tt)
    (he : ∀ (s₀ : Shared) (H₀ : Hp) (fp : List Addr), PE (X.blks (blkNs X.N xs) sc s₀ H₀ fp) elt te)
    (I : Inv X pins σ H s) (T : Turn X.prog X.w X.K target J fp it tn) (st : tn 0 s.heap) (hf : ∀ b ∈ fp, FpOk X pins H b) (h : LcW xs.length J g tt te σ H Q)
    (fin : ∀ (D C : Addr) (H' : Hp) (s' : Shared) (m : Str → Option Value), Inv X pins σ H' s' → Q (.ref D) H' → s'.heap.Ns C m → H' C = none → s.heap.objs.size ≤ C → (∀ p ∈ X.pn ++ pins, p.1 ≠ C) → C ≠ X.env.locals → (∀ y c, X.env.cells.lookup y = some c → c ≠ C) → compPost (model X.prog X.w) X.A X.xe use QQ (.ref D) C (.ok .next) s') :
    wpAny (model X.prog X.w) X.A (newList []) (fun acc s₃ => wpAny (model X.prog X.w) X.A (newFunctionEnv sc X.env.globals (clOf X.env.cells sc.names []) [] X.env.qual none .none (some X.env)) (fun cenv s₄ =>
      codeAny (model X.prog X.w) X.A (.compStart (.ListComp elt [⟨target, iter, ifs, 0⟩] sc pos) 0 (.ref it) acc { cenv with scope := relabel sc X.env }) (compPost (model X.prog X.w) X.A X.xe use QQ acc cenv.locals) s₄) X.xe s₃) X.xe s := by
  refine wpAny_newObj_type ?_
  have hD : H s.heap.objs.size = none := I.hok.fresh (Nat.le_refl _)
  obtain ⟨W, ⟨m0, w0⟩, turn⟩ := h s.heap.objs.size hD
  have I2 : Inv X pins σ (upd H s.heap.objs.size (.lst [])) { s with heap := s.heap.push { cls := .type "list", data := .seq ([] : List Value).toArray } } := I.lnew (t' := s.toks) .nil (Nat.zero_le _)
  have lt0 : ∀ b ∈ fp, b < s.heap.objs.size := fun b hb => by
    obtain ⟨o, e, _⟩ := T.obj 0 s.heap st b hb
    exact Heap.lt_size e
  have hf2 : ∀ b ∈ fp, FpOk X pins (upd H s.heap.objs.size (.lst [])) b := fun b hb => by
    obtain ⟨f0, f⟩ := hf b hb
    exact ⟨by rw [upd_ne (Nat.ne_of_lt (lt0 b hb))]; exact f0, f⟩
  have st2 : tn 0 (s.heap.push { cls := .type "list", data := .seq ([] : List Value).toArray }) := T.keep 0 _ _ st fun b _ o e => Heap.get?_push_of_some _ e
  generalize hs2 : ({ s with heap := s.heap.push { cls := .type "list", data := .seq ([] : List Value).toArray } } : Shared) = s2 at I2
  have eh : s2.heap = s.heap.push { cls := .type "list", data := .seq ([] : List Value).toArray } := by rw [← hs2]
  have lt2 : ∀ b ∈ fp, b < s2.heap.objs.size := fun b hb => by rw [eh, Heap.size_push]; exact Nat.lt_succ_of_lt (lt0 b hb)
  rw [← eh] at st2
  have le2 : s.heap.objs.size ≤ s2.heap.objs.size := by rw [eh, Heap.size_push]; exact Nat.le_succ _
  show wpAny _ _ _ _ _ s2
  refine newEnv_lc ?_
  rw [cellsFrom_none L.noC, pushCells_none L.noC]
  have hns₁ : (s2.heap.push { cls := .type "dict", data := .dict #[] }).Ns s2.heap.objs.size _ := Heap.Ns.new s2.heap (.type "dict")
  have keep : ∀ b o, s2.heap.get? b = some o → (s2.heap.push { cls := .type "dict", data := .dict #[] }).get? b = some o := fun b o e => Heap.get?_push_of_some _ e
  generalize s2.heap.push { cls := .type "dict", data := .dict #[] } = h₁ at hns₁ keep ⊢
  have J0 : Inv (X.blks (blkNs X.N xs) sc s2 (upd H s.heap.objs.size (.lst [])) fp) [] (σ ++ xs.map fun _ => none) (upd H s.heap.objs.size (.lst [])) { s2 with heap := h₁ } := I2.blks (tk := s2.toks) L hS hf2 lt2 hns₁ keep
  have st3 : tn 0 h₁ := T.keep 0 _ _ st2 fun b _ o e => keep b o e
  have stat : ∀ {H' : Hp}, (∀ b ∈ fp, H' b = none) → ∀ b ∈ fp, FpOk (X.blks (blkNs X.N xs) sc s2 (upd H s.heap.objs.size (.lst [])) fp) [] H' b := fun {H'} hn b hb => by
    have o1 := J0.ok.exf b hb
    exact ⟨hn b hb, o1.1, J0.ok.exfs b hb, .inl hb, o1.2, fun p hp => absurd (show p ∈ ([] : List (Addr × Obj)) from hp) (by simp)⟩
  have loop : codeAny (model X.prog X.w) X.A (.compLoop (.ListComp elt [⟨target, iter, ifs, 0⟩] sc pos) 0 (.ref it) (.ref s.heap.objs.size) (compEnvC sc (clOf X.env.cells sc.names []) s2.heap.objs.size X.env))
      (compPost (model X.prog X.w) X.A X.xe use QQ (.ref s.heap.objs.size) s2.heap.objs.size) { s2 with heap := h₁ } := by
    refine compLoopT (fun n s' => ∃ i ys H' os, os.length = xs.length ∧ Inv (X.blks (blkNs X.N xs) sc s2 (upd H s.heap.objs.size (.lst [])) fp) [] (σ ++ os) H' s' ∧ tn i s'.heap ∧ (∀ b ∈ fp, H' b = none) ∧ W i n ys H') ?_ m0 ⟨0, [], _, xs.map fun _ => none, by simp, J0, st3, fun b hb => (hf2 b hb).1, w0⟩
    rintro n s4 ⟨i, ys, H4, os, los, J4, st4, fr4, w4⟩
    obtain ⟨hD4, tt'⟩ := turn i n ys H4 w4
    rcases tt' with ⟨stop, q⟩ | ⟨go, step⟩
    · refine thn (T.done (X.blks (blkNs X.N xs) sc s2 (upd H s.heap.objs.size (.lst [])) fp) rfl rfl rfl hc i [] s4 _ H4 _ J4 (stat fr4) st4 stop) fun r s5 ⟨hr, J5⟩ => ?_
      subst hr
      have I5 : Inv X pins σ H4 s5 := I2.call' J5.os J5.base J5.hok J5.bare fun b hb => by
        obtain ⟨f0, f1, f2, f3, f4, f5⟩ := hf2 b hb
        exact ⟨f3, f1, f4, f5⟩
      obtain ⟨m5, n5, _⟩ := J5.loc
      exact fin _ _ H4 s5 m5 I5 q n5 J5.free le2 (fun p hp z => by
          have := Heap.lt_size (I2.pin p hp).1
          rw [z] at this
          exact Nat.lt_irrefl _ this) (Nat.ne_of_gt I2.lt) (fun y c e z => by
          obtain ⟨v, o, ho, _⟩ := I2.cell y c e
          have := Heap.lt_size ho
          rw [z] at this
          exact Nat.lt_irrefl _ this)
    · refine thn (T.item (X.blks (blkNs X.N xs) sc s2 (upd H s.heap.objs.size (.lst [])) fp) rfl rfl rfl hc i [] s4 _ H4 _ J4 (stat fr4) st4 go) fun r s5 ⟨u, hr, h5⟩ => ?_
      subst hr
      refine thn h5 fun _ s6 ⟨z, H6, J6, r6, y6, st6, fr6⟩ => ?_
      have J6' := J6.pinned (stat fr6) (T.obj _ _ st6)
      refine thn (hg s2 (upd H s.heap.objs.size (.lst [])) fp _ s6 _ H6 z u _ J6' r6 (step z H6 y6 os los)) fun _ s7 ⟨σ7, H7, J7, ⟨os', e7, l7⟩, t7⟩ => ?_
      subst e7
      refine thn (ht s2 (upd H s.heap.objs.size (.lst [])) fp _ s7 _ H7 _ J7 t7) fun ok s8 ⟨H8, J8, t8⟩ => ?_
      cases ok with
      | false =>
        rw [if_neg Bool.false_ne_true] at t8 ⊢
        obtain ⟨m', hm, w8⟩ := t8
        refine ⟨m', hm, i + 1, ys, _, os', l7, J8.unpinned, T.keep _ _ _ st6 fun b hb o e => (J8.pin (b, o) (List.mem_append_right _ (List.mem_append_right _ (mem_pinsAt hb e)))).1, fun b hb => ?_, w8⟩
        obtain ⟨o', e', _⟩ := T.obj _ _ st6 b hb
        exact (J8.pin (b, o') (List.mem_append_right _ (List.mem_append_right _ (mem_pinsAt hb e')))).2.1
      | true =>
        rw [if_pos rfl] at t8 ⊢
        refine thn (he s2 (upd H s.heap.objs.size (.lst [])) fp _ s8 _ H8 _ J8 t8) fun vv s9 ⟨v, H9, J9, r9, hD9, hz9, m', hm, w9⟩ => ?_
        refine thn (mt_append (X := X.blks (blkNs X.N xs) sc s2 (upd H s.heap.objs.size (.lst [])) fp) _ s9 _ H9 (.ref s.heap.objs.size) [v] (.ref s.heap.objs.size) [vv] (fun _ H' => H' = upd H9 s.heap.objs.size (.lst (ys ++ [v]))) J9 rfl (.cons r9 .nil) ⟨_, ys, v, rfl, rfl, hD9, hz9, rfl⟩) fun _ s10 ⟨_, H10, J10, _, e10⟩ => ?_
        subst e10
        refine ⟨m', hm, i + 1, ys ++ [v], _, os', l7, J10.unpinned, T.keep _ _ _ st6 fun b hb o e => (J10.pin (b, o) (List.mem_append_right _ (List.mem_append_right _ (mem_pinsAt hb e)))).1, fun b hb => ?_, w9⟩
        obtain ⟨o', e', _⟩ := T.obj _ _ st6 b hb
        exact (J10.pin (b, o') (List.mem_append_right _ (List.mem_append_right _ (mem_pinsAt hb e')))).2.1
  refine codeAny_compStart_list loop (T.self _ 0 _ _ _ st3 loop)
theorem pe_lcs {elt iter target : Expr} {ifs : List Expr} {pos : Pos} {ti : TI} {g : TG} {tt : TT} {te : TE} {S : Scope} (hc : X.calm = true) (L : LcScopes S X.N sc xs) (hS : X.env.scope = S) (hi : PI X target iter ti)
    (hg : ∀ (s₀ : Shared) (H₀ : Hp) (fp : List Addr), PG (X.blks (blkNs X.N xs) sc s₀ H₀ fp) target g) (ht : ∀ (s₀ : Shared) (H₀ : Hp) (fp : List Addr), PTs (X.blks (blkNs X.N xs) sc s₀ H₀ fp) ifs tt)
    (he : ∀ (s₀ : Shared) (H₀ : Hp) (fp : List Addr), PE (X.blks (blkNs X.N xs) sc s₀ H₀ fp) elt te) (hs : ∀ x, foldedSetIterable iter X.env x = pure x := by intro _; rfl) :
    PE X (.ListComp elt [⟨target, iter, ifs, 0⟩] sc pos) (tLcs xs.length ti g tt te) := by
  intro pins s σ H Q I h
  rw [eval_ListComp]
  refine wpAny_comprehension_free (use := none) rfl hs (closure_of (I.has_cells L hS)) L.kind L.names (thn (hi pins s σ H _ I h) fun xv s₁ h₁ => thn h₁ fun itv s₂ h₂ => ?_)
  obtain ⟨it, fp, tn, J, H2, rfl, I2, T, st2, f2, q2⟩ := h₂
  refine lcs_core hc L hS hg ht he I2 T st2 f2 q2 ?_
  intro D C H' s' m I' q hn hC hle hp hL hcl
  refine ⟨m, hn, fun h' hs' => ?_⟩
  have I3 : Inv X pins σ H' { s' with heap := h' } := I'.turned (t' := s'.toks) (fun b o hb e => (hs'.2 b hb).trans e) hC hL (.inr (Nat.le_trans I2.sz hle)) hcl hp
  exact ⟨.ref D, H', I3, rfl, q⟩
theorem ps_setLcs {elt iter target : Expr} {ifs : List Expr} {i : Nat} {y : Str} {py pos spos : Pos} {ti : TI} {g : TG} {tt : TT} {te : TE} {S : Scope} (hN : X.N.Nodup) (hi : X.N[i]? = some y) (hy : Loc X.env.scope y) (hc : X.calm = true) (L : LcScopes S X.N sc xs) (hS : X.env.scope = S) (hit : PI X target iter ti)
    (hg : ∀ (s₀ : Shared) (H₀ : Hp) (fp : List Addr), PG (X.blks (blkNs X.N xs) sc s₀ H₀ fp) target g) (ht : ∀ (s₀ : Shared) (H₀ : Hp) (fp : List Addr), PTs (X.blks (blkNs X.N xs) sc s₀ H₀ fp) ifs tt)
    (he : ∀ (s₀ : Shared) (H₀ : Hp) (fp : List Addr), PE (X.blks (blkNs X.N xs) sc s₀ H₀ fp) elt te)
    (hsw : swapsWith (.ListComp elt [⟨target, iter, ifs, 0⟩] sc pos) (some (.Name y py)) spos.line X.env = pure true := by rfl) (hs : ∀ x, foldedSetIterable iter X.env x = pure x := by intro _; rfl)
    (hf : X.fn y = true ∨ X.env.scope.names.lookup y = some .local := by first | exact .inl rfl | exact .inr rfl | assumption) :
    PS X (.Assign [.Name y py] (.ListComp elt [⟨target, iter, ifs, 0⟩] sc pos) spos) (tAsg (tLcs xs.length ti g tt te) (gName i)) := by
  intro pins s σ H D I h
  rw [exec_Assign_Name_used _ _ _ _ hsw]
  refine wpAny_bind (wpAny_standAt (wpAny_bind ?_))
  show wpAny _ _ (do let _ ← comprehension (.ListComp elt [⟨target, iter, ifs, 0⟩] sc pos) sc X.env _ (newList []) false (eval iter X.env) (some (assign (.Name y py) X.env))) _ _ s
  refine wpAny_bind (wpAny_mono (wpAny_comprehension_free (use := some (assign (.Name y py) X.env)) (Q := fun _ s' => SP X pins D .next s') rfl hs (closure_of (I.has_cells L hS)) L.kind L.names
    (thn (hit pins s σ H _ I h) fun xv s₁ h₁ => thn h₁ fun itv s₂ h₂ => ?_)) (fun _ s' hq => wpAny_pure (wpAny_pure hq)) fun _ _ e => e)
  obtain ⟨it, fp, tn, J, H2, rfl, I2, T, st2, f2, q2⟩ := h₂
  refine lcs_core (Q := fun v H' => D.nx (σ.set i (some v)) H') hc L hS hg ht he I2 T st2 f2 q2 ?_
  intro D' C H' s' m I' q hn hC hle hp hL hcl
  show wpAny _ _ (assign (.Name y py) X.env (.ref D')) _ _ s'
  refine wpAny_assign_Name (store_ok2 I' hN hi hy (v := .ref D') (u := .ref D') rfl (fun s'' I'' ⟨a, sb, ha⟩ => ?_) hf)
  have nCa : C ≠ a := by
    rcases ha with rfl | ha
    · exact hL
    · exact fun z => hcl y a ha z.symm
  refine ⟨m, hn.sameBut sb nCa, fun h' hs' => ?_⟩
  have I3 : Inv X pins (σ.set i (some (.ref D'))) H' { s'' with heap := h' } := I''.turned (t' := s''.toks) (fun b o hb e => (hs'.2 b hb).trans e) hC hL (.inr (Nat.le_trans I2.sz hle)) hcl hp
  exact ⟨_, H', I3, q⟩
def g2 (K : PySem.W.Frag) (n : Nat) : TG := gTup K 2 (gCons (gName n) (gCons (gName (n + 1)) gNil))
theorem pg_two {S : Scope} {x y : Str} {px py tpos : Pos} {k : Nat} (hc : X.calm = true) (L : LcScopes S X.N sc [x, y]) (s₀ : Shared) (H₀ : Hp) (fp : List Addr) : PG (X.blks (blkNs X.N [x, y]) sc s₀ H₀ fp) (.Tuple [.Name x px, .Name y py] k tpos) (g2 X.K X.N.length) := by
  refine pg_tup (X := X.blks (blkNs X.N [x, y]) sc s₀ H₀ fp) hc (pgs_cons (pg_name L.nd ?_ (.inl (lookup_relabel_local (L.loc x (by simp)))) (.inr (lookup_relabel_local (L.loc x (by simp))))) (pgs_cons (pg_name L.nd ?_ (.inl (lookup_relabel_local (L.loc y (by simp)))) (.inr (lookup_relabel_local (L.loc y (by simp))))) pgs_nil))
  · show (blkNs X.N [x, y])[X.N.length]? = some x
    unfold blkNs
    rw [List.getElem?_append_right (by simp)]
    simp
  · show (blkNs X.N [x, y])[X.N.length + 1]? = some y
    unfold blkNs
    rw [List.getElem?_append_right (by simp)]
    simp
theorem pg_one {S : Scope} {x : Str} {px : Pos} (L : LcScopes S X.N sc [x]) (s₀ : Shared) (H₀ : Hp) (fp : List Addr) : PG (X.blks (blkNs X.N [x]) sc s₀ H₀ fp) (.Name x px) (gName X.N.length) := by
  refine pg_name L.nd ?_ (.inl (lookup_relabel_local (L.loc x (by simp)))) (.inr (lookup_relabel_local (L.loc x (by simp))))
  show (blkNs X.N [x])[X.N.length]? = some x
  unfold blkNs
  rw [List.getElem?_append_right (by simp)]
  simp
end
end L2
namespace L2
open PySem PySem.Spec PyProof.Rows
theorem lcw_one {n : Nat} {J : It} {te : TE} {σ : St} {H1 : Hp} {Q : VK} (hn : σ.length = n) (h : ∀ D, H1 D = none → ∃ W : Nat → Nat → List V → Hp → Prop, (∃ m, W 0 m [] (upd H1 D (.lst []))) ∧
    ∀ i m ys H', W i m ys H' → H' D = some (.lst ys) ∧ ((J.stop i H' ∧ Q (.ref D) H') ∨ (J.go i H' ∧ ∀ z H2, J.yld i H' z H2 → te (σ ++ [some z]) H2 fun v H3 => H3 D = some (.lst ys) ∧ ys.length < sizeLine ∧ ∃ m', m' < m ∧ W (i + 1) m' (ys ++ [v]) (upd H3 D (.lst (ys ++ [v])))))) :
    LcW 1 J (gName n) tYes te σ H1 Q := by
  subst hn
  intro D hD
  obtain ⟨W, w0, st⟩ := h D hD
  refine ⟨W, w0, fun i m ys H' hw => ?_⟩
  obtain ⟨e, d⟩ := st i m ys H' hw
  refine ⟨e, d.imp id fun ⟨go, yl⟩ => ⟨go, fun z H2 hy os los => ?_⟩⟩
  match os, los with
  | [o], _ =>
    have es : (σ ++ [o]).set σ.length (some z) = σ ++ [some z] := by
      rw [List.set_append_right _ _ (Nat.le_refl _), Nat.sub_self]
      rfl
    show (∃ os' : St, (σ ++ [o]).set σ.length (some z) = σ ++ os' ∧ os'.length = 1) ∧ tYes ((σ ++ [o]).set σ.length (some z)) H2 _
    rw [es]
    exact ⟨⟨[some z], rfl, rfl⟩, iteT (B := ∃ m', m' < m ∧ W (i + 1) m' ys H2) (yl z H2 hy)⟩
section
variable {X : Cx} {sc : Scope} {x : Str}
theorem pe_lc1 {elt iter : Expr} {px pos : Pos} {ti : TI} {te : TE} {S : Scope} (hc : X.calm = true) (L : LcScopes S X.N sc [x]) (hS : X.env.scope = S) (hi : PI X (.Name x px) iter ti)
    (he : ∀ (s₀ : Shared) (H₀ : Hp) (fp : List Addr), PE (X.blks (blkNs X.N [x]) sc s₀ H₀ fp) elt te) (hs : ∀ x, foldedSetIterable iter X.env x = pure x := by intro _; rfl) :
    PE X (.ListComp elt [⟨.Name x px, iter, [], 0⟩] sc pos) (tLc ti te) := by
  intro pins s σ H Q I h
  rw [eval_ListComp]
  refine wpAny_comprehension_free (use := none) rfl hs (closure_of (I.has_cells L hS)) L.kind L.names (thn (hi pins s σ H _ I h) fun xv s₁ h₁ => thn h₁ fun itv s₂ h₂ => ?_)
  obtain ⟨it, fp, tn, J, H2, rfl, I2, T, st2, f2, q2⟩ := h₂
  refine lcs_core hc L hS (pg_one L) (fun _ _ _ => pts_nil) he I2 T st2 f2 (lcw_one I2.len q2) ?_
  intro D C H' s' m I' q hn hC hle hp hL hcl
  refine ⟨m, hn, fun h' hs' => ?_⟩
  have I3 : Inv X pins σ H' { s' with heap := h' } := I'.turned (t' := s'.toks) (fun b o hb e => (hs'.2 b hb).trans e) hC hL (.inr (Nat.le_trans I2.sz hle)) hcl hp
  exact ⟨.ref D, H', I3, rfl, q⟩
end
end L2
namespace L2
open PySem PySem.Spec PyProof.Rows
section
variable {X : Cx} {sc : Scope} {x : Str}
theorem ps_setLc1 {elt iter : Expr} {i : Nat} {y : Str} {px py pos spos : Pos} {ti : TI} {te : TE} {S : Scope} (hN : X.N.Nodup) (hi : X.N[i]? = some y) (hy : Loc X.env.scope y) (hc : X.calm = true) (L : LcScopes S X.N sc [x]) (hS : X.env.scope = S) (hit : PI X (.Name x px) iter ti)
    (he : ∀ (s₀ : Shared) (H₀ : Hp) (fp : List Addr), PE (X.blks (blkNs X.N [x]) sc s₀ H₀ fp) elt te)
    (hsw : swapsWith (.ListComp elt [⟨.Name x px, iter, [], 0⟩] sc pos) (some (.Name y py)) spos.line X.env = pure true := by rfl) (hs : ∀ x, foldedSetIterable iter X.env x = pure x := by intro _; rfl)
    (hf : X.fn y = true ∨ X.env.scope.names.lookup y = some .local := by first | exact .inl rfl | exact .inr rfl | assumption) :
    PS X (.Assign [.Name y py] (.ListComp elt [⟨.Name x px, iter, [], 0⟩] sc pos) spos) (tAsg (tLc ti te) (gName i)) := by
  intro pins s σ H D I h
  rw [exec_Assign_Name_used _ _ _ _ hsw]
  refine wpAny_bind (wpAny_standAt (wpAny_bind ?_))
  show wpAny _ _ (do let _ ← comprehension (.ListComp elt [⟨.Name x px, iter, [], 0⟩] sc pos) sc X.env _ (newList []) false (eval iter X.env) (some (assign (.Name y py) X.env))) _ _ s
  refine wpAny_bind (wpAny_mono (wpAny_comprehension_free (use := some (assign (.Name y py) X.env)) (Q := fun _ s' => SP X pins D .next s') rfl hs (closure_of (I.has_cells L hS)) L.kind L.names
    (thn (hit pins s σ H _ I h) fun xv s₁ h₁ => thn h₁ fun itv s₂ h₂ => ?_)) (fun _ s' hq => wpAny_pure (wpAny_pure hq)) fun _ _ e => e)
  obtain ⟨it, fp, tn, J, H2, rfl, I2, T, st2, f2, q2⟩ := h₂
  refine lcs_core (Q := fun v H' => D.nx (σ.set i (some v)) H') hc L hS (pg_one L) (fun _ _ _ => pts_nil) he I2 T st2 f2 (lcw_one (Q := fun v H' => D.nx (σ.set i (some v)) H') I2.len q2) ?_
  intro D' C H' s' m I' q hn hC hle hp hL hcl
  show wpAny _ _ (assign (.Name y py) X.env (.ref D')) _ _ s'
  refine wpAny_assign_Name (store_ok2 I' hN hi hy (v := .ref D') (u := .ref D') rfl (fun s'' I'' ⟨a, sb, ha⟩ => ?_) hf)
  have nCa : C ≠ a := by
    rcases ha with rfl | ha
    · exact hL
    · exact fun z => hcl y a ha z.symm
  refine ⟨m, hn.sameBut sb nCa, fun h' hs' => ?_⟩
  have I3 : Inv X pins (σ.set i (some (.ref D'))) H' { s'' with heap := h' } := I''.turned (t' := s''.toks) (fun b o hb e => (hs'.2 b hb).trans e) hC hL (.inr (Nat.le_trans I2.sz hle)) hcl hp
  exact ⟨_, H', I3, q⟩
end
end L2
namespace M11
abbrev G (a b : Int) : Int := (Int.gcd a b : Nat)
end M11
namespace M11
end M11
namespace L2
open PySem PySem.Spec PyProof.Rows
section
variable {X : Cx}
end
end L2
namespace L2
open PySem PySem.Spec PyProof.Rows
def Ite (K : PySem.W.Frag) (a : Addr) : It :=
  ⟨fun i H => ∃ xs x, SqL K H a xs ∧ xs[i]? = some x,
   fun i H z H' => ∃ t x, z = .ref t ∧ H t = none ∧ H' = upd H t (.tup [.int (i : Int), x]) ∧ ∀ xs, SqL K H a xs → xs[i]? = some x,
   fun i H => ∃ xs, SqL K H a xs ∧ xs.length ≤ i⟩
def ESt (e it a : Addr) (i : Nat) (h : Heap) : Prop := (∃ old, IsEnum h e it (i : Int) old) ∧ h.IsListIter it a i
theorem turn_enum {P : Program} {w : World} {K : PySem.W.Frag} {elts : List Expr} {ek : Nat} {epos : Pos} {e it a : Addr} (ne : e ≠ it) : Turn P w K (.Tuple elts ek epos) (Ite K a) [e, it] e (ESt e it a) where
  mem := by simp
  obj := fun i h st c hc => by
    obtain ⟨⟨old, he⟩, ⟨o1, e1, c1, d1⟩⟩ := st
    have hc' : c = e ∨ c = it := by simpa using hc
    rcases hc' with rfl | rfl
    · exact ⟨_, he, fun v e => by cases e⟩
    · exact ⟨_, e1, fun v e => by rw [d1] at e; cases e⟩
  keep := fun i h h' st k => by
    obtain ⟨⟨old, he⟩, l1⟩ := st
    exact ⟨⟨old, k e (by simp) _ he⟩, l1.at fun o q => k it (by simp) o q⟩
  item := by
    intro X hP hw hK hc i pins s σ H E I hf st hg
    subst hP hw hK
    obtain ⟨xs, x, hx, ex⟩ := hg
    obtain ⟨ia, ra, pa, za⟩ := I.list hx
    obtain ⟨u, hu, ru⟩ := ra.get ex
    obtain ⟨⟨old, he⟩, l1⟩ := st
    refine wpAny_pyNext_enum_item he l1 pa.isList (x := u) (by simpa using hu) ne fun h' a1 a2 a3 a4 a5 => ?_
    refine ⟨_, rfl, wpAny_letOwnedTupleGo_enum a1 fun h2 b1 b2 => ?_⟩
    have hT : H s.heap.objs.size = none := I.hok.fresh (Nat.le_refl _)
    have ltz : ∀ c o, s.heap.get? c = some o → s.heap.objs.size ≠ c := fun c o q => Nat.ne_of_gt (Heap.lt_size q)
    have Te : s.heap.objs.size ≠ e := ltz _ _ he
    have aT : h2.get? s.heap.objs.size = some { cls := .type "tuple", data := .seq #[.int i s.toks, u] } := b2.extBut _ _ Te a3
    have k2 : ∀ c o, c ≠ e → c ≠ it → s.heap.get? c = some o → h2.get? c = some o := fun c o n1 n2 q => b2.extBut _ _ n1 (a5 c o n1 n2 q)
    have I1 : Inv X pins σ (upd H s.heap.objs.size (.tup [.int (i : Int), x])) { s with heap := s.heap.push { cls := .type "tuple", data := .seq #[.int i s.toks, u] }, toks := s.toks + 1 } := by
      refine I.laid (t' := s.toks + 1) (fun c o q => Heap.get?_push_of_some _ q) (Nat.le_refl _) ?_
      exact ⟨(by show 2 ≤ sizeLine; decide), [.int i s.toks, u], .cons ⟨_, rfl⟩ (.cons ru .nil), IsTup.new s.heap _⟩
    have hf1 : ∀ c ∈ [e, it], FpOk X pins (upd H s.heap.objs.size (.tup [.int (i : Int), x])) c := fun c hc' => by
      obtain ⟨f0, f⟩ := hf c hc'
      refine ⟨?_, f⟩
      have : ∃ o, s.heap.get? c = some o := by
        have hc'' : c = e ∨ c = it := by simpa using hc'
        obtain ⟨o1, e1, _⟩ := l1
        rcases hc'' with rfl | rfl
        · exact ⟨_, he⟩
        · exact ⟨_, e1⟩
      obtain ⟨o, q⟩ := this
      rw [upd_ne (ltz c o q).symm]
      exact f0
    have I2 : Inv X pins σ (upd H s.heap.objs.size (.tup [.int (i : Int), x])) { s with heap := h2, toks := s.toks + 1 } := by
      refine Inv.turnedL (s := { s with heap := s.heap.push { cls := .type "tuple", data := .seq #[.int i s.toks, u] }, toks := s.toks + 1 }) (h' := h2) (t' := s.toks + 1) (its := [e, it]) I1 (fun c o hc' q => ?_) hf1
      have hc'' : ¬ (c = e ∨ c = it) := by simpa using hc'
      by_cases hcs : c = s.heap.objs.size
      · subst hcs
        have e' : (s.heap.push { cls := .type "tuple", data := .seq #[.int i s.toks, u] }).get? s.heap.objs.size = some o := q
        rw [Heap.get?_push_size _ rfl] at e'
        cases e'
        exact aT
      · refine k2 c o (fun z' => hc'' (.inl z')) (fun z' => hc'' (.inr z')) ?_
        rw [← q]
        exact (Heap.get?_push_ne _ _ _ hcs).symm
    refine ⟨.ref s.heap.objs.size, _, I2, rfl, ⟨_, x, rfl, hT, rfl, fun ws hw => by rw [I.list_inj hw hx]; exact ex⟩, ?_, fun c hc' => (hf1 c hc').1⟩
    exact ⟨⟨u, b1⟩, a2.extBut b2.extBut ne.symm⟩
  done := by
    intro X hP hw hK hc i pins s σ H E I hf st hg
    subst hP hw hK
    obtain ⟨xs, hx, hl⟩ := hg
    obtain ⟨ia, ra, pa, za⟩ := I.list hx
    have hla := ra.length
    obtain ⟨⟨old, he⟩, l1⟩ := st
    refine wpAny_pyNext_enum_end (I.ok.hd hc) he l1 pa.isList (by simp; omega) fun h' k => ⟨rfl, ?_⟩
    exact I.turnedL (t' := s.toks) (its := [e, it]) (fun c o hc' q => by
      have hc'' : ¬ (c = e ∨ c = it) := by simpa using hc'
      exact k c o (fun z' => hc'' (.inr z')) q) hf
  self := fun _ _ _ _ _ st h => by
    obtain ⟨⟨old, he⟩, _⟩ := st
    exact wpAny_pyIter_enum he h
section
variable {X : Cx}
def iEnum (K : PySem.W.Frag) (ta : TA) : TI := fun σ H R => ta σ H fun vs H1 => ∃ a, vs = [.ref a] ∧ (∃ xs, SqL K H1 a xs) ∧ R (Ite K a) H1
theorem pi_enum {elts : List Expr} {ek : Nat} {epos : Pos} {a : Expr} {ta : TA} {p pos : Pos} (hg : Gl X "enumerate") (hm : X.mg "enumerate" = none) (ha : PA X [a] ta) (hs : starEach [a] X.env = [(false, eval a X.env)] := by rfl) :
    PI X (.Tuple elts ek epos) (.Call (.Name "enumerate" p) [a] [] pos) (iEnum X.K ta) := by
  intro pins s σ H R I h
  refine Call_ (ld_blt I hg hm boot_enumerate (PyProof.Rows.callWith_type1 (thn (ha pos pins s σ H _ I h) fun us s1 ⟨vs, H1, I1, r1, q1⟩ => ?_) hs rfl))
  obtain ⟨l1, e, ⟨xs, hx⟩, q⟩ := q1
  subst e
  obtain ⟨u, rfl, ru⟩ := vals1 r1
  cases ru
  obtain ⟨ia, ra, pa, za⟩ := I1.list hx
  refine call_enumerate_list pa.isList fun h' he hi hsz hk => wpAny_pyIter_enum he ?_
  have fr : ∀ b, s1.heap.objs.size ≤ b → FpOk X pins H1 b := fun b hb => I1.fpOk hb (I1.hok.fresh hb)
  refine ⟨_, [s1.heap.objs.size + 1, s1.heap.objs.size], _, _, H1, rfl, I1.kept (t' := s1.toks) hk,
    turn_enum (it := s1.heap.objs.size) (a := l1) (fun z => by simp at z), ⟨⟨_, he⟩, hi⟩, fun b hb => ?_, q⟩
  have hb' : b = s1.heap.objs.size + 1 ∨ b = s1.heap.objs.size := by simpa using hb
  rcases hb' with rfl | rfl
  · exact fr _ (Nat.le_add_right _ _)
  · exact fr _ (Nat.le_refl _)
theorem for_enum {K : PySem.W.Frag} {a : Addr} {xs : List V} {g : TG} {tb : TS} {D : Ends} {σ : St} {H : Hp} (Pv : Nat → St → Hp → Prop) (h0 : Pv 0 σ H) (hl : ∀ i σ H, i ≤ xs.length → Pv i σ H → SqL K H a xs)
    (hs : ∀ (i : Nat) (x : V) (t : Addr) σ H, xs[i]? = some x → Pv i σ H → H t = none → g (.ref t) σ (upd H t (.tup [.int (i : Int), x])) fun σ2 H2 => tb { D with nx := Pv (i + 1), ct := Pv (i + 1), bk := D.nx } σ2 H2) (hd : ∀ σ H, Pv xs.length σ H → D.nx σ H) :
    ∃ W : Nat → Nat → St → Hp → Prop, (∃ m, W 0 m σ H) ∧ ∀ i m σ H, W i m σ H →
      ((Ite K a).stop i H ∧ D.nx σ H) ∨ ((Ite K a).go i H ∧ ∃ N : St → Hp → Prop, (∀ σ' H', N σ' H' → ∃ m', m' < m ∧ W (i + 1) m' σ' H') ∧ ∀ x H', (Ite K a).yld i H x H' → g x σ H' fun σ2 H2 => tb { D with nx := N, ct := N, bk := D.nx } σ2 H2) := by
  refine ⟨fun i m σ H => m = xs.length - i ∧ i ≤ xs.length ∧ Pv i σ H, ⟨xs.length, by simp, Nat.zero_le _, h0⟩, ?_⟩
  rintro i m σ H ⟨rfl, hi, p⟩
  have q1 := hl i σ H hi p
  by_cases lt : i < xs.length
  · refine .inr ⟨⟨xs, xs[i], q1, List.getElem?_eq_getElem lt⟩, Pv (i + 1), fun σ' H' p' => ⟨xs.length - (i + 1), by omega, rfl, lt, p'⟩, fun x H' y => ?_⟩
    obtain ⟨t, x1, rfl, ht, rfl, g1⟩ := y
    exact hs i x1 t σ H (g1 xs q1) p ht
  · have ei : i = xs.length := by omega
    subst ei
    exact .inl ⟨⟨xs, q1, Nat.le_refl _⟩, hd σ H p⟩
end
end L2
namespace L2
open PySem PySem.Spec PyProof.Rows
section
variable {X : Cx}
theorem call_maxL (hc : X.calm = true) : CallR X (.builtin "max") (fun xs H Q => ∃ (p : Addr) (ns : List Int), xs = [.ref p] ∧ SqL X.K H p (ns.map V.int) ∧ 0 < ns.length ∧ ∀ m, m ∈ ns → (∀ a ∈ ns, a ≤ m) → Q (.int m) H) := by
  intro pins s σ H xs us Q I r h
  obtain ⟨p, ns, rfl, hq, hne, q⟩ := h
  obtain ⟨u, rfl, rx⟩ := vals1 r
  cases rx
  obtain ⟨its, rv, pl, hz⟩ := I.list hq
  have hI : IntsAre its ns := intsAre_of rv
  obtain ⟨ys, hx⟩ := hI.allInts.items
  have hl' : s.heap.IsList p (intItems ys) := hx ▸ pl.isList
  have e1 : ns = ys.toList.map (·.1) := by
    rw [← nums_intItems, ← hx]
    exact (show numsOf its.toArray.toList = ns from hI.numsOf).symm
  have ly : 0 < ys.size := by
    rw [e1, List.length_map, Array.length_toList] at hne
    exact hne
  refine max_intList (I.ok.hd hc) hl' ly fun v h' tk hv hk => ?_
  obtain ⟨t, rfl⟩ := intItems_at hv
  obtain ⟨h1, h2⟩ := argBest_gt (numAt ys) (ys.size - 1)
  refine ⟨.int _, H, I.kept hk, ⟨_, rfl⟩, q _ ?_ fun a ha => ?_⟩
  · rw [e1, numAt_eq]; exact getD_mem (by rw [List.length_map, Array.length_toList]; omega)
  · rw [e1] at ha
    obtain ⟨j, hj, rfl⟩ := mem_getD ha
    rw [List.length_map, Array.length_toList] at hj
    rw [← numAt_eq]; exact h2 j (by omega)
theorem ins_call {prog : Program} {w : World} {A : Around} {E : Value → Shared → Prop} {s : Shared} {Q : Value → Shared → Prop} {l : Addr} {arr : Array Value} {n : Nat} {k : Int} {t1 : Tok} {u2 : Value} (hc0 : ¬(!Builtin.List.listFitsIndex k) = true) (hs1 : arr.size ≤ sizeLine)
    (e : s.heap.get? l = some { cls := .type "list", data := .seq arr n }) (h : Q .none { s with heap := s.heap.update l (Obj.mapSeq fun xs => have k := if k < 0 then (k + (xs.size : Int)).toNat else min k.toNat xs.size; (xs.extract 0 k).push u2 ++ xs.extract k), toks := s.toks }) :
    wpAny (model prog w) A (call (.builtin "list.insert") [.ref l, .int k t1, u2]) Q E s :=
  call_meets F.slot_list_insert ⟨_, e, rfl⟩ F.entry_list_insert (F.args_list_insert_3 _ _ _) (PySem.AutoSeq1.list_insert_list_int_val_1 l arr n k t1 u2 hc0 hs1) ⟨e, h⟩
def rInsert : V → List V → Hp → VK → Prop := fun x vs H Q => ∃ (l : Addr) (xs : List V) (k : Nat) (y : V), x = .ref l ∧ vs = [.int (k : Int), y] ∧ H l = some (.lst xs) ∧ k ≤ xs.length ∧ xs.length < sizeLine ∧ Q .non (upd H l (.lst (xs.take k ++ y :: xs.drop k)))
theorem mt_insert : MtM X "list.insert" rInsert := by
  intro pins s σ H x vs v us Q I rx rv h
  obtain ⟨l, xs, k, y, rfl, rfl, hH, hk, hz, q⟩ := h
  cases rx
  obtain ⟨u1, u2, rfl, ⟨t1, rfl⟩, r2⟩ := rv.two
  obtain ⟨z, its, n, r, hl, e⟩ := I.lstM hH
  have hn := line63
  have hf : Builtin.List.listFitsIndex (k : Int) = true := by
    unfold Builtin.List.listFitsIndex
    rw [Bool.and_eq_true, decide_eq_true_iff, decide_eq_true_iff]
    omega
  have hc0 : ¬(!Builtin.List.listFitsIndex (k : Int)) = true := by rw [hf]; decide
  have hs1 : its.toArray.size ≤ sizeLine := by rw [List.size_toArray]; omega
  refine ins_call hc0 hs1 e ?_
  refine ⟨.non, _, I.lset (its' := its.take k ++ u2 :: its.drop k) hH e ?_ ((r.take k).append (.cons r2 (r.drop k))) ?_, rfl, q⟩
  · have e1 : (if ((k : Nat) : Int) < 0 then (((k : Nat) : Int) + (its.toArray.size : Int)).toNat else min ((k : Nat) : Int).toNat its.toArray.size) = k := by
      rw [if_neg (by omega), Int.toNat_natCast, List.size_toArray]
      omega
    dsimp only
    rw [e1]
    apply Array.ext'
    simp
    exact List.take_of_length_le (by rw [List.length_drop]; exact Nat.le_refl _)
  · rw [List.length_append, List.length_cons, List.length_take, List.length_drop]
    omega
end
end L2
namespace L2
open PySem PySem.Spec PyProof.Rows
noncomputable def hitD (h : Heap) (d : PyData) (u : Value) : Bool := @decide (∃ e as, Reads h u e as ∧ e.canLay0 = true ∧ PyData.eqv e d = true) (Classical.propDecidable _)
theorem hitD_of {h : Heap} {d e : PyData} {u : Value} {as : List Addr} (r : Reads h u e as) (l : e.canLay0 = true) : hitD h d u = PyData.eqv e d := by
  unfold hitD
  cases q : PyData.eqv e d with
  | true => exact @decide_eq_true _ (Classical.propDecidable _) ⟨e, as, r, l, q⟩
  | false =>
    refine @decide_eq_false _ (Classical.propDecidable _) fun ⟨e', as', r', l', q'⟩ => ?_
    rw [PySem.SeqAt.Reads.unique e e' u as as' l r r', q'] at q
    cases q
theorem hits_get {h : Heap} {d : PyData} : ∀ {us : List Value} {ds : List PyData} {as : List Addr}, ReadsAll h us ds as → PyData.canLayAll0 ds = true → us.length = ds.length ∧ ∀ (i : Nat) (h1 : i < us.length) (h2 : i < ds.length), hitD h d us[i] = PyData.eqv ds[i] d ∧ ∃ bs, Reads h us[i] ds[i] bs ∧ ds[i].canLay0 = true
  | _, _, _, .nil, _ => ⟨rfl, fun i h1 => absurd h1 (by simp)⟩
  | _, _, _, .cons r rs, l => by
    simp only [PyData.canLayAll0, Bool.and_eq_true] at l
    obtain ⟨e, g⟩ := hits_get (d := d) rs l.2
    refine ⟨by rw [List.length_cons, List.length_cons, e], fun i h1 h2 => ?_⟩
    cases i with
    | zero => exact ⟨hitD_of r l.1, _, r, l.1⟩
    | succ i => exact g i (by simpa using h1) (by simpa using h2)
theorem any_hit {h : Heap} {d : PyData} : ∀ {us : List Value} {ds : List PyData} {as : List Addr}, ReadsAll h us ds as → PyData.canLayAll0 ds = true → us.any (hitD h d) = ds.any fun e => PyData.eqv e d
  | _, _, _, .nil, _ => rfl
  | _, _, _, .cons r rs, l => by
    simp only [PyData.canLayAll0, Bool.and_eq_true] at l
    rw [List.any_cons, List.any_cons, hitD_of r l.1, any_hit rs l.2]
theorem hits_eqAt {A : Around} {s : Shared} {x : Value} {d : PyData} {bs : List Addr} (rx : Reads s.heap x d bs) (lx : d.canLay0 = true) (hu : A.units + d.depth < cLine) {us : List Value} {ds : List PyData} {as : List Addr} (r : ReadsAll s.heap us ds as) (l : PyData.canLayAll0 ds = true) :
    ∀ u ∈ us, SeqAt.EqAt A s u x (hitD s.heap d u) := by
  intro u hm
  obtain ⟨i, hi, rfl⟩ := List.getElem_of_mem hm
  obtain ⟨e, g⟩ := hits_get (d := d) r l
  obtain ⟨g1, cs, g2, g3⟩ := g i hi (by omega)
  rw [g1]
  exact PySem.SeqAt.eqAt_reads _ _ A s _ _ _ _ g2 rx g3 lx (Nat.lt_of_le_of_lt (Nat.add_le_add_left (Nat.min_le_right _ _) _) hu)
section
variable {X : Cx}
def rNotInD (K : PySem.W.Frag) : R2 := fun x y H Q => ∃ p xs ds d, y = .ref p ∧ SqL K H p xs ∧ DAs K any H xs ds ∧ DA K any H x d ∧ (PyData.canLayAll0 ds = true ∧ d.canLay0 = true ∧ d.depth ≤ 32) ∧ Q (.bl (!ds.any fun e => PyData.eqv e d)) H
theorem op_notInD (hu : X.A.units + 64 < cLine) : OpR X (compareOp .NotIn) (rNotInD X.K) := by
  intro pins s σ H x y v u Q I rx ry h
  obtain ⟨p, xs, ds, d, rfl, hq, hs, hd, ⟨l1, l2, l3⟩, q⟩ := h
  cases ry
  obtain ⟨its, r, pl, hz⟩ := I.list hq
  obtain ⟨as, p1⟩ := hs.reads I r
  obtain ⟨bs, p2⟩ := hd.reads I rx
  refine SeqAt.notIn_listAt (hitD s.heap d) pl.isList (fun w hw => hits_eqAt p2 l2 (by rw [Around.in1_units]; omega) p1 l1 w (by simpa using hw)) ⟨.bl _, H, I, rfl, ?_⟩
  rw [show its.toArray.any (hitD s.heap d) = its.any (hitD s.heap d) by simp, any_hit p1 l1]
  exact q
def rIndexD (K : PySem.W.Frag) : V → List V → Hp → VK → Prop := fun x vs H Q => ∃ l xs y ds d, x = .ref l ∧ vs = [y] ∧ H l = some (.lst xs) ∧ DAs K any H xs ds ∧ DA K any H y d ∧ (PyData.canLayAll0 ds = true ∧ d.canLay0 = true ∧ d.depth ≤ 32) ∧ (ds.findIdx fun e => PyData.eqv e d) < ds.length ∧
  Q (.int ((ds.findIdx fun e => PyData.eqv e d : Nat) : Int)) H
theorem mt_indexD (hu : X.A.units + 64 < cLine) : MtM X "list.index" (rIndexD X.K) := by
  intro pins s σ H x vs v us Q I rx rv h
  obtain ⟨l, xs, y, ds, d, rfl, rfl, hH, hs, hd, ⟨l1, l2, l3⟩, hj, q⟩ := h
  cases rx
  obtain ⟨u, rfl, ru⟩ := rv.one
  obtain ⟨z, its, n, r, hl, e⟩ := I.lstM hH
  obtain ⟨as, p1⟩ := hs.reads I r
  obtain ⟨bs, p2⟩ := hd.reads I ru
  obtain ⟨g0, g⟩ := hits_get (d := d) p1 l1
  have hn := line63
  refine call_meets F.slot_list_index ⟨_, e, rfl⟩ F.entry_list_index (F.args_list_index_2 _ _) (SeqAt.list_indexAt l its.toArray n _ _ u (hitD s.heap d) (ds.findIdx fun e => PyData.eqv e d) (by simpa [g0] using hj) (by omega) ?_ ?_) ⟨e, fun w hw => hits_eqAt p2 l2 (by rw [Around.in1_units]; omega) p1 l1 w (by simpa using hw), ?_⟩
  · have := (g (ds.findIdx fun e => PyData.eqv e d) (by omega) hj).1
    show hitD s.heap d (its[ds.findIdx fun e => PyData.eqv e d]'(by omega)) = true
    rw [this]
    exact List.findIdx_getElem (w := hj)
  · intro m hm lt
    have hm' : m < its.length := by simpa using hm
    have := (g m hm' (by omega)).1
    show hitD s.heap d (its[m]'hm') = false
    rw [this]
    have := List.not_of_lt_findIdx lt
    simpa using this
  · exact ⟨.int _, H, I.tok _, ⟨_, rfl⟩, q⟩
end
end L2
namespace L2
open PySem PySem.Spec PyProof.Rows
section
variable {X : Cx}
end
end L2
namespace L2
open PySem PySem.Spec PyProof.Rows
section
variable {X : Cx}
def rStrD (K : PySem.W.Frag) : List V → Hp → VK → Prop := fun xs H Q => ∃ a d, xs = [.ref a] ∧ DA K any H (.ref a) d ∧ (d.showable = true ∧ d.hasDict = false ∧ d.depth ≤ 32 ∧ d.shown.length ≤ sizeLine) ∧ Q (.str d.shown) H
theorem call_strD (hg : X.A.guards = some []) (hu : X.A.units + 64 < cLine) : CallR X (.type "str") (rStrD X.K) := by
  intro pins s σ H xs us Q I r h
  obtain ⟨a, d, rfl, hd, ⟨h1, h2, h3, h4⟩, q⟩ := h
  obtain ⟨u, rfl, rx⟩ := vals1 r
  obtain ⟨as, p1⟩ := hd.reads I rx
  cases rx
  exact str_of_reads p1 h1 (fun z => by rw [h2] at z; cases z) hg (by omega) (fun _ _ e => e) (fun h' u tk hk => ⟨.str _, H, I.kept hk, ⟨_, rfl⟩, q⟩) h4
end
theorem int_shows {z : Int} (h : z.natAbs < 10 ^ 30) : (PyData.int z).showable = true ∧ (PyData.int z).intsShort 31 = true ∧ (PyData.int z).weight ≤ 101 := by
  have lg : z.natAbs.log2 < 100 := by
    by_cases e : z.natAbs = 0
    · rw [e]; decide
    · exact (Nat.log2_lt e).mpr (Nat.lt_of_lt_of_le h (by decide))
  refine ⟨?_, ?_, ?_⟩
  · simp only [PyData.showable, decide_eq_true_iff]
    omega
  · simp only [PyData.intsShort, decide_eq_true_iff]
    have e := int_text_length_le10 (k := 30) (by decide) h
    show (Str.ofString (toString z)).length ≤ 31
    rw [PySem.ofString_length]
    exact e
  · simp only [PyData.weight]
    split
    · omega
    · omega
theorem ints_show : ∀ ns : List Int, (∀ z ∈ ns, z.natAbs < 10 ^ 30) → PyData.showableAll (ns.map .int) = true ∧ PyData.intsShortAll 31 (ns.map .int) = true ∧ PyData.hasDictAll (ns.map .int) = false ∧ PyData.weightAll (ns.map .int) ≤ 102 * ns.length
  | [], _ => ⟨rfl, rfl, rfl, Nat.le_refl _⟩
  | z :: ns, h => by
    obtain ⟨a1, a2, a3, a4⟩ := ints_show ns fun z hz => h z (List.mem_cons_of_mem _ hz)
    obtain ⟨b1, b2, b3⟩ := int_shows (h z List.mem_cons_self)
    rw [List.map_cons]
    refine ⟨?_, ?_, ?_, ?_⟩
    · simp only [PyData.showableAll, a1, b1, Bool.and_self]
    · simp only [PyData.intsShortAll, a2, b2, Bool.and_self]
    · simp only [PyData.hasDictAll, a3, PyData.hasDict, Bool.or_self]
    · simp only [PyData.weightAll, List.length_cons]
      omega
end L2
namespace L2
open PySem PySem.Spec PyProof.Rows
section
variable {κ : Type} [DecidableEq κ]
def valV (kvs : List (κ × V)) (k : κ) : Option V := (kvs.find? fun kv => decide (kv.1 = k)).map (·.2)
def putK (kvs : List (κ × V)) (k : κ) (v : V) : List (κ × V) :=
  if (kvs.any fun kv => decide (kv.1 = k)) = true then kvs.map (fun kv => if kv.1 = k then (kv.1, v) else kv) else kvs ++ [(k, v)]
theorem valV_pos {p : κ × V} {r : List (κ × V)} {k : κ} (e : p.1 = k) : valV (p :: r) k = some p.2 := by simp [valV, List.find?_cons, e]
theorem valV_neg {p : κ × V} {r : List (κ × V)} {k : κ} (e : ¬ p.1 = k) : valV (p :: r) k = valV r k := by simp [valV, List.find?_cons, e]
theorem valV_any (k : κ) : ∀ kvs : List (κ × V), (kvs.any fun kv => decide (kv.1 = k)) = (valV kvs k).isSome
  | [] => rfl
  | p :: r => by
    rw [List.any_cons]
    by_cases e : p.1 = k
    · simp only [valV_pos e, decide_eq_true e, Bool.true_or, Option.isSome_some]
    · rw [valV_neg e, decide_eq_false e, Bool.false_or]; exact valV_any k r
theorem valV_map (k j : κ) (y : V) : ∀ kvs : List (κ × V), valV (kvs.map fun kv => if kv.1 = k then (kv.1, y) else kv) j = (valV kvs j).map fun x => if j = k then y else x
  | [] => rfl
  | p :: r => by
    have ih := valV_map k j y r
    rw [List.map_cons]
    by_cases h : p.1 = k
    · rw [if_pos h]
      by_cases e : p.1 = j
      · rw [valV_pos (p := (p.1, y)) e, valV_pos e, Option.map_some, if_pos (e.symm.trans h)]
      · rw [valV_neg (p := (p.1, y)) e, valV_neg e, ih]
    · rw [if_neg h]
      by_cases e : p.1 = j
      · rw [valV_pos (p := p) e, valV_pos e, Option.map_some, if_neg (fun z => h (e.trans z))]
      · rw [valV_neg (p := p) e, valV_neg e, ih]
theorem valV_snoc (k j : κ) (y : V) : ∀ kvs : List (κ × V), valV kvs k = none → valV (kvs ++ [(k, y)]) j = if j = k then some y else valV kvs j
  | [], _ => by
    by_cases e : k = j
    · rw [if_pos e.symm]; exact valV_pos (p := (k, y)) e
    · rw [if_neg (fun z => e z.symm)]; exact valV_neg (p := (k, y)) e
  | p :: r, hn => by
    rw [List.cons_append]
    have hk : ¬ p.1 = k := fun z => by rw [valV_pos z] at hn; cases hn
    rw [valV_neg hk] at hn
    have ih := valV_snoc k j y r hn
    by_cases e : p.1 = j
    · rw [valV_pos e, valV_pos e, if_neg (fun z => hk (e.trans z))]
    · rw [valV_neg e, valV_neg e, ih]
theorem valV_put (kvs : List (κ × V)) (k j : κ) (y : V) : valV (putK kvs k y) j = if j = k then some y else valV kvs j := by
  unfold putK
  by_cases a : (kvs.any fun kv => decide (kv.1 = k)) = true
  · rw [if_pos a, valV_map]
    rw [valV_any] at a
    by_cases e : j = k
    · obtain ⟨x, hx⟩ := Option.isSome_iff_exists.mp a
      rw [if_pos e, e, hx, Option.map_some, if_pos rfl]
    · rw [if_neg e]
      cases valV kvs j with
      | none => rfl
      | some x => rw [Option.map_some, if_neg e]
  · rw [if_neg a]
    refine valV_snoc k j y kvs ?_
    rw [valV_any] at a
    cases q : valV kvs k with
    | none => rfl
    | some x => rw [q] at a; exact (a rfl).elim
theorem length_putK (kvs : List (κ × V)) (k : κ) (v : V) : (putK kvs k v).length ≤ kvs.length + 1 := by
  unfold putK
  split
  · rw [List.length_map]; omega
  · rw [List.length_append, List.length_cons, List.length_nil]; omega
theorem RelO.isSome_eq {o : Option V} {u : Option Value} (r : RelO o u) : o.isSome = u.isSome := by
  cases o with
  | none => cases u with
    | none => rfl
    | some _ => exact (show False from r).elim
  | some _ => cases u with
    | none => exact (show False from r).elim
    | some _ => rfl
theorem RelO.getD {o : Option V} {u : Option Value} {d : V} {d' : Value} (r : RelO o u) (rd : RelV d d') : RelV (o.getD d) (u.getD d') := by
  cases o with
  | none => cases u with
    | none => exact rd
    | some _ => exact (show False from r).elim
  | some _ => cases u with
    | none => exact (show False from r).elim
    | some _ => exact r
theorem KV.val {kvs : List (κ × V)} {vs : List (κ × Value)} (r : KV kvs vs) (k : κ) : RelO (valV kvs k) (valueAt vs k) := by
  unfold KV at r
  induction r with
  | nil => exact True.intro
  | @cons p q ps qs h t ih =>
    obtain ⟨h1, h2⟩ := h
    by_cases e : p.1 = k
    · have e' : q.1 = k := h1.symm.trans e
      have b : valueAt (q :: qs) k = some q.2 := by simp [valueAt, List.find?_cons, e']
      rw [valV_pos e, b]; exact h2
    · have e' : ¬ q.1 = k := fun z => e (h1.trans z)
      have b : valueAt (q :: qs) k = valueAt qs k := by simp [valueAt, List.find?_cons, e']
      rw [valV_neg e, b]; exact ih
theorem KV.any {kvs : List (κ × V)} {vs : List (κ × Value)} (r : KV kvs vs) (k : κ) : (kvs.any fun kv => decide (kv.1 = k)) = vs.any fun kv => decide (kv.1 = k) := by
  unfold KV at r
  induction r with
  | nil => rfl
  | cons h t ih => rw [List.any_cons, List.any_cons, ih, h.1]
theorem KV.repl {kvs : List (κ × V)} {vs : List (κ × Value)} (r : KV kvs vs) (k : κ) {y : V} {u : Value} (ry : RelV y u) :
    KV (kvs.map fun kv => if kv.1 = k then (kv.1, y) else kv) (vs.map fun kv => if kv.1 = k then (kv.1, u) else kv) := by
  unfold KV at r ⊢
  induction r with
  | nil => exact .nil
  | @cons p q ps qs h t ih =>
    rw [List.map_cons, List.map_cons]
    refine .cons ?_ ih
    obtain ⟨h1, h2⟩ := h
    by_cases e : p.1 = k
    · rw [if_pos e, if_pos (h1.symm.trans e)]; exact ⟨h1, ry⟩
    · rw [if_neg e, if_neg (fun z => e (h1.trans z))]; exact ⟨h1, h2⟩
theorem KV.put {kvs : List (κ × V)} {vs : List (κ × Value)} (r : KV kvs vs) (k : κ) {y : V} {u : Value} (ry : RelV y u) : KV (putK kvs k y) (stored vs k u) := by
  unfold putK stored
  rw [r.any k]
  by_cases e : (vs.any fun kv => decide (kv.1 = k)) = true
  · rw [if_pos e, if_pos e]; exact r.repl k ry
  · rw [if_neg e, if_neg e]; exact Paired.snoc r ⟨rfl, ry⟩
theorem KV.length {kvs : List (κ × V)} {vs : List (κ × Value)} (r : KV kvs vs) : kvs.length = vs.length := Paired.length r
end
theorem kV_is {P : Program} {w : World} {k : Key} {u : Value} (r : RelV (kV k) u) : (mixKind P w).is k u = true := by
  cases k with
  | inl i => obtain ⟨t, e⟩ := (show ∃ t, u = Value.int i t from r); subst e; exact mixKind_int P w i t
  | inr x => obtain ⟨t, e⟩ := (show ∃ t, u = Value.str x t from r); subst e; exact mixKind_str P w x t
theorem items_are {P : Program} {w : World} : ∀ {ks : List Key} {us : List Value}, Vals (ks.map kV) us → ItemsAre (mixKind P w) ks us
  | [], _, r => by rw [List.map_nil] at r; cases r; exact .nil
  | k :: ks, _, r => by
    rw [List.map_cons] at r
    cases r with
    | cons h t => exact .cons (kV_is h) (items_are t)
abbrev KT (H : Hp) : List (List Key × V) → List (List Key × Addr × Value) → Prop := Paired fun p q => p.1 = q.1 ∧ H q.2.1 = some (.tup (p.1.map kV)) ∧ RelV p.2 q.2.2
theorem KT.val {H : Hp} {kvs : List (List Key × V)} {xs : List (List Key × Addr × Value)} (r : KT H kvs xs) (k : List Key) : RelO (valV kvs k) ((atKey xs k).map (·.2)) := by
  induction r with
  | nil => exact True.intro
  | @cons p q ps qs h t ih =>
    obtain ⟨h1, _, h2⟩ := h
    by_cases e : p.1 = k
    · have e' : q.1 = k := h1.symm.trans e
      have b : atKey (q :: qs) k = some q.2 := by simp [atKey, List.find?_cons, e']
      rw [valV_pos e, b]; exact h2
    · have e' : ¬ q.1 = k := fun z => e (h1.trans z)
      have b : atKey (q :: qs) k = atKey qs k := by simp [atKey, List.find?_cons, e']
      rw [valV_neg e, b]; exact ih
theorem KT.repl {H : Hp} {kvs : List (List Key × V)} {xs : List (List Key × Addr × Value)} (r : KT H kvs xs) (k : List Key) {y : V} {u : Value} (ry : RelV y u) :
    KT H (kvs.map fun kv => if kv.1 = k then (kv.1, y) else kv) (xs.map (putAt k u)) := by
  induction r with
  | nil => exact .nil
  | @cons p q ps qs h t ih =>
    rw [List.map_cons, List.map_cons]
    refine .cons ?_ ih
    obtain ⟨h1, h2, h3⟩ := h
    unfold putAt
    by_cases e : p.1 = k
    · rw [if_pos e, if_pos (h1.symm.trans e)]; exact ⟨h1, h2, ry⟩
    · rw [if_neg e, if_neg (fun z => e (h1.trans z))]; exact ⟨h1, h2, h3⟩
theorem KT.put {H : Hp} {kvs : List (List Key × V)} {xs : List (List Key × Addr × Value)} (r : KT H kvs xs) (k : List Key) {b : Addr} {y : V} {u : Value} (hb : H b = some (.tup (k.map kV))) (ry : RelV y u) :
    KT H (putK kvs k y) (storedH xs k b u) := by
  have e : (kvs.any fun kv => decide (kv.1 = k)) = (atKey xs k).isSome := by
    rw [valV_any, (r.val k).isSome_eq, Option.isSome_map]
  unfold putK storedH
  rw [e]
  by_cases q : (atKey xs k).isSome = true
  · rw [if_pos q, if_pos q]; exact r.repl k ry
  · rw [if_neg q, if_neg q]; exact Paired.snoc r ⟨rfl, hb, ry⟩
theorem KT.keeps {H H' : Hp} {kvs : List (List Key × V)} {xs : List (List Key × Addr × Value)} (r : KT H kvs xs) (ht : ∀ b ys, H b = some (.tup ys) → H' b = some (.tup ys)) : KT H' kvs xs :=
  Paired.mapP r fun _ _ z => ⟨z.1, ht _ _ z.2.1, z.2.2⟩
section
variable {P : Program} {w : World} {H : Hp} {h : Heap} {a : Addr}
theorem rd_of {u : HO} (ok : HOk P w H h) (e : Rd H a u) : ObjOk P w H h a u := e.ok ok
theorem dk_rd {kvs : List (Key × V)} (ok : HOk P w H h) (e : Rd H a (.dK kvs)) : kvs.length ≤ sizeLine ∧ (a == sysModules) = false ∧ ∃ vs, KV kvs vs ∧ h.DictOf (mixKind P w) a vs :=
  show ObjOk P w H h a (.dK kvs) from rd_of ok e
theorem dk_of {kvs : List (Key × V)} (ok : HOk P w H h) (e : H a = some (.dK kvs)) : kvs.length ≤ sizeLine ∧ (a == sysModules) = false ∧ ∃ vs, KV kvs vs ∧ h.DictOf (mixKind P w) a vs := dk_rd ok (.inl e)
theorem key_of {ks : List Key} (ok : HOk P w H h) (e : H a = some (.tup (ks.map kV))) : (tupleKind (mixKind P w)).is h ks a := by
  obtain ⟨_, its, r, o, h1, h2, n, h3⟩ := (show ObjOk P w H h a (.tup (ks.map kV)) from ok a _ e)
  exact ⟨o, its.toArray, n, h1, h2, h3, by simpa using items_are r⟩
theorem dt_rd {kvs : List (List Key × V)} (ok : HOk P w H h) (e : Rd H a (.dT kvs)) : kvs.length ≤ sizeLine ∧ (a == sysModules) = false ∧
    ∃ xs, KT H kvs xs ∧ h.DictOfH (tupleKind (mixKind P w)) a xs := by
  obtain ⟨z, y, xs, r, o, es, ep, h1, h2, h3, h4, h5⟩ := (show ObjOk P w H h a (.dT kvs) from rd_of ok e)
  refine ⟨z, y, xs, r, o, es, ep, h1, h2, h3, h4, fun x hx => ?_, h5⟩
  have all : ∀ {l : List (List Key × V)} {m : List (List Key × Addr × Value)}, KT H l m → ∀ x ∈ m, (tupleKind (mixKind P w)).is h x.1 x.2.1 := by
    intro l m q
    induction q with
    | nil => intro x hx; exact nomatch hx
    | @cons p q ps qs hq t ih =>
      intro x hx
      rcases List.mem_cons.mp hx with e | hx
      · subst e
        exact key_of ok (by rw [← hq.1]; exact hq.2.1)
      · exact ih x hx
  exact all r x hx
theorem dt_of {kvs : List (List Key × V)} (ok : HOk P w H h) (e : H a = some (.dT kvs)) : kvs.length ≤ sizeLine ∧ (a == sysModules) = false ∧
    ∃ xs, KT H kvs xs ∧ h.DictOfH (tupleKind (mixKind P w)) a xs := dt_rd ok (.inl e)
end
def DGet (H : Hp) (a : Addr) (y : V) (r : Option V) : Prop :=
  (∃ kvs k, Rd H a (.dK kvs) ∧ y = kV k ∧ r = valV kvs k) ∨ ∃ kvs k b, Rd H a (.dT kvs) ∧ y = .ref b ∧ H b = some (.tup (k.map kV)) ∧ r = valV kvs k
def DPut (H : Hp) (a : Addr) (y v : V) (H' : Hp) : Prop :=
  (∃ kvs k, H a = some (.dK kvs) ∧ y = kV k ∧ kvs.length < sizeLine ∧ H' = upd H a (.dK (putK kvs k v))) ∨
  ∃ kvs k b, H a = some (.dT kvs) ∧ y = .ref b ∧ H b = some (.tup (k.map kV)) ∧ kvs.length < sizeLine ∧ H' = upd H a (.dT (putK kvs k v))
theorem DGet.k {H : Hp} {a : Addr} {kvs : List (Key × V)} {k : Key} (e : H a = some (.dK kvs)) : DGet H a (kV k) (valV kvs k) := .inl ⟨kvs, k, .inl e, rfl, rfl⟩
theorem DPut.k {H : Hp} {a : Addr} {kvs : List (Key × V)} {k : Key} {v : V} (e : H a = some (.dK kvs)) (hl : kvs.length < sizeLine) : DPut H a (kV k) v (upd H a (.dK (putK kvs k v))) := .inl ⟨kvs, k, e, rfl, hl, rfl⟩
section
variable {X : Cx} {pins : List (Addr × Obj)} {σ : St} {H : Hp} {s : Shared} {a : Addr} {y v : V} {u r : Value} {o : Option V} {A : Around} {E : Value → Shared → Prop}
theorem Inv.big (I : Inv X pins σ H s) : sysModules < s.heap.objs.size := by
  have h : mainGlobals < s.heap.objs.size := (I.mod.glob.keeps I.bk).lt
  exact Nat.lt_trans (by decide) h
theorem d_write {h' : Heap} {t' : Nat} {ob : HO} (I : Inv X pins σ H s) (mu : Mut (H a)) (hs : Heap.SameBut a s.heap h') (he : ∃ q, h'.get? a = some q) (new : ObjOk X.prog X.w (upd H a ob) h' a ob) :
    Inv X pins σ (upd H a ob) { s with heap := h', toks := t' } :=
  I.write (x := a) (e := a) mu (.inl rfl) (fun b q hb z => (hs.2 b hb).trans z) he new
theorem dk_new {P : Program} {w : World} {H' : Hp} {h' : Heap} {kvs : List (Key × V)} {vs : List (Key × Value)} (z : kvs.length ≤ sizeLine) (hd : (a == sysModules) = false) (rel : KV kvs vs) (dd : h'.DictOf (mixKind P w) a vs) :
    ObjOk P w H' h' a (.dK kvs) := ⟨z, hd, vs, rel, dd⟩
theorem d_setItem {H' : Hp} {Q : Unit → Shared → Prop} (hu : A.units + 1 < cLine) (I : Inv X pins σ H s) (g : DPut H a y v H') (ry : RelV y u) (rv : RelV v r) (h : ∀ s', Inv X pins σ H' s' → Q () s') :
    wpAny (model X.prog X.w) A (setItem (.ref a) u r) Q E s := by
  rcases g with ⟨kvs, k, e, ey, l, eH⟩ | ⟨kvs, k, b, e, ey, eb, l, eH⟩
  · subst ey eH
    obtain ⟨z, hd, vs, rel, dd⟩ := dk_of I.hok e
    have hz : vs.length ≤ sizeLine := by rw [← rel.length]; exact z
    have hl : (putK kvs k v).length ≤ sizeLine := by have := length_putK kvs k v; omega
    refine wpAny_setItem_pairs (hsz := hz) (kV_is ry) dd fun h' dd' hs => h _ ?_
    have he : ∃ q, h'.get? a = some q := let ⟨q, _, _, hq, _⟩ := dd'; ⟨q, hq⟩
    exact d_write I (by rw [e]; exact True.intro) hs he (dk_new hl hd (rel.put k rv) dd')
  · subst ey eH
    cases (show u = Value.ref b from ry)
    obtain ⟨z, hd, xs, rel, dd⟩ := dt_of I.hok e
    have hz : xs.length ≤ sizeLine := by rw [← Paired.length rel]; exact z
    have hl : (putK kvs k v).length ≤ sizeLine := by have := length_putK kvs k v; omega
    refine wpAny_setItem_heap (hsz := hz) (tupleKind_room_in1 hu) (key_of I.hok eb) dd fun h' dd' hs => h _ ?_
    obtain ⟨q, es, ep, hq, h2, h3, h4, _, h5⟩ := dd'
    refine d_write I (by rw [e]; exact True.intro) hs ⟨q, hq⟩ ⟨hl, hd, _, (rel.put k eb rv).keeps fun c ys ec => ?_, q, es, ep, hq, h2, h3, h4, h5⟩
    rw [upd_ne (ne_of ec e (fun z => nomatch z))]
    exact ec
end
section
variable {X : Cx} {pins : List (Addr × Obj)} {σ : St} {H : Hp} {s : Shared} {a : Addr} {kvs : List (Key × V)} {k : Key} {u : Value} {A : Around} {E : Value → Shared → Prop}
theorem d_len {Q : Value → Shared → Prop} (I : Inv X pins σ H s) (e : Rd H a (.dK kvs)) (h : ∀ t s', Inv X pins σ H s' → Q (.int kvs.length t) s') : wpAny (model X.prog X.w) A (call (.builtin "len") [.ref a]) Q E s := by
  obtain ⟨z, hd, vs, rel, dd⟩ := dk_rd I.hok e
  refine call_len_dict hd dd (by rw [← rel.length]; rw [sizeLine_eq] at z; omega) ?_
  rw [← rel.length]
  exact h _ _ (I.tok _)
end
def sDPut (td ty tv : TE) : TS := fun D σ H => tv σ H fun v H1 => td σ H1 fun x H2 => ty σ H2 fun y H3 => ∃ a H4, x = .ref a ∧ DPut H3 a y v H4 ∧ D.nx σ H4
section
variable {X : Cx} {o i e value : Expr} {pos pos' tpos : Pos} {td ty tv : TE}
theorem ps_dput (hu : X.A.units + 1 < cLine) (ho : PE X o td) (hi : PE X i ty) (hv : PE X value tv) (hs : swapsWith value (some (.Subscript o i pos')) pos.line X.env = pure false) :
    PS X (.Assign [.Subscript o i pos'] value pos) (sDPut td ty tv) := by
  intro pins s σ H D I h
  refine wpAny_Assign_Subscript (thn (hv pins s σ H _ I h) fun r s1 ⟨v, H1, I1, rv, q1⟩ => thn (ho pins s1 σ H1 _ I1 q1) fun u s2 ⟨x, H2, I2, rx, q2⟩ => thn (hi pins s2 σ H2 _ I2 q2) fun iv s3 ⟨y, H3, I3, ry, a, H4, ex, g, q3⟩ => ?_) hs
  subst ex
  obtain rfl : u = Value.ref a := rx
  exact d_setItem hu I3 g ry rv fun s4 I4 => ⟨σ, H4, I4, q3⟩
end
theorem dk_empty {P : Program} {w : World} {H : Hp} (h : Heap) (hb : sysModules < h.objs.size) : ObjOk P w H (h.push { cls := .type "dict", data := .dict #[] }) h.objs.size (.dK []) :=
  ⟨Nat.zero_le _, beq_eq_false_iff_ne.mpr (Ne.symm (Nat.ne_of_lt hb)), [], .nil, Heap.DictOf.new h⟩
def tDNewK : TE := fun _ H Q => ∀ p, H p = none → Q (.ref p) (upd H p (.dK []))
section
variable {X : Cx} {pos : Pos}
theorem pe_dnewK : PE X (.Dict [] [] pos) tDNewK := fun pins s σ H Q I h =>
  wpAny_Dict_empty ⟨.ref s.heap.objs.size, _, I.laid (a := s.heap.objs.size) (o := .dK []) (t' := s.toks) (fun _ _ q => Heap.get?_push_of_some _ q) (Nat.le_refl _) (dk_empty s.heap I.big), rfl, h _ (I.hok.fresh (Nat.le_refl _))⟩
end
structure M2 (X : Cx) (o : Expr) (m : Str) (apos : Pos) (e f : Expr) (cpos : Pos) : Prop where
  base : attributeBase o m X.env (eval o X.env) = eval o X.env
  few : ((backTo cpos (starEach [e, f] X.env)).all (fun x => !x.1) && (backToKw cpos (keywordEach [] X.env)).all (fun x => x.1.isSome)
    && decide (([e, f] : List Expr).length + ([] : List Keyword).length + (if ([] : List Keyword).isEmpty then 0 else 1) < 30)) = true
  line : (apos.endLine == cpos.line) = true
  trees : backTo cpos (starEach [e, f] X.env) = [(false, eval e X.env), (false, eval f X.env)]
def IsD (H : Hp) (a : Addr) : Prop := (∃ kvs, Rd H a (.dK kvs)) ∨ ∃ kvs, Rd H a (.dT kvs)
theorem isD_at {X : Cx} {pins : List (Addr × Obj)} {σ : St} {H : Hp} {s : Shared} {a : Addr} (I : Inv X pins σ H s) (d : IsD H a) :
    s.TypeIs (.ref a) "dict" ∧ (∀ b, Value.ref a = .ref b → ∃ ob, s.heap.get? b = some ob ∧ ob.dict = none) ∧ (a == sysModules) = false := by
  rcases d with ⟨kvs, e⟩ | ⟨kvs, e⟩
  · obtain ⟨_, hd, vs, _, dd⟩ := dk_rd I.hok e
    refine ⟨dd.typeIs, fun b q => ?_, hd⟩
    cases q
    obtain ⟨ob, _, _, h1, h2, _⟩ := dd
    exact ⟨ob, h1, h2.2.1⟩
  · obtain ⟨_, hd, xs, _, dd⟩ := dt_rd I.hok e
    refine ⟨dd.typeIs, fun b q => ?_, hd⟩
    cases q
    obtain ⟨ob, _, _, h1, h2, _⟩ := dd
    exact ⟨ob, h1, h2.2.1⟩
section
variable {X : Cx} {pins : List (Addr × Obj)} {σ : St} {H : Hp} {s : Shared} {a : Addr} {y d : V} {u r : Value} {o : Option V} {A : Around} {E : Value → Shared → Prop}
theorem d_get2 {Q : Value → Shared → Prop} (hu : A.units + 1 < cLine) (I : Inv X pins σ H s) (g : DGet H a y o) (ry : RelV y u) (rd : RelV d r) (h : ∀ w' s', Inv X pins σ H s' → RelV (o.getD d) w' → Q w' s') :
    wpAny (model X.prog X.w) A (call (.builtin "dict.get") [.ref a, u, r]) Q E s := by
  rcases g with ⟨kvs, k, e, ey, l⟩ | ⟨kvs, k, b, e, ey, eb, l⟩
  · subst ey
    obtain ⟨z, hd, vs, rel, dd⟩ := dk_rd I.hok e
    refine call_meetsIn PySem.F.slot_dict_get dd.typeIs PySem.F.entry_dict_get (PySem.F.args_dict_get_3 _ _ _) (meets_dict_get_default (mixKind X.prog X.w) a (kV_is ry) hd r) ⟨_, dd.mapOf, h _ _ (I.tok _) ?_⟩
    rw [l]
    exact (rel.val k).getD rd
  · subst ey
    cases (show u = Value.ref b from ry)
    obtain ⟨z, hd, xs, rel, dd⟩ := dt_rd I.hok e
    refine call_meetsIn PySem.F.slot_dict_get dd.typeIs PySem.F.entry_dict_get (PySem.F.args_dict_get_3 _ _ _) (meetsH_dict_get_default (tupleKind (mixKind X.prog X.w)) a b hd r) ⟨tupleKind_room_in1 hu, k, xs, key_of I.hok eb, dd, h _ _ (I.tok _) ?_⟩
    rw [l]
    exact (rel.val k).getD rd
end
def tDGet2 (td ty tx : TE) : TE := fun σ H Q => td σ H fun x H1 => ∃ a, x = .ref a ∧ IsD H1 a ∧ ty σ H1 fun y H2 => tx σ H2 fun z H3 => ∃ o, DGet H3 a y o ∧ Q (o.getD z) H3
section
variable {X : Cx} {o e f : Expr} {apos cpos : Pos} {td ty tx : TE}
theorem pe_dget2 (hu : X.A.units + 1 < cLine) (ho : PE X o td) (he : PE X e ty) (hf : PE X f tx) (m : M2 X o "get" apos e f cpos) : PE X (.Call (.Attribute o "get" apos) [e, f] [] cpos) (tDGet2 td ty tx) := by
  intro pins s σ H Q I h
  refine wpAny_Call_method m.base m.few m.line PySem.F.plainAttrs_dict PySem.F.slot_dict_get PySem.F.type_dict_get (thn (ho pins s σ H _ I h) fun u s1 ⟨x, H1, I1, rx, a, ex, d, q1⟩ => ?_)
  subst ex
  obtain rfl : u = Value.ref a := rx
  obtain ⟨t1, t2, _⟩ := isD_at I1 d
  refine ⟨t1, t2, ?_⟩
  rw [m.trees]
  refine Calls.callWith_builtin rfl (Calls.evalArgs_plain (Calls.spliced_cons (thn (he pins s1 σ H1 _ I1 q1) fun iv s2 ⟨y, H2, I2, ry, q2⟩ =>
    Calls.spliced_cons (thn (hf pins s2 σ H2 _ I2 q2) fun fv s3 ⟨z, H3, I3, rz, ov, g, q3⟩ => Calls.spliced_nil ?_))))
  exact d_get2 hu I3 g ry rz fun w' s4 I4 rw' => ⟨_, H3, I4, rw', q3⟩
end
section
variable {X : Cx} {pins : List (Addr × Obj)} {σ : St} {H : Hp} {s : Shared} {a : Addr} {kvs : List (Key × V)} {A : Around} {E : Value → Shared → Prop}
theorem d_copyOf {Q : Value → Shared → Prop} (I : Inv X pins σ H s) (e : Rd H a (.dK kvs)) (h : ∀ p s', H p = none → Inv X pins σ (upd H p (.dK kvs)) s' → Q (.ref p) s') : wpAny (model X.prog X.w) A (call (.type "dict") [.ref a]) Q E s := by
  obtain ⟨z, hd, vs, rel, dd⟩ := dk_rd I.hok e
  refine kt_call_dict hd dd (by rw [← rel.length]; exact z) fun h' dd' hs => ?_
  refine h _ _ (I.hok.fresh (Nat.le_refl _)) (I.laid (a := s.heap.objs.size) (o := .dK kvs) (t' := s.toks) (fun b q hq => ?_) (Nat.le_refl _) (dk_new z (beq_eq_false_iff_ne.mpr (Ne.symm (Nat.ne_of_lt I.big))) rel dd'))
  exact (hs.2 b (Nat.ne_of_lt (Heap.lt_size hq))).trans (Heap.get?_push_of_some _ hq)
end
section
variable {X : Cx} {pins : List (Addr × Obj)} {σ : St} {H : Hp} {s : Shared} {a : Addr} {y : V} {u : Value} {A : Around} {E : Value → Shared → Prop}
end
end L2
namespace L2
open PySem PySem.Spec PyProof.Rows
section
variable {X : Cx}
theorem call_lenD : CallR X (.builtin "len") (fun xs H Q => ∃ a kvs, xs = [V.ref a] ∧ H a = some (.dK kvs) ∧ Q (.int kvs.length) H) := by
  intro pins s σ H xs us Q I r h
  obtain ⟨a, kvs, rfl, ha, q⟩ := h
  obtain ⟨u, rfl, ru⟩ := vals1 r
  cases ru
  exact d_len I (.inl ha) fun t s' I' => ⟨.int kvs.length, H, I', ⟨t, rfl⟩, q⟩
end
end L2
namespace L2
open PySem PySem.Spec PyProof.Rows
section
variable {κ : Type} [DecidableEq κ]
end
end L2
namespace L2
open PySem PySem.Spec PyProof.Rows
section
variable {prog : Program} {w : World}
variable {A : Around} {E : Value → Shared → Prop} {s : Shared}
end
end L2
namespace L2
open PySem PySem.Spec PyProof.Rows
section
variable {prog : Program} {w : World} {K : Type} [DecidableEq K] {A : Around} {E : Value → Shared → Prop} {s : Shared}
theorem hk_setd {knd : HeapKind prog w K} {d a : Addr} {xs : List (K × Addr × Value)} {k : K} {x : Value} {Q : Value → Shared → Prop} (hu : knd.room A) (hk : knd.is s.heap k a)
    (hm : s.heap.DictOfH knd d xs) (hz : xs.length ≤ sizeLine)
    (old : ∀ p, atKey xs k = some p → Q p.2 { s with toks := s.toks + knd.draws k })
    (new : atKey xs k = none → ∀ h', h'.DictOfH knd d (xs ++ [(k, a, x)]) → Heap.SameBut d s.heap h' → Q x { s with heap := h', toks := s.toks + knd.draws k }) :
    wpAny (model prog w) A (dictSetDefault d (.ref a) x) Q E s := by
  obtain ⟨o, es, ep, g1, g2, g3, g4, g5, g6⟩ := hm
  unfold dictSetDefault
  with_reducible refine wpAny_holding ?_
  refine wpAny_bind (knd.pyHash hu hk (wpAny_bind (wpAny_dictFind_heap (s := { s with toks := s.toks + knd.draws k }) hu hk g1 g3 g4 g5 g6 (fun no => ?_) (fun j p hj => ?_))))
  · have e0 := atKey_none_of_get no
    have nm := not_mem_keys_of_get no
    have e1 : es.size ≤ sizeLine := by rw [size_of_entries g4]; exact hz
    refine wpAny_bind (wpAny_rule (wpAny_bind (wpAny_updateDictKeys (hz := e1) (s := { s with toks := s.toks + knd.draws k }) g1 g3 (wpAny_pure (new e0 _ ⟨_, _, ep + 1, Heap.get?_update_self _ g1 (Obj.isFreed_of_dict (Obj.data_mapDictKeys g3 _)), g2.mapDictKeys _, Obj.data_mapDictKeys g3 _, ?_, ?_, ?_⟩ (Heap.SameBut.update ..))))))
    · simp [g4, entryOfKey]
    · intro y hy
      rcases List.mem_append.mp hy with q | q
      · exact knd.keeps (g5 y q) g1 g3 (Heap.SameBut.update ..)
      · cases List.mem_singleton.mp q
        exact knd.keeps hk g1 g3 (Heap.SameBut.update ..)
    · rw [List.map_append, List.nodup_append]
      refine ⟨g6, by simp, fun y hy z hz' q => ?_⟩
      simp only [List.map_cons, List.map_nil, List.mem_singleton] at hz'
      subst hz'
      exact nm (q ▸ hy)
  · refine wpAny_bind (wpAny_dictEntries (s := { s with toks := s.toks + knd.draws k }) g1 g3 ?_)
    rw [entry_at g4 j, hj]
    exact wpAny_bind (wpAny_rule (wpAny_pure (old p (atKey_of_get g6 hj))))
theorem call_setd {d : Addr} {key x : Value} {Q : Value → Shared → Prop} (T : s.TypeIs (.ref d) "dict") (hd : (d == sysModules) = false)
    (h : wpAny (model prog w) A.in1 (dictSetDefault d key x) Q (fun e s' => E e s') s) : wpAny (model prog w) A (call (.builtin "dict.setdefault") [.ref d, key, x]) Q E s := by
  refine wpAny_call_entry F.slot_dict_setdefault T F.entry_dict_setdefault ?_ (F.args_dict_setdefault_3 _ _ _)
  unfold Builtin.«dict.setdefault»
  refine wpAny_bind ?_
  unfold Builtin.Dict.keyAndDefault
  refine wpAny_bind (wpAny_notOrdered_dict T ?_)
  show wpAny _ _ (pure (d, key, some x)) _ _ s
  refine wpAny_pure ?_
  show wpAny _ _ (if (d == sysModules) = true then _ else (dictSetDefault d key x >>= _)) _ _ s
  rw [if_neg (by rw [hd]; exact Bool.false_ne_true)]
  refine wpAny_bind (wpAny_mono h (fun v s' q => ?_) (fun _ _ q => q))
  exact wpAny_pure ⟨_, rfl, q⟩
end
end L2
namespace L2
open PySem PySem.Spec PyProof.Rows
section
variable {prog : Program} {w : World} {K : Type} [DecidableEq K] {A : Around} {E : Value → Shared → Prop} {s : Shared}
theorem hk_len {knd : HeapKind prog w K} {d : Addr} {xs : List (K × Addr × Value)} {Q : Value → Shared → Prop} (hd : (d == sysModules) = false) (hm : s.heap.DictOfH knd d xs) (hf : xs.length ≤ sizeLine)
    (h : ∀ t t', Q (.int xs.length t) { s with toks := t' }) : wpAny (model prog w) A (call (.builtin "len") [.ref d]) Q E s := by
  have T := hm.typeIs
  rw [sizeLine_eq] at hf
  refine Calls.call_function_entry kind_len plain_len entry_len (args_len1 _) ?_
  unfold Builtin.«len»
  refine wpAny_bind (m := oneArg "len" _) (wpAny_pure ?_)
  refine wpAny_bind (m := callSpecial? (.ref d) (Str.ofString "__len__")) (wpAny_callSpecial?_slot (name := Str.ofString "__len__") T F.slot_dict_len (wpAny_call_entry F.slot_dict_len T F.entry_dict_len ?_ (F.args_dict_len_1 _)))
  obtain ⟨o, es, ep, g1, _, g3, g4, _, _⟩ := hm
  show wpAny _ _ (dictSize d >>= _) _ _ s
  unfold dictSize
  refine wpAny_bind (wpAny_bind (wpAny_dictEntries g1 g3 (wpAny_pure ?_)))
  show wpAny _ _ (Builtin.Dict.pendingCount d >>= _) _ _ s
  refine wpAny_bind (wpAny_pendingCount_other hd (wpAny_ret_mkInt ?_))
  rw [size_of_entries g4]
  show wpAny _ _ _ _ _ { s with toks := s.toks + 1 }
  refine wpAny_bind (wpAny_holding (wpAny_pure ?_))
  refine wpAny_bind (wpAny_letGo ?_)
  show wpAny _ _ (if ((xs.length : Nat) : Int) < 0 then _ else _) _ _ _
  rw [if_neg (by omega)]
  show wpAny _ _ (if ((xs.length : Nat) : Int) ≥ 2 ^ 63 then _ else _) _ _ _
  rw [if_neg (by omega)]
  exact wpAny_bind (wpAny_mkInt (wpAny_pure ⟨_, rfl, h _ _⟩))
end
section
variable {P : Program} {w : World} {H : Hp} {h : Heap} {a : Addr}
theorem ints_are : ∀ {ns : List Int} {us : List Value}, Vals (ns.map V.int) us → ItemsAre (intKind P w) ns us
  | [], _, .nil => .nil
  | n :: ns, _, .cons r t => by
    obtain ⟨t', rfl⟩ := (show ∃ t, _ = Value.int n t from r)
    exact .cons (intKind_is P w n t') (ints_are t)
end
end L2
namespace L2
open PySem PySem.Spec PyProof.Rows
def KL {κ : Type} [DecidableEq κ] (l : List (κ × V × V)) (k : κ) : Option V := (l.find? fun x => decide (x.1 = k)).map (·.2.2)
def rSetd {κ : Type} [DecidableEq κ] (obj : Addr → List (κ × V × V) → HO) (key : Hp → V → κ → Prop) : V → List V → Hp → VK → Prop := fun x vs H Q =>
  ∃ d l k y v, x = .ref d ∧ vs = [y, v] ∧ H d = some (obj d l) ∧ (∀ z ∈ l, key H z.2.1 z.1) ∧ key H y k ∧ l.length < sizeLine ∧
    ((∃ r, KL l k = some r ∧ Q r H) ∨ (KL l k = none ∧ Q v (upd H d (obj d (l ++ [(k, y, v)])))))
structure Kd (X : Cx) (κ : Type) [DecidableEq κ] (obj : Addr → List (κ × V × V) → HO) (key : Hp → V → κ → Prop) : Prop where
  ty : ∀ {pins : List (Addr × Obj)} {σ : St} {H : Hp} {s : Shared} {a : Addr} {l : List (κ × V × V)}, Inv X pins σ H s → H a = some (obj a l) →
    s.TypeIs (.ref a) "dict" ∧ ∀ b, Value.ref a = .ref b → ∃ ob, s.heap.get? b = some ob ∧ ob.dict = none
  new : ∀ pos, PE X (.Dict [] [] pos) (fun _ H Q => ∀ p, H p = none → Q (.ref p) (upd H p (obj p [])))
  len : CallR X (.builtin "len") (fun xs H Q => ∃ a l, xs = [V.ref a] ∧ H a = some (obj a l) ∧ (∀ z ∈ l, key H z.2.1 z.1) ∧ Q (.int l.length) H)
  set : MtM X "dict.setdefault" (rSetd obj key)
def adr : V → Addr
  | .ref a => a
  | _ => 0
def tSetd {κ : Type} [DecidableEq κ] (obj : Addr → List (κ × V × V) → HO) (key : Hp → V → κ → Prop) (td ty tx : TE) : TE := fun σ H Q =>
  td σ H fun x H1 => ∃ a l, x = .ref a ∧ H1 a = some (obj a l) ∧ ty σ H1 fun y H2 => tx σ H2 fun z H3 => rSetd obj key x [y, z] H3 Q
theorem pe_setd {X : Cx} {κ : Type} [DecidableEq κ] {obj : Addr → List (κ × V × V) → HO} {key : Hp → V → κ → Prop} {o e f : Expr} {apos cpos : Pos} {td ty tx : TE} (K : Kd X κ obj key) (ho : PE X o td) (he : PE X e ty) (hf : PE X f tx)
    (m : M2 X o "setdefault" apos e f cpos) : PE X (.Call (.Attribute o "setdefault" apos) [e, f] [] cpos) (tSetd obj key td ty tx) := by
  intro pins s σ H Q I h
  refine wpAny_Call_method m.base m.few m.line PySem.F.plainAttrs_dict PySem.F.slot_dict_setdefault PySem.F.type_dict_setdefault (thn (ho pins s σ H _ I h) fun u s1 ⟨x, H1, I1, rx, a, l, ex, d, q1⟩ => ?_)
  subst ex
  obtain rfl : u = Value.ref a := rx
  obtain ⟨t1, t2⟩ := K.ty I1 d
  refine ⟨t1, t2, ?_⟩
  rw [m.trees]
  refine Calls.callWith_builtin rfl (Calls.evalArgs_plain (Calls.spliced_cons (thn (he pins s1 σ H1 _ I1 q1) fun iv s2 ⟨y, H2, I2, ry, q2⟩ => Calls.spliced_cons (thn (hf pins s2 σ H2 _ I2 q2) fun fv s3 ⟨z, H3, I3, rz, q3⟩ => Calls.spliced_nil ?_))))
  exact K.set pins s3 σ H3 (.ref a) [y, z] _ _ Q I3 rfl (.cons ry (.cons rz .nil)) q3
end L2
namespace L2
open PySem PySem.Spec PyProof.Rows
abbrev lsO (acc : List Value) (c : Nat) : Obj := { cls := .type "list", dict := none, data := .seq acc.toArray c, slots := #[] }
structure Feed (prog : Program) (w : World) (A : Around) (S I : Addr) (n : Nat) (St En : List Value → Heap → Prop) : Prop where
  keep : ∀ {acc : List Value} {h h' : Heap}, St acc h → (∀ b o, b ≠ S → h.get? b = some o → h'.get? b = some o) → St acc h'
  item : ∀ {s : Shared} {acc : List Value} {Q : Option Value → Shared → Prop} {E : Value → Shared → Prop}, acc.length < n → (∃ o, s.heap.get? S = some o) → St acc s.heap →
    (∀ v h' tk, St (acc ++ [v]) h' → (∀ o, s.heap.get? S = some o → h'.get? S = some o) → Q (some v) { s with heap := h', toks := tk }) → wpAny (model prog w) A (pyNext (.ref I)) Q E s
  done : ∀ {s : Shared} {acc : List Value} {Q : Option Value → Shared → Prop} {E : Value → Shared → Prop}, acc.length = n → St acc s.heap →
    (∀ h' tk, En acc h' → (∀ o, s.heap.get? S = some o → h'.get? S = some o) → Q none { s with heap := h', toks := tk }) → wpAny (model prog w) A (pyNext (.ref I)) Q E s
section
variable {prog : Program} {w : World} {A : Around} {S I v : Addr} {n : Nat} {St En : List Value → Heap → Prop} {R : Result → Shared → Prop} {res : Value}
theorem feed_loop (W : Feed prog w A.in1 S I n St En) (hn : n ≤ sizeLine) :
    ∀ (k : Nat) (s : Shared) (acc : List Value) (c : Nat), n - acc.length = k → acc.length ≤ n → St acc s.heap → s.heap.get? S = some (lsO acc c) →
    (∀ h' tk acc' c', acc'.length = n → En acc' h' → h'.get? S = some (lsO acc' c') → R (.ok (.ret res)) { s with heap := h', toks := tk }) →
    codeAny (model prog w) A (.builtin "list.extend.loop" ⟨[.ref S, .ref I, res], []⟩) R s := by
  intro k
  induction k with
  | zero =>
    intro s acc c e1 e2 st hS hR
    refine codeAny_builtin F.entry_extend_loop ?_
    rw [Around.under_plainId F.plain_extend_loop _]
    show wpAny _ A.in1 (pyNext (.ref I) >>= _) _ _ s
    refine wpAny_bind (W.done (by omega) st fun h' tk en sk => ?_)
    exact wpAny_pure (hR h' tk acc c (by omega) en (sk _ hS))
  | succ k ih =>
    intro s acc c e1 e2 st hS hR
    refine codeAny_builtin F.entry_extend_loop ?_
    rw [Around.under_plainId F.plain_extend_loop _]
    show wpAny _ A.in1 (pyNext (.ref I) >>= _) _ _ s
    refine wpAny_bind (W.item (by omega) ⟨_, hS⟩ st fun x h' tk st' sk => ?_)
    have hS' := sk _ hS
    show wpAny _ A.in1 (updateSeq S (·.push x) >>= _) _ _ _
    obtain ⟨c1, hS2⟩ : ∃ c1, (h'.update S (Obj.mapSeq (·.push x))).get? S = some (lsO (acc ++ [x]) c1) := by
      have q := PySem.IsL.update hS' (·.push x)
      rw [List.push_toArray] at q
      exact ⟨_, q⟩
    refine wpAny_bind (wpAny_updateSeq hS' rfl (wpAny_pure ⟨plainId_quiet F.plain_extend_loop _, ih _ (acc ++ [x]) c1 (by rw [List.length_append, List.length_singleton]; omega) (by rw [List.length_append, List.length_singleton]; omega) (W.keep st' fun b o hb q => (Heap.get?_update_other _ _ (Ne.symm hb)).trans q) hS2 ?_⟩)
      (by show acc.toArray.size ≤ sizeLine; rw [List.size_toArray]; omega) (by show (acc.toArray.push x).size ≤ sizeLine + 1; rw [Array.size_push, List.size_toArray]; omega))
    intro h2 tk2 acc2 c2 q1 q2 q3
    exact hR h2 tk2 acc2 c2 q1 q2 q3
theorem feed_extend {T : String} {s : Shared} {c : Nat} (W : Feed prog w A.in1 S I n St En) (hn : n ≤ sizeLine) (ty : s.TypeIs (.ref v) T) (t1 : (Value.type T == Value.type "list") = false) (t2 : (Value.type T == Value.type "tuple") = false) (ne : S ≠ v)
    (hS : s.heap.get? S = some (lsO [] c))
    (it : ∀ {Q : Value → Shared → Prop} {E : Value → Shared → Prop}, (∀ h' tk, St [] h' → (∀ o, s.heap.get? S = some o → h'.get? S = some o) → Q (.ref I) { s with heap := h', toks := tk }) → wpAny (model prog w) A.in1 (pyIter (.ref v)) Q E s)
    (hint : ∀ {s' : Shared} {Q : Bool → Shared → Prop} {E : Value → Shared → Prop}, St [] s'.heap → (∀ b tk, Q b { s' with toks := tk }) → wpAny (model prog w) A.in1 (Builtin.List.listLengthHint (.ref v)) Q E s')
    (hR : ∀ h' tk acc' c', acc'.length = n → En acc' h' → h'.get? S = some (lsO acc' c') → R (.ok (.ret res)) { s with heap := h', toks := tk }) :
    wpAny (model prog w) A.in1 (Builtin.List.listExtendWith (.ref S) (.ref v) res)
      (fun fin s' => match fin with | .done f => R (.ok f) s' | .again c' => c'.quiet = true ∧ codeAny (model prog w) A c' R s') (fun e s' => R (.error e) s') s := by
  unfold Builtin.List.listExtendWith
  refine wpAny_bind (wpAny_typeOf ty ?_)
  rw [show Builtin.List.listSameRef (.ref S) (.ref v) = false by simp [Builtin.List.listSameRef, ne], t1, t2]
  simp only [Bool.or_false, Bool.false_eq_true, if_false]
  refine wpAny_bind (it fun h1 tk1 st1 sk1 => ?_)
  refine wpAny_bind (wpAny_holding (hint st1 fun b tk2 => ?_))
  have hS1 := sk1 _ hS
  refine wpAny_ite_split (fun _ => ?_) (fun _ => ?_)
  · refine wpAny_bind (wpAny_rule (wpAny_bind ?_))
    show wpAny _ A.in1 (updateSeq S (·.push .none) >>= fun _ => updateSeq S (·.pop)) _ _ _
    have q1 := PySem.IsL.update hS1 (·.push Value.none)
    have q2 := PySem.IsL.update q1 (·.pop)
    obtain ⟨c2, q3⟩ : ∃ c2, ((h1.update S (Obj.mapSeq (·.push Value.none))).update S (Obj.mapSeq (·.pop))).get? S = some (lsO [] c2) := ⟨_, q2⟩
    refine wpAny_bind (wpAny_updateSeq hS1 rfl (wpAny_updateSeq q1 rfl ?_ (by simp [sizeLine_eq]) (by simp [sizeLine_eq])) (by simp [sizeLine_eq]) (by simp [sizeLine_eq]))
    refine wpAny_pure ⟨plainId_quiet F.plain_extend_loop _, ?_⟩
    refine feed_loop W hn n _ [] c2 rfl (Nat.zero_le _) (W.keep st1 fun b o hb q => ?_) q3 ?_
    · exact (Heap.get?_update_other _ _ (Ne.symm hb)).trans ((Heap.get?_update_other _ _ (Ne.symm hb)).trans q)
    · intro h2 tk2 acc2 c2 p1 p2 p3
      exact hR h2 tk2 acc2 c2 p1 p2 p3
  · refine wpAny_pure ⟨plainId_quiet F.plain_extend_loop _, feed_loop W hn n _ [] c rfl (Nat.zero_le _) st1 hS1 ?_⟩
    intro h2 tk2 acc2 c2 p1 p2 p3
    exact hR h2 tk2 acc2 c2 p1 p2 p3
variable {E : Value → Shared → Prop} {s : Shared}
end
end L2
namespace L2
open PySem PySem.Spec PyProof.Rows
section
variable {prog : Program} {w : World} {A : Around} {I v : Addr} {n : Nat} {St En : List Value → Heap → Prop} {E : Value → Shared → Prop} {s : Shared}
theorem collect_feed {T : String} {Q : List Value → Shared → Prop} (W : Feed prog w A.in1 s.heap.objs.size I n St En) (hn : n ≤ sizeLine) (ty : s.TypeIs (.ref v) T) (t1 : (Value.type T == Value.type "list") = false) (t2 : (Value.type T == Value.type "tuple") = false)
    (it : ∀ {s' : Shared} {Q : Value → Shared → Prop} {E : Value → Shared → Prop}, (∀ b o, s.heap.get? b = some o → s'.heap.get? b = some o) → s'.heap.objs.size = s.heap.objs.size + 1 →
      (∀ h' tk, St [] h' → (∀ o, s'.heap.get? s.heap.objs.size = some o → h'.get? s.heap.objs.size = some o) → Q (.ref I) { s' with heap := h', toks := tk }) → wpAny (model prog w) A.in1 (pyIter (.ref v)) Q E s')
    (hint : ∀ {s' : Shared} {Q : Bool → Shared → Prop} {E : Value → Shared → Prop}, St [] s'.heap → (∀ b tk, Q b { s' with toks := tk }) → wpAny (model prog w) A.in1 (Builtin.List.listLengthHint (.ref v)) Q E s')
    (hQ : ∀ h' tk acc, acc.length = n → En acc h' → s.heap.objs.size < h'.objs.size → Q acc { s with heap := h', toks := tk }) : wpAny (model prog w) A (collect (.ref v)) Q E s := by
  have hv : v < s.heap.objs.size := by obtain ⟨o, e, _⟩ := ty; exact Heap.lt_size e
  unfold collect
  refine wpAny_bind (wpAny_runValue (codeAny_builtin F.entry_proto_collect ?_))
  rw [Around.under_plainId F.plain_proto_collect _]
  show wpAny _ A.in1 (newList [] >>= fun l => again (.builtin "list.__iadd__" ⟨[l, .ref v], []⟩)) _ _ s
  refine wpAny_bind (wpAny_newObj_type ?_)
  refine wpAny_pure ⟨plainId_quiet F.plain_list_iadd _, codeAny_builtin F.entry_list_iadd ?_⟩
  rw [Around.under_plainId F.plain_list_iadd _]
  show wpAny _ A.in1 (Builtin.List.listExtendWith (.ref s.heap.objs.size) (.ref v) (.ref s.heap.objs.size)) _ _ _
  have hS : (s.heap.push { cls := .type "list", data := .seq ([] : List Value).toArray }).get? s.heap.objs.size = some (lsO [] 0) := Heap.get?_push_size _ rfl
  have oth : ∀ b o, s.heap.get? b = some o → (s.heap.push { cls := .type "list", data := .seq ([] : List Value).toArray }).get? b = some o := fun b o q => Heap.get?_push_of_some _ q
  have fin : ∀ {h' : Heap} {tk : Nat} {acc : List Value} {c' : Nat}, acc.length = n → En acc h' → h'.get? s.heap.objs.size = some (lsO acc c') →
      wpAny (model prog w) A (match Value.ref s.heap.objs.size with
        | Value.ref a => do
          match (← load a).data with
            | Data.seq xs _ => pure xs.toList
            | _ => unsupported "internal:collect"
        | _ => unsupported "internal:collect") Q E { s with heap := h', toks := tk } := by
    intro h' tk acc c' p1 p2 p3
    show wpAny _ A (load s.heap.objs.size >>= _) _ _ _
    refine wpAny_bind (wpAny_load p3 (wpAny_pure ?_))
    exact hQ h' tk acc p1 p2 (Heap.lt_size p3)
  refine wpAny_mono (feed_extend (R := fun r s' => ∃ h' tk acc c', r = .ok (.ret (.ref s.heap.objs.size)) ∧ s' = { s with heap := h', toks := tk } ∧ acc.length = n ∧ En acc h' ∧ h'.get? s.heap.objs.size = some (lsO acc c'))
    (s := { s with heap := s.heap.push { cls := .type "list", data := .seq ([] : List Value).toArray } }) (c := 0) W hn (by obtain ⟨o, e, q⟩ := ty; exact ⟨o, oth _ _ e, q⟩) t1 t2 (Nat.ne_of_gt hv) hS (fun {Q' E'} k => it oth (by simp) k) hint
    fun h' tk acc' c' p1 p2 p3 => ⟨h', tk, acc', c', rfl, rfl, p1, p2, p3⟩) (fun f s' q => ?_) (fun e s' q => ?_)
  · cases f with
    | done f =>
      obtain ⟨h', tk, acc, c', e, rfl, p1, p2, p3⟩ := q
      cases e
      exact fin p1 p2 p3
    | again c =>
      refine ⟨q.1, codeAny_mono q.2 fun r s'' hr => ?_⟩
      obtain ⟨h', tk, acc, c', rfl, rfl, p1, p2, p3⟩ := hr
      exact fin p1 p2 p3
  · obtain ⟨_, _, _, _, e, _⟩ := q
    cases e
end
end L2
namespace L2
open PySem PySem.Spec PyProof.Rows
section
variable {X : Cx}
end
section
variable {prog : Program} {w : World} {A : Around}
end
section
variable {X : Cx}
end
end L2
namespace L2
open PySem PySem.Spec PyProof.Rows
abbrev Zr (h : Heap) (z : Addr) (f : Value) (g : Bool) (TI TO : Addr) : Prop := h.get? z = some { cls := .type "zip", dict := none, data := .fields #[f, .bool g, .bool false, .ref TI, .ref TO], slots := #[] }
abbrev z3a (h : Heap) (l : Addr) : Heap := h.push { cls := .type "list_iterator", data := .fields #[.ref l, .int 0 0] }
section
variable {prog : Program} {w : World} {A : Around} {E : Value → Shared → Prop} {s : Shared}
end
end L2
namespace L2
open PySem PySem.Spec PyProof.Rows
section
variable {prog : Program} {w : World} {A : Around} {E : Value → Shared → Prop} {s : Shared}
theorem alive_ {a : Addr} {o : Obj} {Q : Option Obj → Shared → Prop} (e : s.heap.get? a = some o) (h : Q (some o) s) : wpAny (model prog w) A (loadIfAlive a) Q E s := by
  intro Γ p hΓ
  unfold loadIfAlive
  rw [Sem.wp_loadIfAlive, e]
  exact h
theorem free_held {z t0 TI TO : Addr} {g : Bool} {ot : Obj} {Q : Bool → Shared → Prop} (hz : Zr s.heap z (rawInt t0) g TI TO) (ht : s.heap.get? t0 = some ot)
    (h : ∀ h', Zr h' z (rawInt t0) true TI TO → (∀ c o, c ≠ z → s.heap.get? c = some o → h'.get? c = some o) → h'.objs.size = s.heap.objs.size → Q false { s with heap := h' }) :
    wpAny (model prog w) A (Builtin.SmallTypes.ownedTupleIsFree (.ref z)) Q E s := by
  unfold Builtin.SmallTypes.ownedTupleIsFree
  refine wpAny_bind (wpAny_field hz rfl (x := rawInt t0) rfl ?_)
  show wpAny _ _ (loadIfAlive ((t0 : Int).toNat) >>= _) _ _ _
  rw [Int.toNat_natCast]
  refine wpAny_bind (alive_ ht ?_)
  simp only [Option.isNone_some, Bool.false_eq_true, if_false]
  refine wpAny_bind (wpAny_field hz rfl (x := .bool g) rfl ?_)
  cases g with
  | true =>
    simp only [bne_self_eq_false, Bool.false_eq_true, if_false]
    exact wpAny_pure (h _ hz (fun _ _ _ q => q) rfl)
  | false =>
    rw [if_pos (by decide)]
    refine wpAny_bind (wpAny_setField_rec hz (by simp) fun h1 hz1 sb => wpAny_pure ?_)
    exact h h1 hz1 (fun c o q e => (sb.2 c q).trans e) sb.1
end
end L2
namespace L2
open PySem PySem.Spec PyProof.Rows
section
variable {prog : Program} {w : World} {A : Around} {E : Value → Shared → Prop} {s : Shared}
theorem zip_no_len : typeLookup (.type "zip") "__len__" = pure none := by rw [typeLookup_type, builtinLookup_eq_fast]; kernel_rfl
theorem zip_no_hint : typeLookup (.type "zip") "__length_hint__" = pure none := by rw [typeLookup_type, builtinLookup_eq_fast]; kernel_rfl
theorem zip3_hint {z : Addr} {Q : Bool → Shared → Prop} (ty : s.TypeIs (.ref z) "zip") (k : ∀ b tk, Q b { s with toks := tk }) : wpAny (model prog w) A (Builtin.List.listLengthHint (.ref z)) Q E s := by
  unfold Builtin.List.listLengthHint
  refine wpAny_bind (wpAny_specialOf ty zip_no_len ?_)
  show wpAny _ _ (specialOf (Value.ref z) (Str.ofString "__length_hint__") >>= _) _ _ _
  refine wpAny_bind (wpAny_specialOf ty zip_no_hint ?_)
  exact wpAny_pure (k true s.toks)
theorem zip3_iter {z TI TO : Addr} {f : Value} {g : Bool} {Q : Value → Shared → Prop} (hz : Zr s.heap z f g TI TO) (h : Q (.ref z) s) : wpAny (model prog w) A (pyIter (.ref z)) Q E s := by
  have ty : s.TypeIs (.ref z) "zip" := ⟨_, hz, rfl⟩
  refine wpAny_pyIter_slot ty F.slot_zip_iter (wpAny_call_entry F.slot_zip_iter ty F.entry_zip_iter ?_ (F.args_zip_iter_1 _))
  show wpAny _ _ (ret (.ref z)) _ _ s
  exact wpAny_pure ⟨_, rfl, "zip", _, ty, F.slot_zip_next.lookup, h⟩
end
end L2
namespace L2
open PySem PySem.Spec PyProof.Rows
section
variable {prog : Program} {w : World} {A : Around}
end
end L2
namespace L2
open PySem PySem.Spec PyProof.Rows
section
variable {X : Cx} {pins : List (Addr × Obj)} {σ : St} {H H' : Hp} {s : Shared} {h' : Heap}
theorem Inv.many {t' : Nat} (I : Inv X pins σ H s) (old : ∀ b u, s.heap.get? b = some u → h'.get? b = some u) (ag : ∀ b, b < s.heap.objs.size → H' b = H b)
    (new : ∀ b o, s.heap.objs.size ≤ b → H' b = some o → ObjOk X.prog X.w H' h' b o) : Inv X pins σ H' { s with heap := h', toks := t' } := by
  have ag' : ∀ b o, H b = some o → H' b = some o := fun b o e => (ag b (I.hok.lt e)).trans e
  refine I.un ⟨fun b u q _ _ _ => old b u q, fun b u q _ _ _ => ⟨u.slots, old b u q⟩, fun b u q e _ => (ag b (Heap.lt_size q)).trans e, fun b u q _ => ⟨u, old b u q⟩, fun b xs q => ag' b _ q, fun b u v q => ag' b _ q, fun b ps q => ⟨#[], by rw [ag' b _ q]; simp⟩⟩ ?_
  intro b o e
  rcases Nat.lt_or_ge b s.heap.objs.size with lt | ge
  · rw [ag b lt] at e
    exact (I.hok b o e).stay (fun c v _ q => old c v q) (fun c q => ag' c _ q) fun c xs q => ag' c _ q
  · exact new b o ge e
end
open Classical in
noncomputable def zH (H : Hp) (S : Addr) (Ts : List Addr) (rows : List (List V)) : Hp := fun b =>
  if b = S then some (.lst (Ts.map V.ref)) else if h : ∃ (j : Nat) (r : List V), Ts[j]? = some b ∧ rows[j]? = some r then some (.tup h.choose_spec.choose) else H b
theorem zH_row {H : Hp} {S : Addr} {Ts : List Addr} {rows : List (List V)} (nd : (S :: Ts).Nodup) {j : Nat} {t : Addr} {r : List V} (e : Ts[j]? = some t) (er : rows[j]? = some r) : zH H S Ts rows t = some (.tup r) := by
  have nd' := List.nodup_cons.mp nd
  have nS : t ≠ S := fun q => nd'.1 (q ▸ List.mem_of_getElem? e)
  have hex : ∃ (j : Nat) (r : List V), Ts[j]? = some t ∧ rows[j]? = some r := ⟨j, r, e, er⟩
  unfold zH
  rw [if_neg nS, dif_pos hex]
  obtain ⟨p1, p2⟩ := hex.choose_spec.choose_spec
  have : hex.choose = j := (List.getElem?_inj (List.getElem?_eq_some_iff.mp p1).1 nd'.2).mp (p1.trans e.symm)
  have er' : rows[hex.choose]? = some r := by rw [this]; exact er
  exact congrArg (fun z => some (HO.tup z)) (Option.some.inj (p2.symm.trans er'))
theorem zH_oth {H : Hp} {S : Addr} {Ts : List Addr} {rows : List (List V)} {b : Addr} (h1 : b ≠ S) (h2 : b ∉ Ts) : zH H S Ts rows b = H b := by
  unfold zH
  rw [if_neg h1, dif_neg]
  rintro ⟨j, r, e, _⟩
  exact h2 (List.mem_of_getElem? e)
section
variable {X : Cx}
end
end L2
namespace L2
open PySem PySem.Spec PyProof.Rows PySem.W
section
def kasEv {α : Type} (lt : Nat → Nat → Bool) : KasT α → α
  | .ret a => a
  | .ask i j k => kasEv lt (k (lt i j))
def ltP (p q : Int × Int) : Bool := if p.1 = q.1 then (if p.2 = q.2 then false else decide (p.2 < q.2)) else decide (p.1 < q.1)
inductive PrAre (h : Heap) : List Value → List (Int × Int) → Prop where
  | nil : PrAre h [] []
  | cons {a : Addr} {o : Obj} {n : Nat} {x y : Int} {t u : Tok} {vs : List Value} {ps : List (Int × Int)} : h.get? a = some o → o.cls = .type "tuple" → o.data = .seq #[.int x t, .int y u] n → PrAre h vs ps → PrAre h (.ref a :: vs) ((x, y) :: ps)
theorem PrAre.len {h : Heap} {vs : List Value} {ps : List (Int × Int)} (H : PrAre h vs ps) : vs.length = ps.length := by
  induction H with
  | nil => rfl
  | cons _ _ _ _ ih => rw [List.length_cons, List.length_cons, ih]
theorem PrAre.at {h : Heap} {vs : List Value} {ps : List (Int × Int)} (H : PrAre h vs ps) : ∀ (i : Nat), i < ps.length → ∃ (a : Addr) (o : Obj) (n : Nat) (t u : Tok) (p : Int × Int), vs[i]? = some (.ref a) ∧ ps[i]? = some p ∧ h.get? a = some o ∧ o.cls = .type "tuple" ∧ o.data = .seq #[.int p.1 t, .int p.2 u] n := by
  induction H with
  | nil => intro i hi; exact absurd hi (Nat.not_lt_zero _)
  | @cons a o n x y t u vs ps e c d _ ih =>
    intro i hi
    cases i with
    | zero => exact ⟨a, o, n, t, u, (x, y), rfl, rfl, e, c, d⟩
    | succ i => exact ih i (by simpa using hi)
theorem PrAre.keep {h h' : Heap} {vs : List Value} {ps : List (Int × Int)} (H : PrAre h vs ps) (k : ∀ (a : Addr) (o : Obj), .ref a ∈ vs → o.cls = .type "tuple" → h.get? a = some o → h'.get? a = some o) : PrAre h' vs ps := by
  induction H with
  | nil => exact .nil
  | @cons a o n x y t u vs ps e c d _ ih => exact .cons (k a o (by simp) c e) c d (ih fun a' o' m => k a' o' (by simp [m]))
theorem PrAre.firsts {h : Heap} {vs : List Value} {ps : List (Int × Int)} (H : PrAre h vs ps) : ∃ fs, KatTups h vs fs ∧ fs.length = vs.length ∧ ∀ v ∈ fs, ∃ (x : Int) (t : Tok), v = .int x t := by
  induction H with
  | nil => exact ⟨[], KatTups.nil, rfl, fun v hv => by cases hv⟩
  | @cons a o n x y t u vs ps e c d _ ih =>
    obtain ⟨fs, h1, h2, h3⟩ := ih
    refine ⟨.int x t :: fs, KatTups.cons e c d rfl h1, by rw [List.length_cons, List.length_cons, h2], fun v hv => ?_⟩
    rcases List.mem_cons.mp hv with rfl | hv
    · exact ⟨x, t, rfl⟩
    · exact h3 v hv
variable {prog : Program} {w : World} {A : Around} {E : Value → Shared → Prop} {s : Shared}
theorem lt_pair {a b : Addr} {oa ob : Obj} {n m : Nat} {p q : Int × Int} {t u t' u' : Tok} {Q : Bool → Shared → Prop} (ha : s.heap.get? a = some oa) (da : oa.data = .seq #[.int p.1 t, .int p.2 u] n) (hb : s.heap.get? b = some ob) (db : ob.data = .seq #[.int q.1 t', .int q.2 u'] m) (k : Q (ltP p q) s) :
    wpAny (model prog w) A (keyLt' (tuples' true) (.ref a) (.ref b)) Q E s := by
  refine kat_lt ha da hb db ?_
  show KatLex prog w A true false Q [(.int p.1 t, .int q.1 t'), (.int p.2 u, .int q.2 u')] 0 s
  unfold ltP at k
  refine kat_cons (wpAny_eqBool_int ?_)
  by_cases h1 : p.1 = q.1
  · rw [if_pos h1] at k
    rw [beq_iff_eq.mpr h1]
    refine kat_yes (kat_cons (wpAny_eqBool_int ?_))
    by_cases h2 : p.2 = q.2
    · rw [if_pos h2] at k
      rw [beq_iff_eq.mpr h2]
      exact kat_yes (kat_nil k)
    · rw [if_neg h2] at k
      rw [beq_eq_false_iff_ne.mpr h2]
      exact kat_no (kat_one _ _ (lt_int k))
  · rw [if_neg h1] at k
    rw [beq_eq_false_iff_ne.mpr h1]
    exact kat_no (oneLt_int k)
end
end L2
namespace L2
open PySem PySem.Spec PyProof.Rows PySem.W
section
def kasP {α : Type} (lt : Nat → Nat → Bool) (n : Nat) : KasT α → (α → Prop) → Prop
  | .ret a, Q => Q a
  | .ask i j k, Q => i < n ∧ j < n ∧ kasP lt n (k (lt i j)) Q
theorem kasP_bind {α β : Type} {lt : Nat → Nat → Bool} {n : Nat} {f : α → KasT β} {Q : β → Prop} : ∀ t : KasT α, kasP lt n t (fun a => kasP lt n (f a) Q) → kasP lt n (t.bind f) Q
  | .ret _, h => h
  | .ask i j k, h => ⟨h.1, h.2.1, kasP_bind (k (lt i j)) h.2.2⟩
theorem kasP_mono {α : Type} {lt : Nat → Nat → Bool} {n : Nat} {Q Q' : α → Prop} (m : ∀ a, Q a → Q' a) : ∀ t : KasT α, kasP lt n t Q → kasP lt n t Q'
  | .ret a, h => m a h
  | .ask i j k, h => ⟨h.1, h.2.1, kasP_mono m (k (lt i j)) h.2.2⟩
theorem kasP_ev {α : Type} {lt : Nat → Nat → Bool} {n : Nat} {Q : α → Prop} : ∀ t : KasT α, kasP lt n t Q → Q (kasEv lt t)
  | .ret _, h => h
  | .ask i j k, h => kasP_ev (k (lt i j)) h.2.2
theorem kasP_wp {α : Type} {cmp : Nat → Nat → (Bool → Shared → Prop) → Shared → Prop} {lt : Nat → Nat → Bool} {n : Nat} {s : Shared} {Q : α → Shared → Prop} {Q' : α → Prop} (hc : ∀ (i j : Nat) (C : Bool → Shared → Prop), i < n → j < n → C (lt i j) s → cmp i j C s) :
    ∀ t : KasT α, kasP lt n t Q' → Q (kasEv lt t) s → KasT.kasWp cmp t Q s
  | .ret a, _, q => q
  | .ask i j k, h, q => hc i j _ h.1 h.2.1 (kasP_wp hc (k (lt i j)) h.2.2 q)
theorem ltP_iff {a b : Int × Int} : ltP a b = true ↔ a.1 < b.1 ∨ (a.1 = b.1 ∧ a.2 < b.2) := by
  unfold ltP
  by_cases h1 : a.1 = b.1
  · rw [if_pos h1]
    by_cases h2 : a.2 = b.2
    · rw [if_pos h2]
      constructor
      · intro z; cases z
      · intro z; omega
    · rw [if_neg h2, decide_eq_true_iff]
      omega
  · rw [if_neg h1, decide_eq_true_iff]
    omega
def leP (a b : Int × Int) : Prop := ltP b a = false
theorem leP_iff {a b : Int × Int} : leP a b ↔ a.1 < b.1 ∨ (a.1 = b.1 ∧ a.2 ≤ b.2) := by
  unfold leP
  rw [← Bool.not_eq_true, ltP_iff]
  omega
theorem leP.refl (a : Int × Int) : leP a a := leP_iff.mpr (by omega)
theorem leP.trans {a b c : Int × Int} (h : leP a b) (h' : leP b c) : leP a c := by
  rw [leP_iff] at *
  omega
theorem leP.anti {a b : Int × Int} (h : leP a b) (h' : leP b a) : a = b := by
  rw [leP_iff] at *
  exact Prod.ext (by omega) (by omega)
theorem ltP.le {a b : Int × Int} (h : ltP a b = true) : leP a b := by
  rw [ltP_iff] at h
  rw [leP_iff]
  omega
variable (key : Nat → Int × Int)
def Kp (p : Array Nat) (k : Nat) : Int × Int := key (p.getD k 0)
abbrev ltK (i j : Nat) : Bool := ltP (key i) (key j)
def Gd (n : Nat) (p : Array Nat) : Prop := p.toList.Perm (List.range n)
theorem Gd.size {n : Nat} {p : Array Nat} (h : Gd n p) : p.size = n := by
  have := h.length_eq
  rw [List.length_range, Array.length_toList] at this
  exact this
theorem Gd.lt {n : Nat} {p : Array Nat} (h : Gd n p) {k : Nat} (hk : k < n) : p.getD k 0 < n := by
  have hk' : k < p.size := by rw [h.size]; exact hk
  have e : p.getD k 0 = p[k] := by simp [hk']
  rw [e]
  exact List.mem_range.mp (h.mem_iff.mp (by simp))
theorem Gd.of {n : Nat} {p q : Array Nat} (h : Gd n p) (e : q.Perm p) : Gd n q := List.Perm.trans (Array.perm_iff_toList_perm.mp e) h
theorem Kp_eq (p : Array Nat) (k : Nat) : Kp key p k = key (p[k]?.getD 0) := by
  unfold Kp
  rw [Array.getD_eq_getD_getElem?]
theorem Kp_rev {p : Array Nat} {i j : Nat} (hj : j ≤ p.size) (k : Nat) : Kp key (kas_rev p i j) k = if i ≤ k ∧ k < j then Kp key p (i + j - 1 - k) else Kp key p k := by
  unfold kas_rev
  rw [Kp_eq, getElem?_mirror_all hj]
  by_cases h : i ≤ k ∧ k < j
  · rw [if_pos h, if_pos h, Kp_eq]
  · rw [if_neg h, if_neg h, Kp_eq]
theorem Kp_bub {p : Array Nat} {k l : Nat} (hk : k < p.size) (hl : l ≤ k) (i : Nat) : Kp key (bubble p k (k - l)) i = if i = l then Kp key p k else if l < i ∧ i ≤ k then Kp key p (i - 1) else Kp key p i := by
  have e : k - (k - l) = l := by omega
  rw [Kp_eq, getElem?_bubble hk _ (by omega), e]
  by_cases h : i = l
  · rw [if_pos h, if_pos h, Kp_eq]
  · rw [if_neg h, if_neg h]
    by_cases h2 : l < i ∧ i ≤ k
    · rw [if_pos h2, if_pos h2, Kp_eq]
    · rw [if_neg h2, if_neg h2, Kp_eq]
def UpA (p : Array Nat) (m : Nat) : Prop := ∀ k, 1 ≤ k → k < m → leP (Kp key p (k - 1)) (Kp key p k)
def DnA (p : Array Nat) (m : Nat) : Prop := ∀ k, 1 ≤ k → k < m → leP (Kp key p k) (Kp key p (k - 1))
theorem UpA.all {p : Array Nat} {m : Nat} (h : UpA key p m) : ∀ (d i : Nat), i + d < m → leP (Kp key p i) (Kp key p (i + d))
  | 0, i, _ => .refl _
  | d + 1, i, hd => (UpA.all h d i (by omega)).trans (h (i + d + 1) (by omega) hd)
theorem UpA.le {p : Array Nat} {m i j : Nat} (h : UpA key p m) (hij : i ≤ j) (hj : j < m) : leP (Kp key p i) (Kp key p j) := by
  have := h.all key (j - i) i (by omega)
  rwa [show i + (j - i) = j by omega] at this
theorem kp_asc {n : Nat} {p : Array Nat} (hp : Gd n p) : ∀ (f a : Nat), 1 ≤ a → a + f ≤ n → kasP (ltK key) n (kas_asc p f a) fun m => a ≤ m ∧ m ≤ a + f ∧ (∀ k, a ≤ k → k < m → leP (Kp key p (k - 1)) (Kp key p k)) ∧ (m < a + f → ltP (Kp key p m) (Kp key p (m - 1)) = true)
  | 0, a, _, _ => ⟨Nat.le_refl _, Nat.le_refl _, (fun k h1 h2 => absurd h1 (by omega)), fun h => absurd h (by omega)⟩
  | f + 1, a, h1, h2 => by
    refine ⟨hp.lt (by omega), hp.lt (by omega), ?_⟩
    show kasP _ _ (if ltP (Kp key p a) (Kp key p (a - 1)) = true then .ret a else kas_asc p f (a + 1)) _
    by_cases c : ltP (Kp key p a) (Kp key p (a - 1)) = true
    · rw [if_pos c]
      exact ⟨Nat.le_refl _, by omega, (fun k h1 h2 => absurd h1 (by omega)), fun _ => c⟩
    · rw [if_neg c]
      refine kasP_mono (fun m hm => ?_) _ (kp_asc hp f (a + 1) (by omega) (by omega))
      obtain ⟨m1, m2, m3, m4⟩ := hm
      refine ⟨by omega, by omega, fun k k1 k2 => ?_, fun h => m4 (by omega)⟩
      by_cases e : k = a
      · subst e
        exact Bool.eq_false_iff.mpr c
      · exact m3 k (by omega) k2
theorem kp_desc {n : Nat} : ∀ (f : Nat) (p : Array Nat) (a q : Nat), Gd n p → a + f ≤ n → q + 1 ≤ a → DnA key p a → (∀ k, a ≤ k + 1 + q → k < a → Kp key p k = Kp key p (a - 1)) →
    kasP (ltK key) n (kas_desc f p a q) fun r => Gd n r.1 ∧ a ≤ r.2.1 ∧ r.2.1 ≤ a + f ∧ DnA key r.1 r.2.1 ∧ r.2.2 + 1 ≤ r.2.1 ∧ ∀ k, r.2.1 ≤ k + 1 + r.2.2 → k < r.2.1 → Kp key r.1 k = Kp key r.1 (r.2.1 - 1)
  | 0, p, a, q, hp, h1, h2, dn, eq => ⟨hp, Nat.le_refl _, Nat.le_refl _, dn, h2, eq⟩
  | f + 1, p, a, q, hp, h1, h2, dn, eq => by
    refine ⟨hp.lt (by omega), hp.lt (by omega), ?_⟩
    show kasP _ _ (if ltP (Kp key p a) (Kp key p (a - 1)) = true then (if q > 0 then kas_desc f (kas_rev p (a - (q + 1)) a) (a + 1) 0 else kas_desc f p (a + 1) 0) else .ask (p.getD (a - 1) 0) (p.getD a 0) fun d => if d = true then .ret (p, a, q) else kas_desc f p (a + 1) (q + 1)) _
    by_cases c : ltP (Kp key p a) (Kp key p (a - 1)) = true
    · rw [if_pos c]
      have dn1 : DnA key p (a + 1) := fun k k1 k2 => by
        by_cases e : k = a
        · subst e; exact ltP.le c
        · exact dn k k1 (by omega)
      by_cases hq : q > 0
      · rw [if_pos hq]
        have same : ∀ k, Kp key (kas_rev p (a - (q + 1)) a) k = Kp key p k := fun k => by
          rw [Kp_rev key (by rw [hp.size]; omega)]
          split
          · rw [eq k (by omega) (by omega), eq _ (by omega) (by omega)]
          · rfl
        refine kasP_mono (fun r hr => ?_) _ (kp_desc f (kas_rev p (a - (q + 1)) a) (a + 1) 0 (hp.of (mirror_perm _ _ _ _)) (by omega) (by omega) (fun k k1 k2 => by rw [same, same]; exact dn1 k k1 k2) (fun k k1 k2 => by
          have : k = a + 1 - 1 := by omega
          rw [this]))
        obtain ⟨r1, r2, r3, r4⟩ := hr
        exact ⟨r1, by omega, by omega, r4⟩
      · rw [if_neg hq]
        refine kasP_mono (fun r hr => ?_) _ (kp_desc f p (a + 1) 0 hp (by omega) (by omega) dn1 (fun k k1 k2 => by
          have : k = a + 1 - 1 := by omega
          rw [this]))
        obtain ⟨r1, r2, r3, r4⟩ := hr
        exact ⟨r1, by omega, by omega, r4⟩
    · rw [if_neg c]
      refine ⟨hp.lt (by omega), hp.lt (by omega), ?_⟩
      show kasP _ _ (if ltP (Kp key p (a - 1)) (Kp key p a) = true then .ret (p, a, q) else kas_desc f p (a + 1) (q + 1)) _
      by_cases c2 : ltP (Kp key p (a - 1)) (Kp key p a) = true
      · rw [if_pos c2]
        exact ⟨hp, Nat.le_refl _, by show a ≤ _; omega, dn, h2, eq⟩
      · rw [if_neg c2]
        have e0 : Kp key p a = Kp key p (a - 1) := leP.anti (Bool.eq_false_iff.mpr c2) (Bool.eq_false_iff.mpr c)
        refine kasP_mono (fun r hr => ?_) _ (kp_desc f p (a + 1) (q + 1) hp (by omega) (by omega) (fun k k1 k2 => ?_) (fun k k1 k2 => ?_))
        · obtain ⟨r1, r2, r3, r4⟩ := hr
          exact ⟨r1, by omega, by omega, r4⟩
        · by_cases e : k = a
          · subst e; rw [e0]; exact .refl _
          · exact dn k k1 (by omega)
        · show _ = Kp key p (a + 1 - 1)
          rw [Nat.add_sub_cancel]
          by_cases e : k = a
          · rw [e]
          · rw [eq k (by omega) (by omega), e0]
def Run (n : Nat) (r : Nat × Array Nat) : Prop := Gd n r.2 ∧ 1 ≤ r.1 ∧ r.1 ≤ n ∧ UpA key r.2 r.1
theorem kp_tail3 {n a : Nat} {p : Array Nat} (hp : Gd n p) (h1 : 1 ≤ a) (h2 : a ≤ n) (dn : DnA key p a) : kasP (ltK key) n (kas_tail3 a n p) (Run key n) := by
  have hr : Gd n (kas_rev p 0 a) := hp.of (mirror_perm _ _ _ _)
  refine kasP_bind _ (kasP_mono (fun m hm => ?_) _ (kp_asc key hr (n - a) a h1 (by omega)))
  obtain ⟨m1, m2, m3, _⟩ := hm
  refine ⟨hr, by show 1 ≤ m; omega, by show m ≤ n; omega, fun k k1 k2 => ?_⟩
  by_cases hk : k < a
  · rw [Kp_rev key (by rw [hp.size]; exact h2), Kp_rev key (by rw [hp.size]; exact h2), if_pos ⟨by omega, by omega⟩, if_pos ⟨by omega, by omega⟩]
    have := dn (0 + a - 1 - (k - 1)) (by omega) (by omega)
    rw [show 0 + a - 1 - (k - 1) - 1 = 0 + a - 1 - k by omega] at this
    exact this
  · exact m3 k (by omega) k2
theorem kp_descPart {n a : Nat} {p : Array Nat} (hp : Gd n p) (h1 : 1 ≤ a) (h2 : a + 1 ≤ n) (dn : DnA key p (a + 1)) : kasP (ltK key) n (kas_descPart a n p) (Run key n) := by
  refine kasP_bind _ (kasP_mono (fun r hr => ?_) _ (kp_desc key (n - (a + 1)) p (a + 1) 0 hp (by omega) (by omega) dn (fun k k1 k2 => by
    have : k = a + 1 - 1 := by omega
    rw [this])))
  obtain ⟨p', a', q'⟩ := r
  obtain ⟨r1, r2, r3, r4, r5, r6⟩ := hr
  have r1' : Gd n p' := r1
  have r2' : a + 1 ≤ a' := r2
  have r3' : a' ≤ a + 1 + (n - (a + 1)) := r3
  have r4' : DnA key p' a' := r4
  have r5' : q' + 1 ≤ a' := r5
  have r6' : ∀ k, a' ≤ k + 1 + q' → k < a' → Kp key p' k = Kp key p' (a' - 1) := r6
  show kasP _ _ (if q' > 0 then kas_tail3 a' n (kas_rev p' (a' - (q' + 1)) a') else kas_tail3 a' n p') _
  by_cases hq : q' > 0
  · rw [if_pos hq]
    have same : ∀ k, Kp key (kas_rev p' (a' - (q' + 1)) a') k = Kp key p' k := fun k => by
      rw [Kp_rev key (by rw [r1'.size]; omega)]
      split
      · rw [r6' k (by omega) (by omega), r6' _ (by omega) (by omega)]
      · rfl
    exact kp_tail3 key (r1'.of (mirror_perm _ _ _ _)) (by omega) (by omega) fun k k1 k2 => by rw [same, same]; exact r4' k k1 k2
  · rw [if_neg hq]
    exact kp_tail3 key r1' (by omega) (by omega) r4'
theorem kp_count {n : Nat} {p : Array Nat} (hp : Gd n p) (hn : 1 ≤ n) : kasP (ltK key) n (kas_count n p) (Run key n) := by
  refine kasP_bind _ (kasP_mono (fun m hm => ?_) _ (kp_asc key hp (n - 1) 1 (Nat.le_refl _) (by omega)))
  obtain ⟨m1, m2, m3, m4⟩ := hm
  have up : UpA key p m := fun k k1 k2 => m3 k k1 k2
  show kasP _ _ (if (m == n) = true then .ret (m, p) else if m > 1 then .ask (p.getD 0 0) (p.getD (m - 1) 0) fun c => if c = true then .ret (m, p) else kas_descPart m n (kas_rev p 0 m) else kas_descPart m n p) _
  by_cases e : (m == n) = true
  · rw [if_pos e]
    exact ⟨hp, m1, by show m ≤ n; omega, up⟩
  · rw [if_neg e]
    have ne : m ≠ n := fun z => e (by rw [z]; simp)
    have lt := m4 (by omega)
    by_cases h1 : m > 1
    · rw [if_pos h1]
      refine ⟨hp.lt (by omega), hp.lt (by omega), ?_⟩
      show kasP _ _ (if ltP (Kp key p 0) (Kp key p (m - 1)) = true then .ret (m, p) else kas_descPart m n (kas_rev p 0 m)) _
      by_cases c : ltP (Kp key p 0) (Kp key p (m - 1)) = true
      · rw [if_pos c]
        exact ⟨hp, m1, by show m ≤ n; omega, up⟩
      · rw [if_neg c]
        have c' : leP (Kp key p (m - 1)) (Kp key p 0) := Bool.eq_false_iff.mpr c
        have all : ∀ k, k < m → Kp key p k = Kp key p 0 := fun k hk => leP.anti ((up.le key (by omega) (by omega)).trans c') (up.le key (Nat.zero_le _) hk)
        have same : ∀ k, Kp key (kas_rev p 0 m) k = Kp key p k := fun k => by
          rw [Kp_rev key (by rw [hp.size]; omega)]
          split
          · rw [all _ (by omega), all k (by omega)]
          · rfl
        refine kp_descPart key (hp.of (mirror_perm _ _ _ _)) m1 (by omega) fun k k1 k2 => ?_
        rw [same, same]
        by_cases ek : k = m
        · subst ek; exact ltP.le lt
        · rw [all k (by omega), all (k - 1) (by omega)]; exact .refl _
    · rw [if_neg h1]
      have em : m = 1 := by omega
      subst em
      refine kp_descPart key hp (by omega) (by omega) fun k k1 k2 => ?_
      have : k = 1 := by omega
      subst this
      exact ltP.le lt
theorem kp_place {n k : Nat} {p : Array Nat} (hp : Gd n p) (hk : k < n) (up : UpA key p k) : ∀ (f l r : Nat), l ≤ r → r ≤ k → r - l ≤ f → (∀ i, i < l → leP (Kp key p i) (Kp key p k)) → (∀ i, r ≤ i → i < k → leP (Kp key p k) (Kp key p i)) →
    kasP (ltK key) n (kas_place p k f l r) fun m => m ≤ k ∧ (∀ i, i < m → leP (Kp key p i) (Kp key p k)) ∧ ∀ i, m ≤ i → i < k → leP (Kp key p k) (Kp key p i)
  | 0, l, r, h1, h2, h3, a, b => ⟨by omega, a, fun i i1 i2 => b i (by omega) i2⟩
  | f + 1, l, r, h1, h2, h3, a, b => by
    show kasP _ _ (if l ≥ r then .ret l else .ask (p.getD k 0) (p.getD ((l + r) / 2) 0) fun c => if c = true then kas_place p k f l ((l + r) / 2) else kas_place p k f ((l + r) / 2 + 1) r) _
    by_cases c : l ≥ r
    · rw [if_pos c]
      exact ⟨by omega, a, fun i i1 i2 => b i (by omega) i2⟩
    · rw [if_neg c]
      refine ⟨hp.lt hk, hp.lt (by omega), ?_⟩
      show kasP _ _ (if ltP (Kp key p k) (Kp key p ((l + r) / 2)) = true then kas_place p k f l ((l + r) / 2) else kas_place p k f ((l + r) / 2 + 1) r) _
      by_cases d : ltP (Kp key p k) (Kp key p ((l + r) / 2)) = true
      · rw [if_pos d]
        exact kp_place hp hk up f l ((l + r) / 2) (by omega) (by omega) (by omega) a fun i i1 i2 => (ltP.le d).trans (up.le key i1 i2)
      · rw [if_neg d]
        have d' : leP (Kp key p ((l + r) / 2)) (Kp key p k) := Bool.eq_false_iff.mpr d
        exact kp_place hp hk up f ((l + r) / 2 + 1) r (by omega) h2 (by omega) (fun i hi => (up.le key (by omega) (by omega)).trans d') b
theorem kp_bin {n : Nat} : ∀ (f : Nat) (p : Array Nat) (k : Nat), Gd n p → 1 ≤ k → k + f = n → UpA key p k → kasP (ltK key) n (kas_bin f p k) fun p' => Gd n p' ∧ UpA key p' n
  | 0, p, k, hp, _, hk, up => ⟨hp, by rw [show n = k by omega]; exact up⟩
  | f + 1, p, k, hp, h1, hk, up => by
    refine kasP_bind _ (kasP_mono (fun l hl => ?_) _ (kp_place key hp (by omega) up k 0 k (Nat.zero_le _) (Nat.le_refl _) (by omega) (fun i hi => absurd hi (by omega)) (fun i i1 i2 => absurd i1 (by omega))))
    obtain ⟨l1, l2, l3⟩ := hl
    have hks : k < p.size := by rw [hp.size]; omega
    refine kp_bin f (bubble p k (k - l)) (k + 1) (hp.of (bubble_perm _ _ _)) (by omega) (by omega) fun i i1 i2 => ?_
    rw [Kp_bub key hks l1, Kp_bub key hks l1]
    by_cases e1 : i = l
    · rw [if_pos e1, if_neg (by omega), if_neg (by omega)]
      exact l2 _ (by omega)
    · by_cases e2 : i - 1 = l
      · rw [if_pos e2, if_neg e1, if_pos ⟨by omega, by omega⟩, e2]
        exact l3 l (Nat.le_refl _) (by omega)
      · rw [if_neg e1, if_neg e2]
        by_cases e3 : l < i
        · rw [if_pos ⟨by omega, by omega⟩, if_pos ⟨by omega, by omega⟩]
          exact up (i - 1) (by omega) (by omega)
        · rw [if_neg (by omega), if_neg (by omega)]
          exact up i i1 (by omega)
theorem kp_sort {n : Nat} (hn : 1 ≤ n) : kasP (ltK key) n (kas_sort n) fun p => Gd n p ∧ UpA key p n := by
  refine kasP_bind _ (kasP_mono (fun r hr => ?_) _ (kp_count key (p := List.toArray (List.range n)) (by show List.Perm _ _; simp) hn))
  obtain ⟨m, p⟩ := r
  obtain ⟨r1, r2, r3, r4⟩ := hr
  have r1' : Gd n p := r1
  have r2' : 1 ≤ m := r2
  have r3' : m ≤ n := r3
  have r4' : UpA key p m := r4
  show kasP _ _ (if m < n then kas_bin (n - max m 1) p (max m 1) else .ret p) _
  by_cases h : m < n
  · rw [if_pos h, Nat.max_eq_left r2']
    exact kp_bin key (n - m) p m r1' r2' (by omega) r4'
  · rw [if_neg h]
    have e : m = n := by omega
    rw [e] at r4'
    exact ⟨r1', r4'⟩
end
end L2
namespace L2
open PySem PySem.Spec PyProof.Rows PySem.W
section
def ordP (ps : List (Int × Int)) : List Nat := (kasEv (fun i j => ltP (ps.getD i (0, 0)) (ps.getD j (0, 0))) (kas_sort ps.length)).toList
def srtP (ps : List (Int × Int)) : List (Int × Int) := if ps.length < 2 then ps else (ordP ps).map fun i => ps.getD i (0, 0)
theorem ord_perm {ps : List (Int × Int)} (h : 1 ≤ ps.length) : (ordP ps).Perm (List.range ps.length) := (kasP_ev _ (kp_sort (fun i => ps.getD i (0, 0)) h)).1
theorem ord_lt {ps : List (Int × Int)} (h : 1 ≤ ps.length) : (∀ i ∈ ordP ps, i < ps.length) ∧ (ordP ps).length = ps.length := by
  have := ord_perm h
  exact ⟨fun i hi => List.mem_range.mp (this.mem_iff.mp hi), by rw [this.length_eq, List.length_range]⟩
theorem map_range (ps : List (Int × Int)) : ((List.range ps.length).map fun i => ps.getD i (0, 0)) = ps := by
  apply List.ext_getElem?
  intro i
  rw [List.getElem?_map]
  by_cases h : i < ps.length
  · rw [List.getElem?_range h, List.getElem?_eq_getElem h]
    simp [h]
  · rw [List.getElem?_eq_none (by rw [List.length_range]; omega), List.getElem?_eq_none (by omega)]
    rfl
theorem srtP_perm (ps : List (Int × Int)) : (srtP ps).Perm ps := by
  unfold srtP
  by_cases c : ps.length < 2
  · rw [if_pos c]
  · rw [if_neg c]
    have := (ord_perm (ps := ps) (by omega)).map fun i => ps.getD i (0, 0)
    rw [map_range] at this
    exact this
theorem srtP_sorted (ps : List (Int × Int)) : (srtP ps).Pairwise leP := by
  unfold srtP
  by_cases c : ps.length < 2
  · rw [if_pos c]
    match ps, c with
    | [], _ => exact .nil
    | [_], _ => exact List.pairwise_singleton _ _
  · rw [if_neg c]
    obtain ⟨g, u⟩ := kasP_ev _ (kp_sort (fun i => ps.getD i (0, 0)) (n := ps.length) (by omega))
    rw [List.pairwise_iff_getElem]
    intro i j hi hj hij
    rw [List.length_map] at hi hj
    have lo : (ordP ps).length = ps.length := (ord_lt (by omega)).2
    have := u.le _ (i := i) (j := j) (by omega) (by omega)
    rw [Kp_eq, Kp_eq] at this
    have e : ∀ k (hk : k < (ordP ps).length), (kasEv (fun i j => ltP (ps.getD i (0, 0)) (ps.getD j (0, 0))) (kas_sort ps.length))[k]? = some (ordP ps)[k] := fun k hk => by
      rw [← Array.getElem?_toList]
      exact List.getElem?_eq_getElem hk
    rw [List.getElem_map, List.getElem_map]
    have e1 := e i hi
    have e2 := e j hj
    rw [show kasEv (ltK fun i => ps.getD i (0, 0)) (kas_sort ps.length) = kasEv (fun i j => ltP (ps.getD i (0, 0)) (ps.getD j (0, 0))) (kas_sort ps.length) from rfl, e1, e2] at this
    exact this
theorem srtP_iff {ps qs : List (Int × Int)} : srtP ps = srtP qs ↔ ps.Perm qs := by
  constructor
  · intro e
    exact (srtP_perm ps).symm.trans (e ▸ srtP_perm qs)
  · intro h
    exact List.Perm.eq_of_pairwise (fun a b _ _ => leP.anti) (srtP_sorted ps) (srtP_sorted qs) (((srtP_perm ps).trans h).trans (srtP_perm qs).symm)
def srtV (ps : List (Int × Int)) (vs : List Value) : List Value := if ps.length < 2 then vs else (ordP ps).map fun i => vs.getD i Value.none
theorem srtV_len {vs : List Value} {ps : List (Int × Int)} (hl : vs.length = ps.length) : (srtV ps vs).length = ps.length := by
  unfold srtV
  by_cases c : ps.length < 2
  · rw [if_pos c]; exact hl
  · rw [if_neg c, List.length_map]
    exact (ord_lt (by omega)).2
theorem snds (vs : List Value) : Array.map (fun x => x.snd) (vs.toArray.zip vs.toArray) = vs.toArray := by
  apply Array.ext'
  simp
  exact List.map_snd_zip (Nat.le_refl _)
variable {prog : Program} {w : World} {A : Around} {E : Value → Shared → Prop} {s : Shared}
theorem sort_pairs {a : Addr} {vs : List Value} {ps : List (Int × Int)} {n : Nat} {P : PySem.Fin → Shared → Prop} (e : s.heap.get? a = some (seqObj "list" vs.toArray n)) (H : PrAre s.heap vs ps) (hl : vs.length < 64)
    (k : P (Fin.done (Flow.ret Value.none)) { s with heap := sortedHeap s.heap a vs (srtV ps vs).toArray }) : wpAny (model prog w) A (Builtin.«list.sort» { pos := [Value.ref a] }) P E s := by
  rw [list_sort_plain]
  have hlp := H.len
  refine wpAny_bind (listItems_at e rfl ?_)
  refine wpAny_bind (listUpdate_at e rfl ?_ (by rw [List.size_toArray]; exact Nat.le_of_lt (small1000 (by omega))) (by simp))
  obtain ⟨ep, e1⟩ : ∃ ep, (s.heap.update a (Obj.mapSeq fun _ => #[])).get? a = some (seqObj "list" #[] ep) := ⟨_, get?_update_seq e (fun _ => #[])⟩
  refine wpAny_bind (seqEpoch_at e1 rfl ?_)
  refine wpAny_bind (wpAny_newTuple ?_ (by simp only [List.toList_toArray]; exact Nat.le_of_lt (small1000 (by omega))))
  refine wpAny_bind (wpAny_newList ?_ (by simp))
  refine wpAny_holding ?_
  have e2 : (((s.heap.update a (Obj.mapSeq fun x => #[])).push (seqObj "tuple" vs.toArray 0)).push (seqObj "list" #[] 0)).get? a = some (seqObj "list" #[] ep) := Heap.get?_push_of_some _ (Heap.get?_push_of_some _ e1)
  have keep : PrAre (((s.heap.update a (Obj.mapSeq fun x => #[])).push (seqObj "tuple" vs.toArray 0)).push (seqObj "list" #[] 0)) vs ps := H.keep fun b o _ ho' eb => by
    have nb : b ≠ a := fun z => by
      rw [z, e] at eb
      have eo := Option.some.inj eb
      rw [← eo] at ho'
      have ho2 : (Value.type "list") = Value.type "tuple" := ho'
      exact absurd ho2 (by decide)
    exact Heap.get?_push_of_some _ (Heap.get?_push_of_some _ (Heap.get?_update_of_ne _ nb.symm eb))
  by_cases c : vs.toArray.size < 2
  · have c' : ps.length < 2 := by rw [← hlp]; simpa using c
    have es : srtV ps vs = vs := by unfold srtV; rw [if_pos c']
    rw [es] at k
    rw [if_pos c, if_pos c]
    refine wpAny_bind (wpAny_pure ?_)
    refine wpAny_bind (wpAny_pure ?_)
    refine wpAny_bind (seqEpoch_at e2 rfl ?_)
    refine wpAny_bind (listUpdate_at e2 rfl ?_ (by simp) ?_)
    · show wpAny _ _ (if (ep != ep) = true then _ else ret Value.none) P E _
      rw [bne_self_eq_false, if_neg Bool.false_ne_true]
      refine wpAny_pure ?_
      have hX : Array.map (fun x => x.snd) (arrOf (SortSt.mk' general' (vs.toArray.zip vs.toArray) #[] 7 none)) = vs.toArray := snds vs
      rw [hX]
      exact k
    · have hX : Array.map (fun x => x.snd) (arrOf (SortSt.mk' general' (vs.toArray.zip vs.toArray) #[] 7 none)) = vs.toArray := snds vs
      rw [hX, List.size_toArray]
      exact Nat.le_succ_of_le (Nat.le_of_lt (small1000 (by omega)))
  · have c' : ¬ ps.length < 2 := by rw [← hlp]; simpa using c
    rw [if_neg c, if_neg c]
    obtain ⟨fs, f1, f2, f3⟩ := keep.firsts
    refine wpAny_bind (kat_kind (T := .type "int") f1 (by omega) (fun v hv => ?_) (by decide) ?_)
    · obtain ⟨x, t, rfl⟩ := f3 v hv
      exact fun A Q E s' _ q => wpAny_typeOf rfl q
    · have h2e : ∃ S : Shared, S = { s with heap := (((s.heap.update a (Obj.mapSeq fun x => #[])).push (seqObj "tuple" vs.toArray 0)).push (seqObj "list" #[] 0)) } := ⟨_, rfl⟩
      obtain ⟨S, hS⟩ := h2e
      have eS : S.heap.get? a = some (seqObj "list" #[] ep) := by rw [hS]; exact e2
      have kS : PrAre S.heap vs ps := by rw [hS]; exact keep
      have kk : P (Fin.done (Flow.ret Value.none)) { S with heap := S.heap.update a (Obj.mapSeq fun _ => (srtV ps vs).toArray) } := by rw [hS]; exact k
      show wpAny (model prog w) A _ P E { s with heap := (((s.heap.update a (Obj.mapSeq fun x => #[])).push (seqObj "tuple" vs.toArray 0)).push (seqObj "list" #[] 0)) }
      rw [← hS]
      clear hS k keep e2 e1 f1 f3
      have run := kat_run (prog := prog) (w := w) (A := A) (E := E) (s := S) (vs := vs) (ks := vs) (κ := tuples' true) rfl (by omega) hl (Q := fun st s' => Array.map (fun x => x.snd) (arrOf st) = (srtV ps vs).toArray ∧ failedOf st = none ∧ s' = S) (G := fun p s' => p = kasEv (fun i j => ltP (ps.getD i (0, 0)) (ps.getD j (0, 0))) (kas_sort vs.length) ∧ s' = S) (fun p st' s' hp ha hf hg => ?_) ?_
      · refine wpAny_bind (wpAny_mono run (fun r s' hr => ?_) fun _ _ h => h)
        obtain ⟨⟨⟩, st⟩ := r
        obtain ⟨r1, r2, rfl⟩ := hr
        refine wpAny_bind (seqEpoch_at eS rfl ?_)
        refine wpAny_bind (listUpdate_at eS rfl ?_ (by simp) ?_)
        · show wpAny _ _ (match failedOf st with | some e => _ | x => if (ep != ep) = true then _ else ret Value.none) P E _
          rw [r2]
          show wpAny _ _ (if (ep != ep) = true then _ else ret Value.none) P E _
          rw [bne_self_eq_false, if_neg Bool.false_ne_true]
          refine wpAny_pure ?_
          have r1' : Array.map (fun x => x.snd) (arrOf st) = (srtV ps vs).toArray := r1
          rw [r1']
          exact kk
        · show (Array.map (fun x => x.snd) (arrOf st)).size ≤ _
          have r1' : Array.map (fun x => x.snd) (arrOf st) = (srtV ps vs).toArray := r1
          rw [r1', List.size_toArray, srtV_len hlp]
          exact Nat.le_succ_of_le (Nat.le_of_lt (small1000 (by omega)))
      · obtain ⟨rfl, rfl⟩ := hg
        refine ⟨?_, hf, rfl⟩
        have hi : ((fun x : Keyed => x.snd) ∘ kas_item (vs.toArray.zip vs.toArray)) = fun i => vs.getD i Value.none := funext fun i => by
          show (kas_item (vs.toArray.zip vs.toArray) i).2 = _
          rw [kat_item rfl i]
        rw [ha, Array.map_map, hi]
        unfold srtV ordP
        rw [if_neg c', hlp]
        apply Array.ext'
        simp
      · refine kasP_wp (n := vs.length) (lt := fun i j => ltP (ps.getD i (0, 0)) (ps.getD j (0, 0))) (fun i j C hi hj hC => ?_) _ (by rw [hlp]; exact kp_sort (fun i => ps.getD i (0, 0)) (by omega)) ⟨rfl, rfl⟩
        obtain ⟨a1, o1, n1, t1, u1, p1, x1, x2, x3, x4, x5⟩ := kS.at i (by omega)
        obtain ⟨a2, o2, n2, t2, u2, p2, y1, y2, y3, y4, y5⟩ := kS.at j (by omega)
        show wpAny _ _ (keyLt' (tuples' true) (vs.getD i Value.none) (vs.getD j Value.none)) C _ S
        have g1 : vs.getD i Value.none = .ref a1 := by rw [List.getD_eq_getElem?_getD, x1]; rfl
        have g2 : vs.getD j Value.none = .ref a2 := by rw [List.getD_eq_getElem?_getD, y1]; rfl
        have g3 : ps.getD i (0, 0) = p1 := by rw [List.getD_eq_getElem?_getD, x2]; rfl
        have g4 : ps.getD j (0, 0) = p2 := by rw [List.getD_eq_getElem?_getD, y2]; rfl
        have hC' : C (ltP (ps.getD i (0, 0)) (ps.getD j (0, 0))) S := hC
        rw [g3, g4] at hC'
        rw [g1, g2]
        exact lt_pair x3 x5 y3 y5 hC'
end
end L2
namespace L2
open PySem PySem.Spec PyProof.Rows PySem.W
section
variable {prog : Program} {w : World} {A : Around} {E : Value → Shared → Prop} {s : Shared}
theorem sorted_tail {vs : List Value} {ps : List (Int × Int)} {Q : PySem.Fin → Shared → Prop} (H : PrAre s.heap vs ps) (hl : vs.length < 64)
    (k : Q (Fin.done (Flow.ret (Value.ref s.heap.objs.size))) { s with heap := sortedHeap (s.heap.push (seqObj "list" vs.toArray 0)) s.heap.objs.size vs (srtV ps vs).toArray }) :
    wpAny (model prog w) A (do let l ← newList vs; let _ ← holding [l] (call (Value.builtin "list.sort") [l]); ret l) Q E s := by
  refine wpAny_bind (wpAny_newList ?_ (Nat.le_of_lt (small1000 (by omega))))
  have e : (s.heap.push (seqObj "list" vs.toArray 0)).get? s.heap.objs.size = some (seqObj "list" vs.toArray 0) := Heap.get?_push_size _ rfl
  refine wpAny_bind (wpAny_holding (wpAny_call_entry slot_list_sort ⟨_, e, rfl⟩ entry_list_sort ?_ (args_list_sort _)))
  exact sort_pairs e (H.keep fun b o _ _ eb => Heap.get?_push_of_some _ eb) hl ⟨_, rfl, wpAny_pure k⟩
theorem sorted_pairs {l : Addr} {vs : List Value} {ps : List (Int × Int)} {Q : Value → Shared → Prop} (isl : s.heap.IsList l vs.toArray) (H : PrAre s.heap vs ps) (hl : vs.length < 64)
    (k : Q (.ref (s.heap.objs.size + 1)) { s with heap := sortedAll s.heap vs (srtV ps vs).toArray }) : wpAny (model prog w) A (call (Value.builtin "sorted") [Value.ref l]) Q E s := by
  refine call_function_tree kind_sorted plain_sorted entry_sorted (args_sorted1 _) ?_
  unfold Builtin.sorted
  refine wpAny_bind (wpAny_of_eq (show checkCount "sorted" 1 1 1 = pure () from rfl) ?_)
  refine wpAny_bind (collect_list isl ?_ (Nat.le_of_lt (small1000 (by omega))))
  have z : ((s.heap.push (seqObj "list" #[] 0)).update s.heap.objs.size (Obj.mapSeq fun x => x ++ vs.toArray)).objs.size = s.heap.objs.size + 1 := by rw [Heap.size_update, Heap.size_push]
  refine sorted_tail (s := { s with heap := (s.heap.push (seqObj "list" #[] 0)).update s.heap.objs.size (Obj.mapSeq fun x => x ++ vs.toArray) }) (H.keep fun b o _ _ eb => ?_) hl ?_
  · exact Heap.get?_update_of_ne _ (Nat.ne_of_gt (Heap.lt_size eb)) (Heap.get?_push_of_some _ eb)
  · show Q (.ref ((s.heap.push (seqObj "list" #[] 0)).update s.heap.objs.size (Obj.mapSeq fun x => x ++ vs.toArray)).objs.size) { s with heap := sortedHeap (((s.heap.push (seqObj "list" #[] 0)).update s.heap.objs.size (Obj.mapSeq fun x => x ++ vs.toArray)).push (seqObj "list" vs.toArray 0)) ((s.heap.push (seqObj "list" #[] 0)).update s.heap.objs.size (Obj.mapSeq fun x => x ++ vs.toArray)).objs.size vs (srtV ps vs).toArray }
    rw [z]
    exact k
end
end L2
namespace L2
open PySem PySem.Spec PyProof.Rows
abbrev Tr2 (h : Heap) (t : Addr) (a b : Value) : Prop := h.get? t = some { cls := .type "tuple", data := .seq #[a, b] }
theorem typeCall_zip2 (a b : Value) : checkTypeCall "zip" ⟨[a, b], []⟩ = pure () := by kernel_rfl
theorem newCall_zip2 (a b : Value) : checkBuiltinCall "zip.__new__" ⟨[.type "zip", a, b], []⟩ = pure () := by kernel_rfl
theorem args_init3 (a b c : Value) : argsOk "object.__init__" ⟨[a, b, c], []⟩ := by
  unfold argsOk
  rw [signature?_of (id := "object.__init__") (n := ['_', '_', 't', 'i', 'n', 'i', '_', '_']) (o := ['t', 'c', 'e', 'j', 'b', 'o']) (by kernel_rfl) F.owner_object]
  kernel_rfl
abbrev y2d (h : Heap) (l m : Addr) : Heap := (z3a (z3a h l) m).push { cls := .type "tuple", data := .seq #[.ref h.objs.size, .ref (z3a h l).objs.size] }
abbrev y2e (h : Heap) (l m : Addr) : Heap := (y2d h l m).push { cls := .type "tuple", data := .seq #[.none, .none] }
abbrev y2f (h : Heap) (l m : Addr) : Heap := (y2e h l m).push { cls := .type "zip", data := .fields #[.none, .bool false, .bool false, .ref (z3a (z3a h l) m).objs.size, .ref (y2d h l m).objs.size] }
theorem zip2_meets (l m : Addr) (xs ys : Array Value) :
    Meets (Builtin.«zip.__new__» ⟨[.type "zip", .ref l, .ref m], []⟩) (fun _ R s => s.heap.IsList l xs ∧ s.heap.IsList m ys ∧ R (.ok (.ret (.ref (y2e s.heap l m).objs.size))) { s with heap := y2f s.heap l m }) :=
  .of_wp fun prog w A R s h => by
    obtain ⟨hp, g, d, tk, os⟩ := s
    obtain ⟨h1, h2, h⟩ := h
    have hsub := sub_zip
    have k1 : Heap.IsList (Shared.heap ⟨hp, g, d, tk, os⟩) l xs := h1
    have k2 : Heap.IsList (Shared.heap ⟨hp.push { cls := .type "list_iterator", data := .fields #[.ref l, .int 0 0] }, g, d, tk, os⟩) m ys := Heap.IsList.push h2 _
    wp_walk using wpAny_pyIter_list k1, wpAny_pyIter_list k2
    exact ⟨_, rfl, h⟩
structure YS (h : Heap) (b : Nat) (l m : Addr) (i : Nat) (f : Value) (g : Bool) : Prop where
  z : Zr h (b + 4) f g (b + 2) (b + 3)
  ti : Tr2 h (b + 2) (.ref b) (.ref (b + 1))
  to : ∃ x y, Tr2 h (b + 3) x y
  i1 : h.IsListIter b l i
  i2 : h.IsListIter (b + 1) m i
section
variable {prog : Program} {w : World} {A : Around} {E : Value → Shared → Prop} {s : Shared}
theorem zip2_new {l m : Addr} {xs ys : Array Value} {Q : Value → Shared → Prop} (h1 : s.heap.IsList l xs) (h2 : s.heap.IsList m ys)
    (h : ∀ h', YS h' s.heap.objs.size l m 0 .none false → h'.objs.size = s.heap.objs.size + 5 → (∀ c o, s.heap.get? c = some o → h'.get? c = some o) → Q (.ref (s.heap.objs.size + 4)) { s with heap := h' }) :
    wpAny (model prog w) A (call (.type "zip") [.ref l, .ref m]) Q E s := by
  refine callType_new F.called_zip (by decide) (typeCall_zip2 _ _) (newCall_zip2 _ _) (fun obj => args_init3 obj _ _) F.entry_zip_new (zip2_meets l m xs ys) ⟨h1, h2, ?_⟩
  have e1 : (z3a s.heap l).objs.size = s.heap.objs.size + 1 := Heap.size_push ..
  have e2 : (z3a (z3a s.heap l) m).objs.size = s.heap.objs.size + 2 := by rw [Heap.size_push, e1]
  have e4 : (y2d s.heap l m).objs.size = s.heap.objs.size + 3 := by rw [Heap.size_push, e2]
  have e5 : (y2e s.heap l m).objs.size = s.heap.objs.size + 4 := by rw [Heap.size_push, e4]
  have e6 : (y2f s.heap l m).objs.size = s.heap.objs.size + 5 := by rw [Heap.size_push, e5]
  have g6 : (y2f s.heap l m).get? (y2e s.heap l m).objs.size = some _ := Heap.get?_push_size _ rfl
  have g5 : (y2f s.heap l m).get? (y2d s.heap l m).objs.size = some _ := Heap.get?_push_of_some _ (Heap.get?_push_size _ rfl)
  have g4 : (y2f s.heap l m).get? (z3a (z3a s.heap l) m).objs.size = some _ := Heap.get?_push_of_some _ (Heap.get?_push_of_some _ (Heap.get?_push_size _ rfl))
  have g2 : (y2f s.heap l m).get? (z3a s.heap l).objs.size = some _ := Heap.get?_push_of_some _ (Heap.get?_push_of_some _ (Heap.get?_push_of_some _ (Heap.get?_push_size _ rfl)))
  have g1 : (y2f s.heap l m).get? s.heap.objs.size = some _ := Heap.get?_push_of_some _ (Heap.get?_push_of_some _ (Heap.get?_push_of_some _ (Heap.get?_push_of_some _ (Heap.get?_push_size _ rfl))))
  show _ ∧ _
  rw [e2, e4, e5] at g6
  rw [e4] at g5
  rw [e1, e2] at g4
  rw [e1] at g2
  rw [e5]
  exact ⟨⟨_, g6, rfl⟩, h _ ⟨g6, g4, ⟨_, _, g5⟩, ⟨_, g1, rfl, rfl⟩, ⟨_, g2, rfl, rfl⟩⟩ e6 fun c o q =>
    Heap.get?_push_of_some _ (Heap.get?_push_of_some _ (Heap.get?_push_of_some _ (Heap.get?_push_of_some _ (Heap.get?_push_of_some _ q))))⟩
theorem zip2_held {b l m t0 : Addr} {i : Nat} {g : Bool} {ot : Obj} {xs ys : Array Value} {x y : Value} {Q : Option Value → Shared → Prop} (hz : YS s.heap b l m i (rawInt t0) g) (ht : s.heap.get? t0 = some ot)
    (bl : l < b) (bm : m < b)
    (h1 : s.heap.IsList l xs) (h2 : s.heap.IsList m ys) (hx : xs[i]? = some x) (hy : ys[i]? = some y)
    (hQ : ∀ h', YS h' b l m (i + 1) (rawInt t0) true → Tr2 h' s.heap.objs.size x y → (∀ c o, (c < b ∨ b + 5 ≤ c) → s.heap.get? c = some o → h'.get? c = some o) → Q (some (.ref s.heap.objs.size)) { s with heap := h' }) :
    wpAny (model prog w) A (pyNext (.ref (b + 4))) Q E s := by
  obtain ⟨z, ti, ⟨q1, q2, to⟩, i1, i2⟩ := hz
  have hT : s.TypeIs (.ref (b + 4)) "zip" := ⟨_, z, rfl⟩
  unfold pyNext
  refine wpAny_bind (wpAny_attempt (wpAny_callSpecial?_slot (name := Str.ofString "__next__") hT F.slot_zip_next (wpAny_call_entry F.slot_zip_next hT F.entry_zip_next ?_ (F.args_zip_next_1 _))))
  show wpAny _ _ (field (.ref (b + 4)) 2 >>= _) _ _ _
  refine wpAny_bind (wpAny_field z rfl (x := .bool false) rfl ?_)
  show wpAny _ _ (field (.ref (b + 4)) 3 >>= _) _ _ _
  refine wpAny_bind (wpAny_field z rfl (x := .ref (b + 2)) rfl ?_)
  refine wpAny_bind (wpAny_seqItems ti rfl ?_)
  show wpAny _ _ (Builtin.SmallTypes.ownedTupleIsFree (.ref (b + 4)) >>= _) _ _ _
  refine wpAny_bind (free_held z ht fun h0 z0 k0 e0 => ?_)
  simp only [Bool.false_eq_true, if_false]
  rw [← Array.forIn_toList]
  show wpAny _ _ (forIn [Value.ref b, Value.ref (b + 1)] _ _ >>= _) _ _ _
  refine wpAny_bind ?_
  simp only [List.forIn_cons, List.forIn_nil]
  refine wpAny_bind (wpAny_bind (wpAny_holding ?_))
  show wpAny _ _ (Builtin.SmallTypes.nextOf (.ref b) >>= _) _ _ _
  have ne : ∀ {x y : Nat}, x ≠ y → (b + x : Nat) ≠ b + y := fun q e => q (Nat.add_left_cancel e)
  have lo : ∀ {c : Nat} (k : Nat), c < b → c ≠ b + k := fun k q => Nat.ne_of_lt (Nat.lt_of_lt_of_le q (Nat.le_add_right b k))
  refine wpAny_bind (wpAny_nextOf_list_item (i1.at fun o e => k0 _ o (ne (x := 0) (by decide)) e) (h1.at fun o e => k0 _ o (lo 4 bl) e) hx fun ha ia sa => wpAny_pure ?_)
  refine wpAny_pure ?_
  refine wpAny_bind (wpAny_bind (wpAny_holding ?_))
  show wpAny _ _ (Builtin.SmallTypes.nextOf (.ref (b + 1)) >>= _) _ _ _
  have ka : ∀ c o, c ≠ b + 4 → c ≠ b → s.heap.get? c = some o → ha.get? c = some o := fun c o q q' e => (sa.2 c q').trans (k0 c o q e)
  refine wpAny_bind (wpAny_nextOf_list_item (i2.at fun o e => ka _ o (ne (by decide)) (ne (y := 0) (by decide)) e) (h2.at fun o e => ka _ o (lo 4 bm) (Nat.ne_of_lt bm) e) hy fun hb ib sb => wpAny_pure ?_)
  refine wpAny_pure (wpAny_pure ?_)
  show wpAny _ _ (newTuple [x, y] >>= fun t => ret t) _ _ _
  refine wpAny_bind (wpAny_newTuple (wpAny_pure ⟨_, rfl, wpAny_pure ?_⟩))
  have kb : ∀ c o, c ≠ b + 4 → c ≠ b → c ≠ b + 1 → s.heap.get? c = some o → hb.get? c = some o := fun c o q q' q'' e => (sb.2 c q'').trans (ka c o q q' e)
  have sz : hb.objs.size = s.heap.objs.size := by rw [sb.1, sa.1]; exact e0
  show Q (some (.ref hb.objs.size)) _
  have up : ∀ c o, hb.get? c = some o → (hb.push { cls := .type "tuple", data := .seq #[x, y] }).get? c = some o := fun c o e => Heap.get?_push_of_some _ e
  have tn : Tr2 (hb.push { cls := .type "tuple", data := .seq #[x, y] }) hb.objs.size x y := Heap.get?_push_size _ rfl
  rw [sz] at tn ⊢
  refine hQ _ ⟨up _ _ ?_, up _ _ (kb _ _ (ne (by decide)) (ne (y := 0) (by decide)) (ne (by decide)) ti), ⟨q1, q2, up _ _ (kb _ _ (ne (by decide)) (ne (y := 0) (by decide)) (ne (by decide)) to)⟩, ?_, ib.at fun o e => up _ o e⟩ tn fun c o lc e => up _ _ (kb _ _ ?_ ?_ ?_ e)
  · exact (sb.2 _ (ne (by decide))).trans ((sa.2 _ (ne (y := 0) (by decide))).trans z0)
  · exact ia.at fun o e => up _ o ((sb.2 _ (ne (x := 0) (by decide))).trans e)
  all_goals
    rcases lc with lc | lc
    · first | exact lo 4 lc | exact Nat.ne_of_lt lc | exact lo 1 lc
    · first
        | exact Nat.ne_of_gt (Nat.lt_of_lt_of_le (Nat.add_lt_add_left (by decide) b) lc)
        | exact Nat.ne_of_gt (Nat.lt_of_lt_of_le (Nat.lt_add_of_pos_right (by decide)) lc)
theorem put_tr2 {t : Addr} {a b x : Value} {k : Nat} {Q : Unit → Shared → Prop} (ht : Tr2 s.heap t a b)
    (h : ∀ h', h'.get? t = some { cls := .type "tuple", data := .seq ((#[a, b] : Array Value).setIfInBounds k x) } → Heap.SameBut t s.heap h' → Q () { s with heap := h' }) :
    wpAny (model prog w) A (updateSeq t (·.setIfInBounds k x)) Q E s := by
  refine wpAny_updateSeq ht rfl (h _ ?_ (Heap.SameBut.update ..))
  rw [Heap.get?_update_self _ ht rfl]
  simp [Obj.mapSeq]
theorem zip2_free {b l m : Addr} {i : Nat} {g : Bool} {xs ys : Array Value} {x y : Value} {Q : Option Value → Shared → Prop} (hz : YS s.heap b l m i .none g) (gf : g = false)
    (bl : l < b) (bm : m < b)
    (h1 : s.heap.IsList l xs) (h2 : s.heap.IsList m ys) (hx : xs[i]? = some x) (hy : ys[i]? = some y)
    (hQ : ∀ h', YS h' b l m (i + 1) (rawInt s.heap.objs.size) false → Tr2 h' s.heap.objs.size x y → (∀ c o, (c < b ∨ b + 5 ≤ c) → s.heap.get? c = some o → h'.get? c = some o) → Q (some (.ref s.heap.objs.size)) { s with heap := h' }) :
    wpAny (model prog w) A (pyNext (.ref (b + 4))) Q E s := by
  subst gf
  have ne : ∀ {x y : Nat}, x ≠ y → (b + x : Nat) ≠ b + y := fun q e => q (Nat.add_left_cancel e)
  have lo : ∀ {c : Nat} (k : Nat), c < b → c ≠ b + k := fun k q => Nat.ne_of_lt (Nat.lt_of_lt_of_le q (Nat.le_add_right b k))
  obtain ⟨z, ti, ⟨q1, q2, to⟩, i1, i2⟩ := hz
  have hT : s.TypeIs (.ref (b + 4)) "zip" := ⟨_, z, rfl⟩
  unfold pyNext
  refine wpAny_bind (wpAny_attempt (wpAny_callSpecial?_slot (name := Str.ofString "__next__") hT F.slot_zip_next (wpAny_call_entry F.slot_zip_next hT F.entry_zip_next ?_ (F.args_zip_next_1 _))))
  show wpAny _ _ (field (.ref (b + 4)) 2 >>= _) _ _ _
  refine wpAny_bind (wpAny_field z rfl (x := .bool false) rfl ?_)
  show wpAny _ _ (field (.ref (b + 4)) 3 >>= _) _ _ _
  refine wpAny_bind (wpAny_field z rfl (x := .ref (b + 2)) rfl ?_)
  refine wpAny_bind (wpAny_seqItems ti rfl ?_)
  show wpAny _ _ (Builtin.SmallTypes.ownedTupleIsFree (.ref (b + 4)) >>= _) _ _ _
  refine wpAny_bind ?_
  unfold Builtin.SmallTypes.ownedTupleIsFree
  refine wpAny_bind (wpAny_field z rfl (x := .none) rfl (wpAny_pure ?_))
  simp only [if_true]
  refine wpAny_bind (wpAny_rule ?_)
  refine wpAny_bind (wpAny_field z rfl (x := .ref (b + 3)) rfl ?_)
  refine wpAny_bind (wpAny_setField_rec z (by simp) fun h0 z0 s0 => ?_)
  replace z0 : Zr h0 (b + 4) .ellipsis false (b + 2) (b + 3) := z0
  refine wpAny_bind ?_
  simp only [List.zipIdx_cons, List.zipIdx_nil, List.forIn_cons, List.forIn_nil]
  have k0 : ∀ c o, c ≠ b + 4 → s.heap.get? c = some o → h0.get? c = some o := fun c o q e => (s0.2 c q).trans e
  refine wpAny_bind (wpAny_bind (wpAny_onRaise ?_))
  show wpAny _ _ (Builtin.SmallTypes.nextOf (.ref b) >>= _) _ _ _
  refine wpAny_bind (wpAny_nextOf_list_item (i1.at fun o e => k0 _ o (ne (x := 0) (by decide)) e) (h1.at fun o e => k0 _ o (lo 4 bl) e) hx fun ha ia sa => wpAny_pure ?_)
  have ta : Tr2 ha (b + 3) q1 q2 := (sa.2 _ (ne (y := 0) (by decide))).trans (k0 _ _ (ne (by decide)) to)
  refine wpAny_bind (wpAny_seqItems ta rfl ?_)
  refine wpAny_bind (put_tr2 ta fun hb tb sb => ?_)
  replace tb : Tr2 hb (b + 3) x q2 := tb
  refine wpAny_bind (wpAny_letGo (wpAny_pure ?_))
  have kb : ∀ c o, c ≠ b + 4 → c ≠ b → c ≠ b + 3 → s.heap.get? c = some o → hb.get? c = some o := fun c o p1 p2 p3 e => (sb.2 c p3).trans ((sa.2 c p2).trans (k0 c o p1 e))
  refine wpAny_bind (wpAny_bind (wpAny_onRaise ?_))
  show wpAny _ _ (Builtin.SmallTypes.nextOf (.ref (b + 1)) >>= _) _ _ _
  refine wpAny_bind (wpAny_nextOf_list_item (i2.at fun o e => kb _ o (ne (by decide)) (ne (y := 0) (by decide)) (ne (by decide)) e) (h2.at fun o e => kb _ o (lo 4 bm) (Nat.ne_of_lt bm) (lo 3 bm) e) hy fun hc ic sc => wpAny_pure ?_)
  have tc : Tr2 hc (b + 3) x q2 := (sc.2 _ (ne (by decide))).trans tb
  refine wpAny_bind (wpAny_seqItems tc rfl ?_)
  refine wpAny_bind (put_tr2 tc fun hf tf sf => ?_)
  replace tf : Tr2 hf (b + 3) x y := tf
  refine wpAny_bind (wpAny_letGo (wpAny_pure (wpAny_pure ?_)))
  have kf : ∀ c o, c ≠ b + 4 → c ≠ b → c ≠ b + 3 → c ≠ b + 1 → s.heap.get? c = some o → hf.get? c = some o := fun c o p1 p2 p3 p4 e => (sf.2 c p3).trans ((sc.2 c p4).trans (kb c o p1 p2 p3 e))
  have sz : hf.objs.size = s.heap.objs.size := by rw [sf.1, sc.1, sb.1, sa.1, s0.1]
  refine wpAny_bind (wpAny_seqItems tf rfl ?_)
  refine wpAny_bind (wpAny_newTuple ?_)
  have zf : Zr hf (b + 4) .ellipsis false (b + 2) (b + 3) :=
    (sf.2 _ (ne (by decide))).trans ((sc.2 _ (ne (by decide))).trans ((sb.2 _ (ne (by decide))).trans ((sa.2 _ (ne (y := 0) (by decide))).trans z0)))
  show wpAny _ _ (Builtin.SmallTypes.ownedTupleHandOut (.ref (b + 4)) (.ref hf.objs.size) >>= _) _ _ _
  refine wpAny_bind ?_
  unfold Builtin.SmallTypes.ownedTupleHandOut
  have zg : Zr (hf.push { cls := .type "tuple", data := .seq #[x, y] }) (b + 4) .ellipsis false (b + 2) (b + 3) := Heap.get?_push_of_some _ zf
  refine wpAny_bind (wpAny_setField_rec zg (by simp) fun hg zg sg => ?_)
  replace zg : Zr hg (b + 4) (rawInt hf.objs.size) false (b + 2) (b + 3) := zg
  refine wpAny_setField_rec zg (by simp) fun hh zh sh => ?_
  replace zh : Zr hh (b + 4) (rawInt hf.objs.size) false (b + 2) (b + 3) := zh
  have lt5 : b + 4 < hf.objs.size := Heap.lt_size zf
  have up : ∀ c o, c ≠ b + 4 → hf.get? c = some o → hh.get? c = some o := fun c o q e => (sh.2 c q).trans ((sg.2 c q).trans (Heap.get?_push_of_some _ e))
  have tn : Tr2 hh hf.objs.size x y := (sh.2 _ (Nat.ne_of_gt lt5)).trans ((sg.2 _ (Nat.ne_of_gt lt5)).trans (Heap.get?_push_size _ rfl))
  refine wpAny_pure ⟨_, rfl, wpAny_pure ?_⟩
  show Q (some (.ref hf.objs.size)) _
  rw [sz] at tn zh ⊢
  refine hQ _ ⟨zh, up _ _ (ne (by decide)) (kf _ _ (ne (by decide)) (ne (y := 0) (by decide)) (ne (by decide)) (ne (by decide)) ti), ⟨x, y, up _ _ (ne (by decide)) tf⟩, ?_, ?_⟩ tn fun c o lc e => up _ _ ?_ (kf _ _ ?_ ?_ ?_ ?_ e)
  · exact ia.at fun o e => up _ o (ne (x := 0) (by decide)) ((sf.2 _ (ne (x := 0) (by decide))).trans ((sc.2 _ (ne (x := 0) (by decide))).trans ((sb.2 _ (ne (x := 0) (by decide))).trans e)))
  · exact ic.at fun o e => up _ o (ne (by decide)) ((sf.2 _ (ne (by decide))).trans e)
  all_goals
    rcases lc with lc | lc
    · first | exact lo 4 lc | exact Nat.ne_of_lt lc | exact lo 1 lc | exact lo 3 lc
    · first
        | exact Nat.ne_of_gt (Nat.lt_of_lt_of_le (Nat.add_lt_add_left (by decide) b) lc)
        | exact Nat.ne_of_gt (Nat.lt_of_lt_of_le (Nat.lt_add_of_pos_right (by decide)) lc)
end
end L2
namespace L2
open PySem PySem.Spec PyProof.Rows
section
variable {prog : Program} {w : World} {A : Around} {E : Value → Shared → Prop} {s : Shared}
theorem zip2_end {b l m : Addr} {i : Nat} {f : Value} {g : Bool} {xs : Array Value} {Q : Option Value → Shared → Prop} (hh : A.handled = none) (hz : YS s.heap b l m i f g) (hf : (f = .none ∧ g = false) ∨ ∃ (t0 : Addr) (ot : Obj), f = rawInt t0 ∧ s.heap.get? t0 = some ot)
    (bl : l < b) (h1 : s.heap.IsList l xs) (hx : xs[i]? = none)
    (hQ : ∀ h', (∀ c o, (c < b ∨ b + 5 ≤ c) → s.heap.get? c = some o → h'.get? c = some o) → Q none { s with heap := h' }) :
    wpAny (model prog w) A (pyNext (.ref (b + 4))) Q E s := by
  have ne : ∀ {x y : Nat}, x ≠ y → (b + x : Nat) ≠ b + y := fun q e => q (Nat.add_left_cancel e)
  have lo : ∀ {c : Nat} (k : Nat), c < b → c ≠ b + k := fun k q => Nat.ne_of_lt (Nat.lt_of_lt_of_le q (Nat.le_add_right b k))
  have far : ∀ {c : Nat} (k : Nat), k < 5 → c < b ∨ b + 5 ≤ c → c ≠ b + k := fun k hk q => q.elim (lo k) fun q => Nat.ne_of_gt (Nat.lt_of_lt_of_le (Nat.add_lt_add_left hk b) q)
  obtain ⟨z, ti, ⟨q1, q2, to⟩, i1, i2⟩ := hz
  have hT : s.TypeIs (.ref (b + 4)) "zip" := ⟨_, z, rfl⟩
  unfold pyNext
  refine wpAny_bind (wpAny_attempt (wpAny_callSpecial?_slot (name := Str.ofString "__next__") hT F.slot_zip_next (wpAny_call_entry F.slot_zip_next hT F.entry_zip_next ?_ (F.args_zip_next_1 _))))
  have fin : ∀ {h' : Heap} {e : Addr}, (∃ o, h'.get? e = some o ∧ o.cls = .type "StopIteration") → (∀ c o, (c < b ∨ b + 5 ≤ c) → s.heap.get? c = some o → h'.get? c = some o) →
      wpAny (model prog w) A (do if ← isInstance (.ref e) (.type "StopIteration") then pure none else throw (.ref e)) Q E { s with heap := h' } := by
    intro h' e ⟨o, he, hc⟩ hk
    refine wpAny_bind (wpAny_isInstance (T := "StopIteration") (b := true) ⟨o, he, hc⟩ isSubtype_stop ?_)
    exact wpAny_pure (hQ _ hk)
  show wpAny _ _ (field (.ref (b + 4)) 2 >>= _) _ _ _
  refine wpAny_bind (wpAny_field z rfl (x := .bool false) rfl ?_)
  show wpAny _ _ (field (.ref (b + 4)) 3 >>= _) _ _ _
  refine wpAny_bind (wpAny_field z rfl (x := .ref (b + 2)) rfl ?_)
  refine wpAny_bind (wpAny_seqItems ti rfl ?_)
  show wpAny _ _ (Builtin.SmallTypes.ownedTupleIsFree (.ref (b + 4)) >>= _) _ _ _
  rcases hf with ⟨rfl, rfl⟩ | ⟨t0, ot, rfl, ht⟩
  · refine wpAny_bind ?_
    unfold Builtin.SmallTypes.ownedTupleIsFree
    refine wpAny_bind (wpAny_field z rfl (x := .none) rfl (wpAny_pure ?_))
    simp only [if_true]
    refine wpAny_bind (wpAny_rule ?_)
    refine wpAny_bind (wpAny_field z rfl (x := .ref (b + 3)) rfl ?_)
    refine wpAny_bind (wpAny_setField_rec z (by simp) fun h0 z0 s0 => ?_)
    replace z0 : Zr h0 (b + 4) .ellipsis false (b + 2) (b + 3) := z0
    refine wpAny_bind ?_
    simp only [List.zipIdx_cons, List.zipIdx_nil, List.forIn_cons, List.forIn_nil]
    refine wpAny_bind (wpAny_bind (wpAny_onRaise ?_))
    show wpAny _ _ (Builtin.SmallTypes.nextOf (.ref b) >>= _) _ _ _
    refine wpAny_bind (wpAny_nextOf_list_end hh (i1.at fun o e => (s0.2 _ (ne (x := 0) (by decide))).trans e) (h1.at fun o e => (s0.2 _ (lo 4 bl)).trans e) hx fun ha e sa he => ?_)
    obtain ⟨oe, he1, he2⟩ := he
    have za : Zr ha (b + 4) .ellipsis false (b + 2) (b + 3) := sa _ _ (ne (y := 0) (by decide)) z0
    have nez : e ≠ b + 4 := fun q => by subst q; rw [za] at he1; cases he1; simp at he2
    refine wpAny_setField_rec za (by simp) fun hb zb sb => ?_
    exact fin ⟨oe, (sb.2 _ nez).trans he1, he2⟩ fun c o q e => (sb.2 _ (far 4 (by decide) q)).trans (sa _ _ (far 0 (by decide) q) ((s0.2 _ (far 4 (by decide) q)).trans e))
  · refine wpAny_bind (free_held z ht fun h0 z0 k0 e0 => ?_)
    simp only [Bool.false_eq_true, if_false]
    rw [← Array.forIn_toList]
    show wpAny _ _ (forIn [Value.ref b, Value.ref (b + 1)] _ _ >>= _) _ _ _
    refine wpAny_bind ?_
    simp only [List.forIn_cons, List.forIn_nil]
    refine wpAny_bind (wpAny_bind (wpAny_holding ?_))
    show wpAny _ _ (Builtin.SmallTypes.nextOf (.ref b) >>= _) _ _ _
    refine wpAny_bind (wpAny_nextOf_list_end hh (i1.at fun o e => k0 _ o (ne (x := 0) (by decide)) e) (h1.at fun o e => k0 _ o (lo 4 bl) e) hx fun ha e sa he => ?_)
    exact fin he fun c o q e => sa _ _ (far 0 (by decide) q) (k0 _ _ (far 4 (by decide) q) e)
end
def Hands2 (b : Nat) (xs ys : Array Value) (Ts : List Addr) (h : Heap) : Prop :=
  Ts.Nodup ∧ ∀ (j : Nat) (t : Addr), Ts[j]? = some t → b + 6 ≤ t ∧ ∃ x y, xs[j]? = some x ∧ ys[j]? = some y ∧ Tr2 h t x y
def Y2St (h0 : Heap) (b : Nat) (l m : Addr) (xs ys : Array Value) (acc : List Value) (h : Heap) : Prop :=
  ∃ f g Ts, acc = Ts.map Value.ref ∧ YS h b l m Ts.length f g ∧ ((f = .none ∧ g = false) ∨ ∃ t0 : Addr, f = rawInt t0 ∧ t0 ∈ Ts) ∧ (∀ c o, h0.get? c = some o → h.get? c = some o) ∧ Hands2 b xs ys Ts h
def Y2En (h0 : Heap) (b : Nat) (xs ys : Array Value) (acc : List Value) (h : Heap) : Prop :=
  ∃ Ts, acc = Ts.map Value.ref ∧ (∀ c o, h0.get? c = some o → h.get? c = some o) ∧ Hands2 b xs ys Ts h
theorem Hands2.stay {b : Nat} {xs ys : Array Value} {Ts : List Addr} {h h' : Heap} (q : Hands2 b xs ys Ts h) (k : ∀ c o, b + 6 ≤ c → h.get? c = some o → h'.get? c = some o) : Hands2 b xs ys Ts h' :=
  ⟨q.1, fun j t e => by
    obtain ⟨p1, x, y, p2, p3, p5⟩ := q.2 j t e
    exact ⟨p1, x, y, p2, p3, k _ _ p1 p5⟩⟩
section
variable {prog : Program} {w : World} {A : Around}
theorem zip2_feed {h0 : Heap} {l m : Addr} {xs ys : Array Value} (hh : A.handled = none) (h1 : h0.IsList l xs) (h2 : h0.IsList m ys) (e1 : ys.size = xs.size) :
    Feed prog w A (h0.objs.size + 5) (h0.objs.size + 4) xs.size (Y2St h0 h0.objs.size l m xs ys) (Y2En h0 h0.objs.size xs ys) := by
  have bl : l < h0.objs.size := by obtain ⟨_, e, _⟩ := h1; exact Heap.lt_size e
  have bm : m < h0.objs.size := by obtain ⟨_, e, _⟩ := h2; exact Heap.lt_size e
  generalize hb : h0.objs.size = b at bl bm ⊢
  have old6 : ∀ {c : Nat} {o : Obj}, h0.get? c = some o → c < b := fun e => hb ▸ Heap.lt_size e
  have neS : ∀ {k : Nat}, k < 5 → (b + k : Nat) ≠ b + 5 := fun q e => Nat.ne_of_lt q (Nat.add_left_cancel e)
  have lo6 : ∀ {c : Nat}, c < b → c ≠ b + 5 := fun q => Nat.ne_of_lt (Nat.lt_of_lt_of_le q (Nat.le_add_right b 5))
  have hi6 : ∀ {c : Nat}, b + 6 ≤ c → c ≠ b + 5 := fun q => Nat.ne_of_gt (Nat.lt_of_lt_of_le (Nat.add_lt_add_left (by decide) b) q)
  refine ⟨?_, ?_, ?_⟩
  · rintro acc h h' ⟨f, g, Ts, ea, ⟨z, ti, ⟨q1, q2, to⟩, i1, i2⟩, hf, old, hd⟩ k
    refine ⟨f, g, Ts, ea, ⟨k _ _ (neS (by decide)) z, k _ _ (neS (by decide)) ti, ⟨q1, q2, k _ _ (neS (by decide)) to⟩, i1.at fun o e => k _ o (neS (k := 0) (by decide)) e, i2.at fun o e => k _ o (neS (by decide)) e⟩, hf, fun c o e => k c o (lo6 (old6 e)) (old c o e), hd.stay fun c o q e => k c o (hi6 q) e⟩
  · rintro s acc Q E lt ⟨oS, eS⟩ ⟨f, g, Ts, ea, hz, hf, old, hd⟩ k
    have el : acc.length = Ts.length := by rw [ea, List.length_map]
    rw [el] at lt
    have x1 : xs[Ts.length]? = some (xs[Ts.length]'lt) := Array.getElem?_eq_getElem lt
    have y1 : ys[Ts.length]? = some (ys[Ts.length]'(by omega)) := Array.getElem?_eq_getElem (by omega)
    have k1 : s.heap.IsList l xs := h1.at fun o e => old _ o e
    have k2 : s.heap.IsList m ys := h2.at fun o e => old _ o e
    have lS : b + 5 < s.heap.objs.size := Heap.lt_size eS
    have tnew : ∀ t ∈ Ts, t < s.heap.objs.size := fun t ht => by
      obtain ⟨j, hj⟩ := List.mem_iff_getElem?.mp ht
      obtain ⟨_, _, _, _, _, q⟩ := hd.2 j t hj
      exact Heap.lt_size q
    have next : ∀ {h' : Heap} {f' : Value} {g' : Bool} (tk : Nat), YS h' b l m (Ts.length + 1) f' g' → (∃ t0 : Addr, f' = rawInt t0 ∧ t0 ∈ Ts ++ [s.heap.objs.size]) → Tr2 h' s.heap.objs.size (xs[Ts.length]'lt) (ys[Ts.length]'(by omega)) →
        (∀ c o, (c < b ∨ b + 5 ≤ c) → s.heap.get? c = some o → h'.get? c = some o) → Q (some (.ref s.heap.objs.size)) { s with heap := h', toks := tk } := by
      intro h' f' g' tk z' f1 tn kk
      refine k _ h' tk ⟨f', g', Ts ++ [s.heap.objs.size], by rw [ea, List.map_append]; rfl, by rw [List.length_append, List.length_singleton]; exact z', .inr f1, fun c o e => kk c o (.inl (old6 e)) (old c o e), ?_, ?_⟩ fun o e => kk _ o (.inr (Nat.le_refl _)) e
      · rw [List.nodup_append]
        refine ⟨hd.1, by simp, fun p hp q hq e => ?_⟩
        rw [List.mem_singleton] at hq
        exact Nat.lt_irrefl _ (hq ▸ e ▸ tnew p hp)
      · intro j t e
        rcases Nat.lt_or_ge j Ts.length with lj | lj
        · rw [List.getElem?_append_left lj] at e
          obtain ⟨p1, x, y, p2, p3, p5⟩ := hd.2 j t e
          exact ⟨p1, x, y, p2, p3, kk _ _ (.inr (Nat.le_of_succ_le p1)) p5⟩
        · rw [List.getElem?_append_right lj] at e
          rcases Nat.lt_or_ge j (Ts.length + 1) with lj' | lj'
          · obtain rfl : j = Ts.length := by omega
            rw [Nat.sub_self] at e
            cases e
            exact ⟨lS, _, _, x1, y1, tn⟩
          · rw [List.getElem?_eq_none (by rw [List.length_singleton]; omega)] at e
            cases e
    rcases hf with ⟨rfl, rfl⟩ | ⟨t0, rfl, ht0⟩
    · exact zip2_free hz rfl bl bm k1 k2 x1 y1 fun h' z' tn kk => next s.toks z' ⟨_, rfl, by simp⟩ tn kk
    · obtain ⟨j, hj⟩ := List.mem_iff_getElem?.mp ht0
      obtain ⟨_, _, _, _, _, q⟩ := hd.2 j t0 hj
      exact zip2_held hz q bl bm k1 k2 x1 y1 fun h' z' tn kk => next s.toks z' ⟨t0, rfl, List.mem_append_left _ ht0⟩ tn kk
  · rintro s acc Q E lt ⟨f, g, Ts, ea, hz, hf, old, hd⟩ k
    have el : acc.length = Ts.length := by rw [ea, List.length_map]
    rw [el] at lt
    refine zip2_end hh hz ?_ bl (h1.at fun o e => old _ o e) (Array.getElem?_eq_none (by omega)) fun h' kk => ?_
    · rcases hf with q | ⟨t0, q, ht0⟩
      · exact .inl q
      · obtain ⟨j, hj⟩ := List.mem_iff_getElem?.mp ht0
        obtain ⟨_, _, _, _, _, q'⟩ := hd.2 j t0 hj
        exact .inr ⟨t0, _, q, q'⟩
    · exact k h' s.toks ⟨Ts, ea, fun c o e => kk c o (.inl (old6 e)) (old c o e), hd.stay fun c o q e => kk c o (.inr (Nat.le_of_succ_le q)) e⟩ fun o e => kk _ o (.inr (Nat.le_refl _)) e
end
end L2
namespace L2
open PySem PySem.Spec PyProof.Rows PySem.W
section
variable {X : Cx}
def PsV (K : PySem.W.Frag) (H : Hp) (vs : List V) (ps : List (Int × Int)) : Prop := vs.length = ps.length ∧ ∀ (i : Nat) (v : V) (p : Int × Int), vs[i]? = some v → ps[i]? = some p → ∃ a, v = .ref a ∧ H a = some (.tup [.int p.1, .int p.2])
def srtL (ps : List (Int × Int)) (vs : List V) : List V := if ps.length < 2 then vs else (ordP ps).map fun i => vs.getD i .non
theorem srtP_len {ps : List (Int × Int)}  : (srtP ps).length = ps.length := by
  unfold srtP
  by_cases c : ps.length < 2
  · rw [if_pos c]
  · rw [if_neg c, List.length_map]
    exact (ord_lt (by omega)).2
theorem srt_get {K : PySem.W.Frag} {H : Hp} {vs : List V} {ps : List (Int × Int)} (h : PsV K H vs ps)  : PsV K H (srtL ps vs) (srtP ps) := by
  unfold srtL srtP
  by_cases c : ps.length < 2
  · rw [if_pos c, if_pos c]; exact h
  · rw [if_neg c, if_neg c]
    refine ⟨by rw [List.length_map, List.length_map], fun i v p e1 e2 => ?_⟩
    rw [List.getElem?_map] at e1 e2
    obtain ⟨j, ej, rfl⟩ := Option.map_eq_some_iff.mp e1
    obtain ⟨j', ej', rfl⟩ := Option.map_eq_some_iff.mp e2
    rw [ej] at ej'
    cases ej'
    have lj := (ord_lt (by omega)).1 j (List.mem_of_getElem? ej)
    have l1 : j < vs.length := by rw [h.1]; exact lj
    refine h.2 j _ _ (List.getElem?_eq_getElem l1 |>.trans ?_) (List.getElem?_eq_getElem lj |>.trans ?_)
    · rw [List.getD_eq_getElem?_getD, List.getElem?_eq_getElem l1]; rfl
    · rw [List.getD_eq_getElem?_getD, List.getElem?_eq_getElem lj]; rfl
theorem vals_srt {ps : List (Int × Int)} {vs : List V} {its : List Value} (r : Vals vs its) (hl : vs.length = ps.length)  : Vals (srtL ps vs) (srtV ps its) := by
  unfold srtL srtV
  by_cases c : ps.length < 2
  · rw [if_pos c, if_pos c]; exact r
  · rw [if_neg c, if_neg c]
    have key : ∀ l : List Nat, (∀ i ∈ l, i < ps.length) → Vals (l.map fun i => vs.getD i .non) (l.map fun i => its.getD i Value.none) := by
      intro l
      induction l with
      | nil => exact fun _ => .nil
      | cons i l ih =>
        intro hi
        have li := hi i List.mem_cons_self
        have l1 : vs[i]? = some (vs[i]'(by omega)) := List.getElem?_eq_getElem (by omega)
        obtain ⟨u, eu, ru⟩ := r.get l1
        refine .cons ?_ (ih fun j hj => hi j (List.mem_cons_of_mem _ hj))
        show RelV (vs.getD i V.non) (its.getD i Value.none)
        rw [List.getD_eq_getElem?_getD, List.getD_eq_getElem?_getD, l1, eu]
        exact ru
    exact key _ (ord_lt (by omega)).1
theorem prAre_of {pins : List (Addr × Obj)} {σ : St} {H : Hp} {s : Shared} (I : Inv X pins σ H s) : ∀ {vs : List V} {its : List Value} {ps : List (Int × Int)}, Vals vs its → PsV X.K H vs ps → PrAre s.heap its ps
  | [], _, [], .nil, _ => .nil
  | [], _, _ :: _, _, h => absurd h.1 (by simp)
  | _ :: _, _, [], _, h => absurd h.1 (by simp)
  | v :: vs, _, p :: ps, .cons r rs, h => by
    obtain ⟨a, rfl, ha⟩ := h.2 0 v p rfl rfl
    obtain ⟨iv, rv, ht, _⟩ := I.tuple (SqT.of (K := X.K) ha)
    cases r
    cases rv with
    | cons r1 rv =>
      cases rv with
      | cons r2 rv =>
        cases rv
        obtain ⟨t, rfl⟩ := r1
        obtain ⟨u, rfl⟩ := r2
        obtain ⟨o, e1, e2, n, e3⟩ := ht
        exact .cons e1 e2 e3 (prAre_of I rs ⟨by simpa using h.1, fun i v' p' h1 h2 => h.2 (i + 1) v' p' (by simpa using h1) (by simpa using h2)⟩)
theorem call_sortedP : CallR X (.builtin "sorted") (fun xs H Q => ∃ (p : Addr) (vs : List V) (ps : List (Int × Int)), xs = [.ref p] ∧ SqL X.K H p vs ∧ PsV X.K H vs ps ∧ ps.length ≤ 60 ∧ ∀ l, H l = none → Q (.ref l) (upd H l (.lst (srtL ps vs)))) := by
  intro pins s σ H xs us Q I r h
  obtain ⟨p, vs, ps, rfl, hq, hp, h6, q⟩ := h
  obtain ⟨u, rfl, rx⟩ := vals1 r
  cases rx
  obtain ⟨its, rv, pl, hz⟩ := I.list hq
  have hlen := rv.length
  have hl := hp.1
  refine sorted_pairs pl.isList (prAre_of I rv hp) (by omega) ?_
  obtain ⟨e, he⟩ := sortedAll_at s.heap its (srtV ps its).toArray
  have hn : H (s.heap.objs.size + 1) = none := I.hok.fresh (Nat.le_succ _)
  have vv := vals_srt rv hl
  refine ⟨.ref (s.heap.objs.size + 1), _, I.laid (t' := s.toks) (fun b o z => sortedAll_old z) (Nat.le_succ _) ?_, rfl, q _ hn⟩
  refine ⟨?_, (srtV ps its), e, vv, he⟩
  rw [vv.length, srtV_len (by omega)]
  exact Nat.le_of_lt (small1000 (by omega))
end
end L2
namespace L2
open PySem PySem.Spec PyProof.Rows PySem.W
section
theorem sortedHeap_old {h : Heap} {a b : Addr} {vs : List Value} {out : Array Value} {o : Obj} (n : b ≠ a) (e : h.get? b = some o) : (sortedHeap h a vs out).get? b = some o :=
  Heap.get?_update_of_ne _ n.symm (Heap.get?_push_of_some _ (Heap.get?_push_of_some _ (Heap.get?_update_of_ne _ n.symm e)))
theorem sortedHeap_at {h : Heap} {a : Addr} {vs : List Value} {out : Array Value} {n : Nat} (e : h.get? a = some (seqObj "list" vs.toArray n)) : ∃ c, (sortedHeap h a vs out).get? a = some (seqObj "list" out c) := by
  have e1 := get?_update_seq e (fun _ => #[])
  have e2 : ((h.update a (Obj.mapSeq fun _ => #[])).push (seqObj "tuple" vs.toArray 0)).get? a = _ := Heap.get?_push_of_some _ e1
  have e3 : (((h.update a (Obj.mapSeq fun _ => #[])).push (seqObj "tuple" vs.toArray 0)).push (seqObj "list" #[] 0)).get? a = _ := Heap.get?_push_of_some _ e2
  exact ⟨_, get?_update_seq e3 (fun _ => out)⟩
noncomputable def zS (H : Hp) (S : Addr) (L : List V) (Ts : List Addr) (rows : List (List V)) : Hp := fun b => if b = S then some (.lst L) else zH H S Ts rows b
theorem zS_S {H : Hp} {S : Addr} {L : List V} {Ts : List Addr} {rows : List (List V)} : zS H S L Ts rows S = some (.lst L) := by
  unfold zS
  rw [if_pos rfl]
theorem zS_ne {H : Hp} {S b : Addr} {L : List V} {Ts : List Addr} {rows : List (List V)} (h : b ≠ S) : zS H S L Ts rows b = zH H S Ts rows b := by
  unfold zS
  rw [if_neg h]
variable {X : Cx}
def tSZ (K : PySem.W.Frag) (ta : TA) : TE := fun σ H Q => ta σ H fun vs H1 => ∃ (a b : Addr) (xs ys : List Int), vs = [.ref a, .ref b] ∧ SqL K H1 a (xs.map V.int) ∧ SqL K H1 b (ys.map V.int) ∧ ys.length = xs.length ∧ xs.length ≤ 60 ∧
  ∀ (S : Addr) (L : List V) (H' : Hp), (∀ c o, H1 c = some o → H' c = some o) → H1 S = none → H' S = some (.lst L) → PsV K H' L (srtP (xs.zip ys)) → Q (.ref S) H'
theorem boot_srt : bootBuiltins "sorted" = some (.builtin "sorted") := by decide +kernel
theorem vals_ref : ∀ l : List Addr, Vals (l.map V.ref) (l.map Value.ref)
  | [] => .nil
  | _ :: l => .cons rfl (vals_ref l)
theorem int_at : ∀ {xs : List Int} {us : List Value}, Vals (xs.map V.int) us → ∀ (j : Nat) (u : Value), us[j]? = some u → ∃ x t, xs[j]? = some x ∧ u = .int x t
  | [], _, .nil, _, _, h => by cases h
  | x :: xs, _, .cons r rs, 0, u, h => by
    cases h
    obtain ⟨t, e⟩ := r
    exact ⟨x, t, rfl, e⟩
  | _ :: xs, _, .cons _ rs, j + 1, u, h => int_at rs j u (by simpa using h)
theorem pr_of {h : Heap} : ∀ {Ts : List Addr} {ps : List (Int × Int)}, Ts.length = ps.length → (∀ (j : Nat) (t : Addr) (p : Int × Int), Ts[j]? = some t → ps[j]? = some p → ∃ t1 t2, Tr2 h t (.int p.1 t1) (.int p.2 t2)) → PrAre h (Ts.map Value.ref) ps
  | [], [], _, _ => .nil
  | t :: Ts, (x, y) :: ps, hl, hh => by
    obtain ⟨t1, t2, e⟩ := hh 0 t (x, y) rfl rfl
    exact .cons e rfl rfl (pr_of (by simpa using hl) fun j t' p' h1 h2 => hh (j + 1) t' p' (by simpa using h1) (by simpa using h2))
  | [], _ :: _, hl, _ => by cases hl
  | _ :: _, [], hl, _ => by cases hl
theorem pe_sortedZip {a b : Expr} {ta : TA} {p p' pos pos' : Pos} (hc : X.calm = true) (hg : Gl X "zip") (hm : X.mg "zip" = none) (hg' : Gl X "sorted") (hm' : X.mg "sorted" = none) (ha : PA X [a, b] ta)
    (hs : starEach [a, b] X.env = (false, eval a X.env) :: starEach [b] X.env := by rfl) (hpl : (backTo pos (starEach [b] X.env)).any (·.1) = false := by rfl)
    (hs2 : starEach [Expr.Call (.Name "zip" p) [a, b] [] pos] X.env = [(false, eval (.Call (.Name "zip" p) [a, b] [] pos) X.env)] := by rfl) :
    PE X (.Call (.Name "sorted" p') [.Call (.Name "zip" p) [a, b] [] pos] [] pos') (tSZ X.K ta) := by
  intro pins s σ H Q I h
  refine wpAny_Call_Name_kw (ld_blt I hg' hm' boot_srt ?_)
  refine PyProof.Rows.callWith_builtin1 ?_ hs2 rfl
  rw [hs2]
  show wpAny _ _ (spliced ((false, eval (.Call (.Name "zip" p) [a, b] [] pos) X.env) :: backTo pos' [])) _ _ _
  refine Calls.spliced_cons ?_
  refine wpAny_Call_Name_kw (ld_blt I hg hm boot_zip (PyProof.Rows.callWith_type1 (thn (ha pos pins s σ H _ I h) fun us s1 ⟨vs, H1, I1, r1, q1⟩ => ?_) hs hpl))
  obtain ⟨l, m, xs, ys, rfl, hx, hy, e1, h6, q⟩ := q1
  cases r1 with
  | cons ru r1 =>
  cases r1 with
  | cons rv r1 =>
  cases r1
  cases ru
  cases rv
  obtain ⟨ix, rx, px, zx⟩ := I1.list hx
  obtain ⟨iy, ry, py, zy⟩ := I1.list hy
  refine zip2_new px.isList py.isList fun h1 zs1 sz1 k1 => ?_
  refine Calls.spliced_nil ?_
  have hh : X.A.handled = none := I1.ok.hd hc
  have lx : ix.toArray.size = xs.length := by rw [List.size_toArray, ← rx.length, List.length_map]
  have ly : iy.toArray.size = ix.toArray.size := by rw [lx, List.size_toArray, ← ry.length, List.length_map, e1]
  have W := zip2_feed (prog := X.prog) (w := X.w) (A := X.A.in1.in1) (h0 := s1.heap) hh px.isList py.isList ly
  have ty : Shared.TypeIs { s1 with heap := h1 } (.ref (s1.heap.objs.size + 4)) "zip" := ⟨_, zs1.z, rfl⟩
  have W' : Feed X.prog X.w X.A.in1.in1 (Shared.heap { s1 with heap := h1 }).objs.size (s1.heap.objs.size + 4) ix.toArray.size (Y2St s1.heap s1.heap.objs.size l m ix.toArray iy.toArray) (Y2En s1.heap s1.heap.objs.size ix.toArray iy.toArray) := by
    show Feed _ _ _ h1.objs.size _ _ _ _
    rw [sz1]
    exact W
  refine call_function_tree kind_sorted plain_sorted entry_sorted (args_sorted1 _) ?_
  unfold Builtin.sorted
  refine wpAny_bind (wpAny_of_eq (show checkCount "sorted" 1 1 1 = pure () from rfl) ?_)
  refine wpAny_bind (collect_feed W' (by rw [lx]; exact Nat.le_of_lt (small1000 (by omega))) ty (by decide) (by decide) ?_ ?_ ?_)
  · intro s' Q' E' old sz k
    refine zip3_iter (old _ _ zs1.z) (k s'.heap s'.toks ⟨.none, false, [], rfl, ⟨old _ _ zs1.z, old _ _ zs1.ti, let ⟨u1, u2, e⟩ := zs1.to; ⟨u1, u2, old _ _ e⟩, zs1.i1.at fun o e => old _ o e, zs1.i2.at fun o e => old _ o e⟩, .inl ⟨rfl, rfl⟩, fun c o e => old _ _ (k1 c o e), List.nodup_nil, fun j t e => by simp at e⟩ fun o e => e)
  · intro s' Q' E' st k
    obtain ⟨_, _, _, _, z, _⟩ := st
    exact zip3_hint ⟨_, z.z, rfl⟩ k
  · intro h' tk acc ea en szl
    obtain ⟨Ts, rfl, old, nd, hd⟩ := en
    have lT : Ts.length = xs.length := by rw [← lx, ← ea, List.length_map]
    have lP : (xs.zip ys).length = xs.length := by rw [List.length_zip]; omega
    have prs : PrAre h' (Ts.map Value.ref) (xs.zip ys) := pr_of (by omega) fun j t pp ej ep => by
      obtain ⟨_, u1, u2, p1, p2, p3⟩ := hd j t ej
      rw [List.getElem?_toArray] at p1 p2
      obtain ⟨x, t1, ex, rfl⟩ := int_at rx j u1 p1
      obtain ⟨y, t2, ey, rfl⟩ := int_at ry j u2 p2
      rw [List.getElem?_zip_eq_some] at ep
      obtain ⟨g1, g2⟩ := ep
      rw [ex] at g1
      rw [ey] at g2
      cases g1
      cases g2
      exact ⟨t1, t2, p3⟩
    refine sorted_tail (s := { s1 with heap := h', toks := tk }) prs (by rw [List.length_map]; omega) ?_
    show EP X pins σ Q (.ref h'.objs.size) _
    have szl' : s1.heap.objs.size + 5 < h'.objs.size := by
      have : h1.objs.size < h'.objs.size := szl
      rw [sz1] at this
      exact this
    have inT : ∀ t ∈ Ts, s1.heap.objs.size + 6 ≤ t ∧ t < h'.objs.size := fun t ht => by
      obtain ⟨j, hj⟩ := List.mem_iff_getElem?.mp ht
      obtain ⟨g, _, _, _, _, e⟩ := hd j t hj
      exact ⟨g, Heap.lt_size e⟩
    have ndS : (h'.objs.size :: Ts).Nodup := List.nodup_cons.mpr ⟨fun mm => Nat.lt_irrefl _ (inT _ mm).2, nd⟩
    have lR : ((xs.zip ys).map fun p => [V.int p.1, V.int p.2]).length = Ts.length := by rw [List.length_map, lP, lT]
    have lTP : (Ts.map V.ref).length = (xs.zip ys).length := by rw [List.length_map, lP, lT]
    have oth : ∀ b, b < s1.heap.objs.size → zS H1 h'.objs.size (srtL (xs.zip ys) (Ts.map V.ref)) Ts ((xs.zip ys).map fun p => [V.int p.1, V.int p.2]) b = H1 b := fun b lt => by
      have n1 : b ≠ h'.objs.size := Nat.ne_of_lt (Nat.lt_trans (Nat.lt_of_lt_of_le lt (Nat.le_add_right _ 5)) szl')
      rw [zS_ne n1]
      exact zH_oth n1 fun mm => Nat.lt_irrefl _ (Nat.lt_of_lt_of_le (Nat.lt_of_lt_of_le lt (Nat.le_add_right _ 6)) (inT _ mm).1)
    have tup : ∀ (j : Nat) (t : Addr) (p : Int × Int), Ts[j]? = some t → (xs.zip ys)[j]? = some p → zS H1 h'.objs.size (srtL (xs.zip ys) (Ts.map V.ref)) Ts ((xs.zip ys).map fun p => [V.int p.1, V.int p.2]) t = some (.tup [V.int p.1, V.int p.2]) := fun j t p ej ep => by
      rw [zS_ne (Nat.ne_of_lt (inT t (List.mem_of_getElem? ej)).2)]
      exact zH_row ndS ej (by rw [List.getElem?_map, ep]; rfl)
    have pl : (h'.push (seqObj "list" (Ts.map Value.ref).toArray 0)).get? h'.objs.size = some (seqObj "list" (Ts.map Value.ref).toArray 0) := Heap.get?_push_size _ rfl
    have old2 : ∀ c o, c ≠ h'.objs.size → h'.get? c = some o → (sortedHeap (h'.push (seqObj "list" (Ts.map Value.ref).toArray 0)) h'.objs.size (Ts.map Value.ref) (srtV (xs.zip ys) (Ts.map Value.ref)).toArray).get? c = some o := fun c o n e => sortedHeap_old n (Heap.get?_push_of_some _ e)
    refine ⟨.ref h'.objs.size, zS H1 h'.objs.size (srtL (xs.zip ys) (Ts.map V.ref)) Ts ((xs.zip ys).map fun p => [V.int p.1, V.int p.2]), Inv.many (s := s1) (t' := tk) I1 (fun c o e => old2 c o (Nat.ne_of_lt (Nat.lt_trans (Nat.lt_of_lt_of_le (Heap.lt_size e) (Nat.le_add_right _ 5)) szl')) (old c o e)) oth ?_, rfl, q _ _ _ (fun c o e => (oth c (I1.hok.lt e)).trans e) (I1.hok.fresh (Nat.le_trans (Nat.le_add_right _ 5) (Nat.le_of_lt szl'))) zS_S (srt_get ⟨lTP, fun j v p e1' e2' => ?_⟩)⟩
    · intro b o ge eb
      by_cases hbS : b = h'.objs.size
      · subst hbS
        rw [zS_S] at eb
        cases eb
        have vv := vals_srt (vals_ref Ts) lTP
        obtain ⟨c, he⟩ := sortedHeap_at (out := (srtV (xs.zip ys) (Ts.map Value.ref)).toArray) pl
        refine ⟨?_, srtV (xs.zip ys) (Ts.map Value.ref), c, vv, he⟩
        rw [vv.length, srtV_len (by rw [List.length_map, lT, lP])]
        exact Nat.le_of_lt (small1000 (by omega))
      · by_cases hbT : b ∈ Ts
        · obtain ⟨j, hj⟩ := List.mem_iff_getElem?.mp hbT
          have lj : j < (xs.zip ys).length := by rw [lP, ← lT]; exact (List.getElem?_eq_some_iff.mp hj).1
          have ep : (xs.zip ys)[j]? = some ((xs.zip ys)[j]'lj) := List.getElem?_eq_getElem lj
          rw [tup j b _ hj ep] at eb
          cases eb
          obtain ⟨_, u1, u2, p1, p2, p3⟩ := hd j b hj
          rw [List.getElem?_toArray] at p1 p2
          obtain ⟨x, t1, ex, rfl⟩ := int_at rx j u1 p1
          obtain ⟨y, t2, ey, rfl⟩ := int_at ry j u2 p2
          obtain ⟨g1, g2⟩ := List.getElem?_zip_eq_some.mp ep
          rw [ex] at g1
          rw [ey] at g2
          have ex' := Option.some.inj g1
          have ey' := Option.some.inj g2
          refine ⟨by simp [sizeLine_eq], [.int x t1, .int y t2], .cons ⟨t1, by rw [ex']⟩ (.cons ⟨t2, by rw [ey']⟩ .nil), _, old2 b _ hbS p3, rfl, _, rfl⟩
        · rw [zS_ne hbS, zH_oth hbS hbT, I1.hok.fresh ge] at eb
          cases eb
    · rw [List.getElem?_map] at e1'
      obtain ⟨t, et, rfl⟩ := Option.map_eq_some_iff.mp e1'
      exact ⟨t, rfl, tup j t p et e2'⟩
end
end L2
namespace L2
open PySem PySem.Spec PyProof.Rows
structure KM where
  a : Int
  b : Bool
  c : Int
  d : Int
  e : Int
  f : Int
  ws : List (List Int)
  deriving DecidableEq
section
variable {prog : Program} {w : World} {A : Around} {E : Value → Shared → Prop} {s : Shared}
theorem hash_bool {b : Bool} {Q : Int → Shared → Prop} (h : Q (if b = true then 1 else 0) { s with toks := s.toks + 1 }) : wpAny (model prog w) A (pyHash (.bool b)) Q E s := by
  refine PySem.W.pyHash_slot (T := "bool") rfl PySem.F.slot_bool_hash entry_int_hash (args_int_hash _) (beq_builtin_none _) (.inl rfl) ?_
  cases b
  · exact (show wpAny _ _ (do ret (← mkInt 0)) _ _ s from wpAny_bind (wpAny_mkInt (wpAny_pure ⟨_, _, rfl, h⟩)))
  · exact (show wpAny _ _ (do ret (← mkInt 1)) _ _ s from wpAny_bind (wpAny_mkInt (wpAny_pure ⟨_, _, rfl, h⟩)))
inductive WaysAre (prog : Program) (w : World) (h : Heap) : List (List Int) → List Value → Prop where
  | nil : WaysAre prog w h [] []
  | cons {k : List Int} {ks : List (List Int)} {c : Addr} {vs : List Value} (i : IsTupleKey (intKind prog w) h k c) (r : WaysAre prog w h ks vs) : WaysAre prog w h (k :: ks) (.ref c :: vs)
def IsWays (prog : Program) (w : World) (h : Heap) (ks : List (List Int)) (a : Addr) : Prop := ∃ o items n, h.get? a = some o ∧ o.cls = .type "tuple" ∧ o.data = .seq items n ∧ WaysAre prog w h ks items.toList
theorem WaysAre.inj {h : Heap} {x y : List (List Int)} {vs : List Value} (hx : WaysAre prog w h x vs) (hy : WaysAre prog w h y vs) : x = y := by
  induction hx generalizing y with
  | nil => cases hy; rfl
  | cons i _ ih =>
    cases hy with
    | cons i' r' => rw [i.inj i', ih r']
theorem WaysAre.stay {h h' : Heap} {x : List (List Int)} {vs : List Value} {d : Addr} {o : Obj} {es : Array DictEntry} {ep : Nat} (m : WaysAre prog w h x vs) (ho : h.get? d = some o) (hd : o.data = .dict es ep) (sb : Heap.SameBut d h h') : WaysAre prog w h' x vs := by
  induction m with
  | nil => exact .nil
  | cons i _ ih => exact .cons (i.keeps ho hd sb) ih
theorem IsWays.inj {h : Heap} {a : Addr} {x y : List (List Int)} (mx : IsWays prog w h x a) (my : IsWays prog w h y a) : x = y := by
  obtain ⟨o, items, n, ho, _, hd, hi⟩ := mx
  obtain ⟨o', items', n', ho', _, hd', hi'⟩ := my
  obtain rfl : o = o' := Option.some.inj (ho.symm.trans ho')
  rw [hd] at hd'
  injection hd' with h1 _
  subst h1
  exact hi.inj hi'
theorem IsWays.stay {h h' : Heap} {k : List (List Int)} {a d : Addr} {o : Obj} {es : Array DictEntry} {ep : Nat} (m : IsWays prog w h k a) (ho : h.get? d = some o) (hd : o.data = .dict es ep) (sb : Heap.SameBut d h h') : IsWays prog w h' k a := by
  obtain ⟨o', items, n, ho', hc, hd', hi⟩ := m
  have hne : a ≠ d := by
    rintro rfl
    obtain rfl : o' = o := Option.some.inj (ho'.symm.trans ho)
    rw [hd] at hd'; exact nomatch hd'
  exact ⟨o', items, n, (sb.2 a hne).trans ho', hc, hd', hi.stay ho hd sb⟩
def wayH (prog : Program) (w : World) (k : List Int) : Int := tupleKeyHash (intKind prog w) k
def waysH (prog : Program) (w : World) (ks : List (List Int)) : Int := reduceHash (Builtin.Tuple.tupleHashOf (ks.map (wayH prog w)))
def waysD (ks : List (List Int)) : Nat := (ks.map fun k => k.length + 1).sum
def IsKM (prog : Program) (w : World) (h : Heap) (k : KM) (a : Addr) : Prop :=
  ∃ o n q t0 t2 t3 t4 t5, h.get? a = some o ∧ o.cls = .type "tuple" ∧ o.data = .seq #[.int k.a t0, .bool k.b, .int k.c t2, .int k.d t3, .int k.e t4, .int k.f t5, .ref q] n ∧ IsWays prog w h k.ws q
theorem KM.ext' {x y : KM} (ha : x.a = y.a) (hb : x.b = y.b) (hc : x.c = y.c) (hd : x.d = y.d) (he : x.e = y.e) (hf : x.f = y.f) (hw : x.ws = y.ws) : x = y := by
  cases x; cases y
  simp_all
theorem IsKM.one {h : Heap} {a : Addr} {x y : KM} (mx : IsKM prog w h x a) (my : IsKM prog w h y a) : x = y := by
  obtain ⟨o, n, q, t0, t2, t3, t4, t5, e, _, d, i⟩ := mx
  obtain ⟨o', n', q', u0, u2, u3, u4, u5, e', _, d', i'⟩ := my
  rw [e] at e'
  cases e'
  rw [d] at d'
  injection d' with z _
  have z' := congrArg Array.toList z
  simp only [List.cons.injEq, Value.int.injEq, Value.bool.injEq, Value.ref.injEq, and_true] at z'
  obtain ⟨⟨z1, _⟩, z2, ⟨z3, _⟩, ⟨z4, _⟩, ⟨z5, _⟩, ⟨z6, _⟩, z7⟩ := z'
  subst z7
  exact KM.ext' z1 z2 z3 z4 z5 z6 (i.inj i')
theorem IsKM.stay {h h' : Heap} {k : KM} {a d : Addr} {o : Obj} {es : Array DictEntry} {ep : Nat} (m : IsKM prog w h k a) (ho : h.get? d = some o) (hd : o.data = .dict es ep) (sb : Heap.SameBut d h h') : IsKM prog w h' k a := by
  obtain ⟨o', n, q, t0, t2, t3, t4, t5, e, c, dd, i⟩ := m
  have ne : a ≠ d := fun z => by
    subst z
    rw [e] at ho
    cases ho
    rw [dd] at hd
    cases hd
  exact ⟨o', n, q, t0, t2, t3, t4, t5, (sb.2 a ne).trans e, c, dd, i.stay ho hd sb⟩
def kmHash (prog : Program) (w : World) (k : KM) : Int := reduceHash (Builtin.Tuple.tupleHashOf [hashInt k.a, if k.b = true then 1 else 0, hashInt k.c, hashInt k.d, hashInt k.e, hashInt k.f, waysH prog w k.ws])
end
end L2
namespace L2
open PySem PySem.Spec PyProof.Rows
section
variable (prog : Program) (w : World)
def HashOk (h : Heap) (v : Value) (z : Int) (d r : Nat) : Prop :=
  ∀ (A : Around) (E : Value → Shared → Prop) (s : Shared) (Q : Int → Shared → Prop), s.heap = h → A.units + r < cLine → Q z { s with toks := s.toks + d } → wpAny (model prog w) A (pyHash v) Q E s
inductive HsAre (h : Heap) (r : Nat) : List Value → List Int → Nat → Prop where
  | nil : HsAre h r [] [] 0
  | cons {v : Value} {z : Int} {d e : Nat} {vs : List Value} {zs : List Int} : HashOk prog w h v z d r → HsAre h r vs zs e → HsAre h r (v :: vs) (z :: zs) (d + e)
variable {prog w}
theorem hash_turns {h : Heap} {r : Nat} {vs : List Value} {zs : List Int} {d : Nat} (H : HsAre prog w h r vs zs d) : ∀ (A : Around) (E : Value → Shared → Prop) (s : Shared) (b : Array Int) (Q : Array Int → Shared → Prop), s.heap = h → A.units + r < cLine →
    (∀ b', b'.toList = b.toList ++ zs → Q b' { s with toks := s.toks + d }) → wpAny (model prog w) A (forIn vs b fun x acc => do let z ← pyHash x; pure PUnit.unit; pure (ForInStep.yield (acc.push z))) Q E s := by
  induction H with
  | nil => exact fun A E s b Q _ _ q => wpAny_pure (q b (by simp))
  | @cons v z d e vs zs hv _ ih =>
    intro A E s b Q hh hu q
    rw [List.forIn_cons]
    refine wpAny_bind (wpAny_bind (hv A E s _ hh hu ?_))
    refine wpAny_bind (wpAny_pure (wpAny_pure ?_))
    refine ih A E { s with toks := s.toks + d } (b.push z) Q hh hu fun b' hb => ?_
    have := q b' (by rw [hb]; simp)
    rw [← Nat.add_assoc] at this
    exact this
theorem hash_tup {h : Heap} {a : Addr} {o : Obj} {items : Array Value} {n r d : Nat} {zs : List Int} (e : h.get? a = some o) (c : o.cls = .type "tuple") (dt : o.data = .seq items n) (H : HsAre prog w h r items.toList zs d) :
    HashOk prog w h (.ref a) (reduceHash (Builtin.Tuple.tupleHashOf zs)) (d + 1) (r + 1) := by
  intro A E s Q hh hu q
  subst hh
  refine PySem.W.pyHash_slot (T := "tuple") ⟨o, e, c⟩ PySem.F.slot_tuple_hash PySem.F.entry_tuple_hash (PySem.F.args_tuple_hash_1 _) (beq_builtin_none _) (.inr (by omega)) ?_
  refine (show wpAny _ _ (Builtin.Tuple.tupleItemsOf (.ref a) >>= _) _ _ s from wpAny_bind (wpAny_tupleItemsOf e dt (wpAny_bind ?_)))
  rw [← Array.forIn_toList]
  refine hash_turns H A.in1 E s #[] _ rfl (by rw [Around.in1_units]; omega) fun b hb => ?_
  have eb : b.toList = zs := by simpa using hb
  show wpAny _ _ (retInt (Builtin.Tuple.tupleHashOf b.toList)) _ _ _
  rw [eb]
  exact wpAny_bind (wpAny_mkInt (wpAny_pure ⟨_, _, rfl, q⟩))
theorem hash_int (h : Heap) (i : Int) (t : Tok) (r : Nat) : HashOk prog w h (.int i t) (hashInt i) 1 r := fun _ _ _ _ _ _ q => wpAny_pyHash_int q
theorem hash_bl (h : Heap) (b : Bool) (r : Nat) : HashOk prog w h (.bool b) (if b = true then 1 else 0) 1 r := fun _ _ _ _ _ _ q => hash_bool q
theorem hash_way {h : Heap} {k : List Int} {c : Addr} (i : IsTupleKey (intKind prog w) h k c) : HashOk prog w h (.ref c) (wayH prog w k) (k.length + 1) 0 := fun A E s Q hh hu q => by
  subst hh
  exact wpAny_pyHash_tuple (knd := intKind prog w) (by omega) i q
theorem hash_ways {h : Heap} {ks : List (List Int)} {vs : List Value} (H : WaysAre prog w h ks vs) : HsAre prog w h 0 vs (ks.map (wayH prog w)) (waysD ks) := by
  induction H with
  | nil => exact .nil
  | @cons k ks c vs i _ ih =>
    have e : waysD (k :: ks) = (k.length + 1) + waysD ks := by unfold waysD; simp
    rw [e, List.map_cons]
    exact .cons (hash_way i) ih
theorem hash_isWays {h : Heap} {ks : List (List Int)} {a : Addr} (m : IsWays prog w h ks a) : HashOk prog w h (.ref a) (waysH prog w ks) (waysD ks + 1) 1 := by
  obtain ⟨o, items, n, e, c, d, i⟩ := m
  exact hash_tup e c d (hash_ways i)
theorem hash_km {h : Heap} {k : KM} {a : Addr} (m : IsKM prog w h k a) : HashOk prog w h (.ref a) (kmHash prog w k) (waysD k.ws + 1 + 6 + 1) 2 := by
  obtain ⟨o, n, q, t0, t2, t3, t4, t5, e, c, d, i⟩ := m
  have H := hash_tup (r := 1) e c d (.cons (hash_int h k.a t0 1) (.cons (hash_bl h k.b 1) (.cons (hash_int h k.c t2 1) (.cons (hash_int h k.d t3 1) (.cons (hash_int h k.e t4 1) (.cons (hash_int h k.f t5 1) (.cons (hash_isWays i) .nil)))))))
  have en : 1 + (1 + (1 + (1 + (1 + (1 + (waysD k.ws + 1 + 0)))))) + 1 = waysD k.ws + 1 + 6 + 1 := by omega
  rw [en] at H
  exact H
def dWay (k : List Int) : PyData := .tuple (k.map .int)
def dKM (k : KM) : PyData := .tuple [.int k.a, .bool k.b, .int k.c, .int k.d, .int k.e, .int k.f, .tuple (k.ws.map dWay)]
theorem items_reads {h : Heap} {k : List Int} {vs : List Value} (H : ItemsAre (intKind prog w) k vs) : ∃ as, ReadsAll h vs (k.map .int) as := by
  induction H with
  | nil => exact ⟨_, .nil⟩
  | @cons i v ks vs hv _ ih =>
    obtain ⟨as, p⟩ := ih
    have : ∃ t, v = .int i t := Value.isInt_shape hv
    obtain ⟨t, rfl⟩ := this
    exact ⟨_, .cons (.int i t) p⟩
theorem way_reads {h : Heap} {k : List Int} {c : Addr} (i : IsTupleKey (intKind prog w) h k c) : ∃ as, Reads h (.ref c) (dWay k) as := by
  obtain ⟨o, items, n, e, c, d, hi⟩ := i
  obtain ⟨as, p⟩ := items_reads (h := h) hi
  exact ⟨_, .tuple e c d p⟩
theorem ways_reads {h : Heap} {ks : List (List Int)} {vs : List Value} (H : WaysAre prog w h ks vs) : ∃ as, ReadsAll h vs (ks.map dWay) as := by
  induction H with
  | nil => exact ⟨_, .nil⟩
  | cons i _ ih =>
    obtain ⟨as, p⟩ := way_reads i
    obtain ⟨bs, q⟩ := ih
    exact ⟨_, .cons p q⟩
theorem km_reads {h : Heap} {k : KM} {a : Addr} (m : IsKM prog w h k a) : ∃ as, Reads h (.ref a) (dKM k) as := by
  obtain ⟨o, n, q, t0, t2, t3, t4, t5, e, c, d, o', items, n', e', c', d', hi⟩ := m
  obtain ⟨as, p⟩ := ways_reads hi
  exact ⟨_, .tuple e c d (.cons (.int _ _) (.cons (.bool _) (.cons (.int _ _) (.cons (.int _ _) (.cons (.int _ _) (.cons (.int _ _) (.cons (.tuple e' c' d' p) .nil)))))))⟩
theorem eqv_way : ∀ a b : List Int, PyData.eqv (dWay a) (dWay b) = decide (a = b) := by
  intro a b
  unfold dWay
  simp only [PyData.eqv]
  induction a generalizing b with
  | nil => cases b <;> simp [PyData.eqvAll]
  | cons x a ih =>
    cases b with
    | nil => simp [PyData.eqvAll]
    | cons y b =>
      simp only [List.map_cons, PyData.eqvAll, PyData.eqv, ih b, List.cons.injEq]
      by_cases h : x = y <;> by_cases h2 : a = b <;> simp [h, h2]
theorem eqv_ways : ∀ a b : List (List Int), PyData.eqvAll (a.map dWay) (b.map dWay) = decide (a = b)
  | [], [] => rfl
  | [], _ :: _ => rfl
  | _ :: _, [] => rfl
  | x :: a, y :: b => by
    simp only [List.map_cons, PyData.eqvAll, eqv_way, eqv_ways a b, List.cons.injEq]
    by_cases h : x = y <;> by_cases h2 : a = b <;> simp [h, h2]
theorem eqv_km (x y : KM) : PyData.eqv (dKM x) (dKM y) = decide (x = y) := by
  cases x with | mk a b c d e f ws =>
  cases y with | mk a' b' c' d' e' f' ws' =>
  unfold dKM
  simp only [PyData.eqv, PyData.eqvAll, eqv_ways, KM.mk.injEq]
  by_cases h1 : a = a' <;> by_cases h2 : b = b' <;> by_cases h3 : c = c' <;> by_cases h4 : d = d' <;> by_cases h5 : e = e' <;> by_cases h6 : f = f' <;> by_cases h7 : ws = ws' <;> simp [h1, h2, h3, h4, h5, h6, h7]
theorem lay_way (k : List Int) : (dWay k).canLay0 = true ∧ (dWay k).depth ≤ 1 := by
  have h : PyData.canLayAll0 (k.map .int) = true ∧ PyData.depthAll (k.map .int) = 0 := by
    induction k with
    | nil => exact ⟨rfl, rfl⟩
    | cons x k ih => simp only [List.map_cons, PyData.canLayAll0, PyData.canLay0, PyData.depthAll, PyData.depth, ih.1, ih.2, Bool.and_self, Nat.max_self, and_self]
  unfold dWay
  simp only [PyData.canLay0, PyData.depth, h.1, h.2, true_and]
  exact Nat.le_refl _
theorem lay_km (k : KM) : (dKM k).canLay0 = true ∧ (dKM k).depth ≤ 3 := by
  have h : PyData.canLayAll0 (k.ws.map dWay) = true ∧ PyData.depthAll (k.ws.map dWay) ≤ 1 := by
    induction k.ws with
    | nil => exact ⟨rfl, Nat.zero_le _⟩
    | cons x ws ih =>
      obtain ⟨h1, h2⟩ := lay_way x
      simp only [List.map_cons, PyData.canLayAll0, PyData.depthAll, h1, ih.1, Bool.and_self, true_and]
      have := ih.2
      omega
  unfold dKM
  simp only [PyData.canLay0, PyData.canLayAll0, PyData.depth, PyData.depthAll, h.1, Bool.and_self, true_and]
  have := h.2
  omega
theorem eq_km {A : Around} {E : Value → Shared → Prop} {s : Shared} {x y : KM} {a b : Addr} {Q : Bool → Shared → Prop} (hu : A.units + 8 < cLine) (mx : IsKM prog w s.heap x a) (my : IsKM prog w s.heap y b) (q : Q (decide (x = y)) s) : wpAny (model prog w) A (eqBool (.ref a) (.ref b)) Q E s := by
  obtain ⟨as, rx⟩ := km_reads mx
  obtain ⟨bs, ry⟩ := km_reads my
  have l := lay_km x
  have H := PySem.SeqAt.eqAt_reads _ _ A s _ _ _ _ rx ry l.1 (lay_km y).1 (Nat.lt_of_le_of_lt (Nat.add_le_add_left (Nat.min_le_left _ _) _) (by have := l.2; omega))
  rw [eqv_km] at H
  exact H prog w E Q q
def QuietOk (h : Heap) (n : Nat) (v : Value) : Prop := ∀ (M : Model) (A : Around) (E : Value → Shared → Prop) (s : Shared) (Q : Bool → Shared → Prop), s.heap = h → Q true s → wpAny M A (eqIsQuiet n v) Q E s
theorem quiet_tup {h : Heap} {a : Addr} {o : Obj} {items : Array Value} {m n : Nat} (e : h.get? a = some o) (c : o.cls = .type "tuple") (dt : o.data = .seq items m) (H : ∀ v ∈ items.toList, QuietOk h n v) : QuietOk h (n + 1) (.ref a) := by
  intro M A E s Q hh q
  subst hh
  have T : s.TypeIs (.ref a) "tuple" := ⟨o, e, c⟩
  unfold eqIsQuiet
  refine wpAny_bind (wpAny_specialOf T PySem.F.slot_tuple_eq.lookup (show wpAny _ _ (isInstance (.ref a) (.type "tuple") >>= _) _ _ s from wpAny_bind (wpAny_isInstance T isSubtype_tuple_tuple ?_)))
  rw [if_neg (by decide)]
  refine wpAny_bind (wpAny_seqItems e dt (wpAny_bind (show wpAny _ _ (forIn items _ _) _ _ s from ?_)))
  rw [← Array.forIn_toList]
  refine wpAny_forIn_list _ (fun left r s1 => r.1 = none ∧ s1 = s ∧ ∀ v ∈ left, QuietOk s.heap n v) _ ?_ ?_ _ _ ⟨rfl, rfl, H⟩
  · rintro v left r s1 ⟨_, rfl, al⟩
    refine wpAny_bind (al v (List.mem_cons_self ..) _ _ _ _ _ rfl ?_)
    rw [if_neg (by decide)]
    exact wpAny_pure ⟨rfl, rfl, fun u hu => al u (List.mem_cons_of_mem _ hu)⟩
  · rintro ⟨r1, _⟩ s1 ⟨hr, rfl, _⟩
    cases (show r1 = none from hr)
    exact wpAny_pure q
theorem quiet_val {h : Heap} {v : Value} (n : Nat) (c : carriedByValue v = true) : QuietOk h n v := fun M A E s Q _ q => by
  rw [eqIsQuiet_byValue n c]
  exact wpAny_pure q
theorem quiet_way {h : Heap} {k : List Int} {c : Addr} (n : Nat) (i : IsTupleKey (intKind prog w) h k c) : QuietOk h (n + 1) (.ref c) := by
  obtain ⟨o, items, m, e, cl, d, hi⟩ := i
  exact quiet_tup e cl d fun v hv => quiet_val n (hi.byValue v hv)
theorem quiet_ways {h : Heap} {ks : List (List Int)} {vs : List Value} (n : Nat) (H : WaysAre prog w h ks vs) : ∀ v ∈ vs, QuietOk h (n + 1) v := by
  induction H with
  | nil => intro v hv; cases hv
  | cons i _ ih =>
    intro v hv
    rcases List.mem_cons.mp hv with rfl | hv
    · exact quiet_way n i
    · exact ih v hv
theorem quiet_km {h : Heap} {k : KM} {a : Addr} (m : IsKM prog w h k a) : QuietOk h 8 (.ref a) := by
  obtain ⟨o, n, q, t0, t2, t3, t4, t5, e, c, d, o', items, n', e', c', d', hi⟩ := m
  refine quiet_tup e c d fun v hv => ?_
  simp only [List.mem_cons, List.not_mem_nil, or_false] at hv
  rcases hv with rfl | rfl | rfl | rfl | rfl | rfl | rfl
  · exact quiet_val 7 rfl
  · exact quiet_val 7 rfl
  · exact quiet_val 7 rfl
  · exact quiet_val 7 rfl
  · exact quiet_val 7 rfl
  · exact quiet_val 7 rfl
  · exact quiet_tup (n := 6) e' c' d' (quiet_ways 5 hi)
def kmKind (prog : Program) (w : World) : HeapKind prog w KM where
  is := IsKM prog w
  hash := kmHash prog w
  draws k := waysD k.ws + 1 + 6 + 1
  room A := A.units + 8 < cLine
  inj := IsKM.one
  keeps := IsKM.stay
  pyHash hu m q := hash_km m _ _ _ _ rfl (by omega) q
  eqBool := eq_km
  quiet m q := quiet_km m _ _ _ _ _ rfl q
end
end L2
namespace L2
open PySem PySem.Spec PyProof.Rows
section
variable {P : Program} {w : World} {H : Hp} {h : Heap} {a : Addr}
abbrev KRel : List (KM × Addr × V) → List (KM × Addr × Value) → Prop := Paired fun p q => p.1 = q.1 ∧ p.2.1 = q.2.1 ∧ RelV p.2.2 q.2.2
def KkAt (P : Program) (w : World) (a : Addr) (xs : List (KM × Addr × V)) (h : Heap) : Prop :=
  xs.length ≤ sizeLine ∧ (a == sysModules) = false ∧ ∃ ys, KRel xs ys ∧ ∃ o es ep, h.get? a = some o ∧ o.ExactDict ∧ o.data = .dict es ep ∧ es.toList = ys.map (entryOfKey (kmKind P w)) ∧ (ys.map (·.1)).Nodup
def KkO (P : Program) (w : World) (a : Addr) (xs : List (KM × Addr × V)) : HO := .ext (KkAt P w a xs)
def WAt (H : Hp) (vs : List V) (ws : List (List Int)) : Prop := vs.length = ws.length ∧ ∀ (i : Nat) (v : V) (k : List Int), vs[i]? = some v → ws[i]? = some k → ∃ c, v = .ref c ∧ H c = some (.tup (k.map V.int))
def KkKey (H : Hp) (x : KM × Addr) : Prop := ∃ q vs, H x.2 = some (.tup [.int x.1.a, .bl x.1.b, .int x.1.c, .int x.1.d, .int x.1.e, .int x.1.f, .ref q]) ∧ H q = some (.tup vs) ∧ WAt H vs x.1.ws
theorem way_of (ok : HOk P w H h) {k : List Int} (e : H a = some (.tup (k.map V.int))) : IsTupleKey (intKind P w) h k a := by
  obtain ⟨_, its2, r2, o2, p1, p2, n2, p3⟩ := (show ObjOk P w H h a _ from ok a _ e)
  exact ⟨o2, _, n2, p1, p2, p3, ints_are r2⟩
theorem ways_of (ok : HOk P w H h) : ∀ {vs : List V} {us : List Value} {ws : List (List Int)}, Vals vs us → WAt H vs ws → WaysAre P w h ws us
  | [], _, [], .nil, _ => .nil
  | [], _, _ :: _, _, q => absurd q.1 (by simp)
  | _ :: _, _, [], _, q => absurd q.1 (by simp)
  | v :: vs, _, k :: ws, .cons r rs, q => by
    obtain ⟨c, rfl, hc⟩ := q.2 0 v k rfl rfl
    cases (show _ = Value.ref c from r)
    exact .cons (way_of ok hc) (ways_of ok rs ⟨by simpa using q.1, fun i v' k' h1 h2 => q.2 (i + 1) v' k' (by simpa using h1) (by simpa using h2)⟩)
theorem km_of {k : KM} (ok : HOk P w H h) (e : KkKey H (k, a)) : IsKM P w h k a := by
  obtain ⟨b, vs, e, eb, ew⟩ := e
  obtain ⟨_, its, r, o, q1, q2, n, q3⟩ := (show ObjOk P w H h a _ from ok a _ e)
  obtain ⟨_, its2, r2, o2, p1, p2, n2, p3⟩ := (show ObjOk P w H h b _ from ok b _ eb)
  cases r with
  | cons s1 r =>
  cases r with
  | cons s2 r =>
  cases r with
  | cons s3 r =>
  cases r with
  | cons s4 r =>
  cases r with
  | cons s5 r =>
  cases r with
  | cons s6 r =>
  cases r with
  | cons s7 r =>
    cases r
    obtain ⟨t0, rfl⟩ := (show ∃ t, _ = Value.int k.a t from s1)
    cases (show _ = Value.bool k.b from s2)
    obtain ⟨t2, rfl⟩ := (show ∃ t, _ = Value.int k.c t from s3)
    obtain ⟨t3, rfl⟩ := (show ∃ t, _ = Value.int k.d t from s4)
    obtain ⟨t4, rfl⟩ := (show ∃ t, _ = Value.int k.e t from s5)
    obtain ⟨t5, rfl⟩ := (show ∃ t, _ = Value.int k.f t from s6)
    cases (show _ = Value.ref b from s7)
    exact ⟨o, n, b, t0, t2, t3, t4, t5, q1, q2, q3, o2, _, n2, p1, p2, p3, ways_of ok r2 ew⟩
theorem kk_ok {xs : List (KM × Addr × V)} (q : KkAt P w a xs h) : ObjOk P w H h a (KkO P w a xs) := by
  obtain ⟨z, d, ys, r, o, es, ep, g1, g2⟩ := q
  refine ⟨⟨z, d, ys, r, o, es, ep, g1, g2⟩, ⟨o, g1⟩, fun h1 h2 q k => ?_⟩
  obtain ⟨z, d, ys, r, o, es, ep, g1, g2⟩ := q
  exact ⟨z, d, ys, r, o, es, ep, k _ g1, g2⟩
theorem KRel.at {k : KM} {xs : List (KM × Addr × V)} {ys : List (KM × Addr × Value)} (r : KRel xs ys) : RelO ((xs.find? fun x => decide (x.1 = k)).map (·.2.2)) ((atKey ys k).map (·.2)) := by
  induction r with
  | nil => exact True.intro
  | @cons p q ps qs g t ih =>
    obtain ⟨g1, _, g3⟩ := g
    by_cases e : p.1 = k
    · have e' : q.1 = k := g1.symm.trans e
      rw [show atKey (q :: qs) k = some q.2 by simp [atKey, e'], show ((p :: ps).find? fun x => decide (x.1 = k)) = some p by simp [e]]
      exact g3
    · have e' : ¬ q.1 = k := fun z => e (g1.trans z)
      rw [show atKey (q :: qs) k = atKey qs k by simp [atKey, e'], show ((p :: ps).find? fun x => decide (x.1 = k)) = ps.find? fun x => decide (x.1 = k) by simp [e]]
      exact ih
theorem kk_dict {xs : List (KM × Addr × V)} (ok : HOk P w H h) (e : H a = some (KkO P w a xs)) (ks : ∀ x ∈ xs, KkKey H (x.1, x.2.1)) :
    xs.length ≤ sizeLine ∧ (a == sysModules) = false ∧ ∃ ys, KRel xs ys ∧ h.DictOfH (kmKind P w) a ys := by
  obtain ⟨⟨z, d, ys, r, o, es, ep, g1, g2, g3, g4, g5⟩, _⟩ := (show ObjOk P w H h a _ from ok a _ e)
  refine ⟨z, d, ys, r, o, es, ep, g1, g2, g3, g4, fun y hy => ?_, g5⟩
  have : ∀ {l : List (KM × Addr × V)} {m : List (KM × Addr × Value)}, KRel l m → (∀ x ∈ l, KkKey H (x.1, x.2.1)) → ∀ y ∈ m, KkKey H (y.1, y.2.1) := by
    intro l m q
    induction q with
    | nil => intro _ y hy; cases hy
    | cons g t ih =>
      intro al y hy
      rcases List.mem_cons.mp hy with q | q
      · subst q
        have := al _ List.mem_cons_self
        rw [g.1, g.2.1] at this
        exact this
      · exact ih (fun x hx => al x (List.mem_cons_of_mem _ hx)) y q
  exact km_of ok (this r ks y hy)
end
def kL (l : List (KM × V × V)) : List (KM × Addr × V) := l.map fun x => (x.1, adr x.2.1, x.2.2)
def kObj (P : Program) (w : World) (a : Addr) (l : List (KM × V × V)) : HO := KkO P w a (kL l)
def kKey (H : Hp) (y : V) (k : KM) : Prop := ∃ a, y = .ref a ∧ KkKey H (k, a)
theorem kL_keys {H : Hp} {l : List (KM × V × V)} (h : ∀ z ∈ l, kKey H z.2.1 z.1) : ∀ x ∈ kL l, KkKey H (x.1, x.2.1) := by
  intro x hx
  obtain ⟨z, hz, rfl⟩ := List.mem_map.mp hx
  obtain ⟨a, e, q⟩ := h z hz
  show KkKey H (z.1, adr z.2.1)
  rw [e]
  exact q
theorem find_kL (k : KM) : ∀ l : List (KM × V × V), ((kL l).find? fun x => decide (x.1 = k)).map (·.2.2) = KL l k
  | [] => rfl
  | x :: l => by
    by_cases e : x.1 = k
    · simp [kL, KL, e]
    · rw [show KL (x :: l) k = KL l k by simp [KL, e], ← find_kL k l]
      simp [kL, e]
theorem kd_km {X : Cx} (hu : X.A.units + 9 < cLine) : Kd X KM (kObj X.prog X.w) kKey where
  ty := by
    intro pins σ H s a l I e
    obtain ⟨⟨_, _, ys, _, o, es, ep, g1, g2, _⟩, _⟩ := (show ObjOk X.prog X.w H s.heap a _ from I.hok a _ e)
    refine ⟨⟨o, g1, g2.1⟩, fun b q => ?_⟩
    cases q
    exact ⟨o, g1, g2.2.1⟩
  new := fun pos pins s σ H Q I h => by
    refine wpAny_Dict_empty ⟨.ref s.heap.objs.size, _, I.laid (o := kObj X.prog X.w s.heap.objs.size []) (t' := s.toks) (fun _ _ q => Heap.get?_push_of_some _ q) (Nat.le_refl _) (kk_ok ?_), rfl, h _ (I.hok.fresh (Nat.le_refl _))⟩
    exact ⟨Nat.zero_le _, beq_eq_false_iff_ne.mpr (Ne.symm (Nat.ne_of_lt I.big)), [], .nil, _, #[], 0, Heap.get?_push_size _ rfl, ⟨rfl, rfl, rfl⟩, rfl, rfl, List.nodup_nil⟩
  len := by
    intro pins s σ H xs us Q I r h
    obtain ⟨a, l, rfl, ha, ks, q⟩ := h
    obtain ⟨u, rfl, ru⟩ := vals1 r
    cases ru
    obtain ⟨z, hd, ys, rel, dd⟩ := kk_dict I.hok ha (kL_keys ks)
    have el : ys.length = l.length := by rw [← Paired.length rel, kL, List.length_map]
    refine hk_len hd dd (by rw [← Paired.length rel]; exact z) fun t t' => ⟨.int l.length, H, I.tok _, ⟨t, by rw [el]⟩, q⟩
  set := by
    intro pins s σ H x vs v us Q I rx rv h
    obtain ⟨d, l, k, y, z, rfl, rfl, e, ks, ⟨a, ey, ek⟩, hz, q⟩ := h
    cases rx
    cases ey
    obtain ⟨u, u', rfl, ru, ru'⟩ := rv.two
    cases ru
    obtain ⟨z1, hd, ys, rel, dd⟩ := kk_dict I.hok e (kL_keys ks)
    have t1 := KRel.at (k := k) rel
    rw [find_kL] at t1
    refine call_setd dd.typeIs hd (hk_setd (knd := kmKind X.prog X.w) (k := k) (by show X.A.units + 1 + 8 < cLine; omega) (km_of I.hok ek) dd (by rw [← Paired.length rel]; exact z1) (fun r hr => ?_) (fun hr h' dd' sb => ?_))
    · rw [hr] at t1
      rcases q with ⟨r', e1, q⟩ | ⟨e1, _⟩
      · rw [e1] at t1
        exact ⟨r', H, I.tok _, t1, q⟩
      · rw [e1] at t1
        exact (show False from t1).elim
    · rw [hr] at t1
      rcases q with ⟨r', e1, _⟩ | ⟨_, q⟩
      · rw [e1] at t1
        exact (show False from t1).elim
      · obtain ⟨o, es, ep, g1, g2, g3, g4, g5, g6⟩ := dd'
        refine ⟨z, _, d_write I (ob := kObj X.prog X.w d (l ++ [(k, .ref a, z)])) (by rw [e]; exact True.intro) sb ⟨o, g1⟩ (kk_ok ⟨?_, hd, _, ?_, o, es, ep, g1, g2, g3, g4, g6⟩), ru', q⟩
        · rw [kL, List.length_map, List.length_append, List.length_singleton]
          omega
        · rw [kL, List.map_append]
          exact Paired.snoc rel ⟨rfl, rfl, ru'⟩
end L2
namespace L2
open PySem PySem.Spec PyProof.Rows
section
variable {X : Cx}
end
end L2
namespace L2
open PySem PySem.Spec PyProof.Rows
section
variable {X : Cx}
theorem call_dictD : CallR X (.type "dict") (fun xs H Q => ∃ a kvs, xs = [V.ref a] ∧ H a = some (.dK kvs) ∧ ∀ p, H p = none → Q (.ref p) (upd H p (.dK kvs))) := by
  intro pins s σ H xs us Q I r h
  obtain ⟨a, kvs, rfl, e, q⟩ := h
  obtain ⟨u, rfl, ru⟩ := vals1 r
  cases ru
  exact d_copyOf I (.inl e) fun p s' hp I' => ⟨.ref p, _, I', rfl, q p hp⟩
end
end L2
namespace My
open PySem L2 PyProof.Rows
def top (i : Nat) : Stmt := PySem.Challenge.pw_evenkin_k72_whole_coarsest_kinds.main.body.getD i (.Pass ⟨0, 0, 0, 0⟩)
abbrev sCol : Stmt := top 1
abbrev sCols : Stmt := top 2
abbrev sInOne : Stmt := top 3
abbrev sInSq : Stmt := top 4
abbrev sPicked : Stmt := top 9
abbrev sRenamed : Stmt := top 10
abbrev sNumbered : Stmt := top 12
abbrev sWays : Stmt := top 14
abbrev sMarks : Stmt := top 15
abbrev sSplit : Stmt := top 16
abbrev sInTabs : Stmt := top 17
abbrev sCoarse : Stmt := top 18
abbrev sCoarseK : Stmt := top 19
abbrev sCellAt : Stmt := top 21
abbrev sDraws : Stmt := top 22
abbrev sSquare : Stmt := top 23
abbrev sWebP : Stmt := top 24
abbrev sOrder : Stmt := top 25
abbrev sLNum : Stmt := top 26
abbrev sLRows : Stmt := top 27
abbrev sPairs : Stmt := top 28
abbrev sFlat : Stmt := top 29
abbrev sLKin : Stmt := top 30
abbrev sAll : Stmt := top 31
abbrev sTold : Stmt := top 32
abbrev sWithin : Stmt := top 33
abbrev sLaw : Stmt := top 34
section
variable {K : PySem.W.Frag}
def bodyAt (s : Stmt) (i : Nat) : Stmt := (defBody s).getD i (.Pass ⟨0, 0, 0, 0⟩)
def asgVal (s : Stmt) : Expr := match s with
  | .Assign _ v _ => v
  | .Return (some v) _ => v
  | _ => .Constant .none 0 ⟨0, 0, 0, 0⟩
def lcScope (e : Expr) : Scope := match e with
  | .ListComp _ _ sc _ => sc
  | _ => { kind := .function, names := [], isGenerator := false, isCoroutine := false }
def tupAt (e : Expr) (i : Nat) : Expr := match e with
  | .Tuple es _ _ => es.getD i (.Constant .none 0 ⟨0, 0, 0, 0⟩)
  | _ => .Constant .none 0 ⟨0, 0, 0, 0⟩
theorem ix_tupK {K : PySem.W.Frag} {X : Cx} (h : X.K = K := by rfl) : IxR X (rIxT K) := by subst h; exact ix_tup
theorem Same.sq {H H' : Hp} {a : Addr} {xs : List V} (e : Same H H') (h : SqL K H a xs) : SqL K H' a xs := (Same.keep (ok := any) e).seq trivial h
theorem take_snoc {α : Type} {xs : List α} {i : Nat} {x : α} (h : xs[i]? = some x) : xs.take (i + 1) = xs.take i ++ [x] := by
  rw [List.take_succ, h]
  rfl
theorem map_get {α β : Type} {f : α → β} {xs : List α} {i : Nat} {y : β} (h : (xs.map f)[i]? = some y) : ∃ x, xs[i]? = some x ∧ y = f x := by
  rw [List.getElem?_map] at h
  obtain ⟨x, h1, h2⟩ := Option.map_eq_some_iff.mp h
  exact ⟨x, h1, h2.symm⟩
def tMid (t u : TS) : TS := fun D σ H => ∃ J : L2.St → Hp → Prop, t { D with nx := J } σ H ∧ ∀ σ' H', J σ' H' → u D σ' H'
theorem pss_mid {X : Cx} {st : Stmt} {rest : List Stmt} {t u : TS} (h1 : PS X st t) (h2 : PSs X rest u) : PSs X (st :: rest) (tMid t u) := by
  intro pins s σ H D I h
  obtain ⟨J, h, k⟩ := h
  refine wpAny_execs_cons (thn (h1 pins s σ H { D with nx := J } I h) fun f s1 q => ?_)
  cases f with
  | next =>
    obtain ⟨σ', H', I', q⟩ := q
    exact h2 pins s1 σ' H' D I' (k σ' H' q)
  | ret v => exact q
  | brk => exact q
  | cont => exact q
def dI (ns : List Int) : PyData := .list (ns.map .int)
theorem lay_ints : ∀ ns : List Int, PyData.canLayAll0 (ns.map .int) = true ∧ PyData.depthAll (ns.map .int) = 0
  | [] => ⟨rfl, rfl⟩
  | n :: ns => by
    obtain ⟨h1, h2⟩ := lay_ints ns
    refine ⟨?_, ?_⟩
    · rw [List.map_cons]
      simp only [PyData.canLayAll0, PyData.canLay0, h1, Bool.and_self]
    · rw [List.map_cons]
      simp only [PyData.depthAll, PyData.depth, h2, Nat.max_self]
theorem lay_dI (ns : List Int) : (dI ns).canLay0 = true ∧ (dI ns).depth ≤ 1 := by
  obtain ⟨h1, h2⟩ := lay_ints ns
  unfold dI
  exact ⟨by simp only [PyData.canLay0, h1], by simp only [PyData.depth, h2]; exact Nat.le_refl _⟩
theorem das_ints {ok : Addr → Prop} {H : Hp} : ∀ ns : List Int, DAs K ok H (ns.map V.int) (ns.map .int)
  | [] => .nil
  | n :: ns => .cons (.int n) (das_ints ns)
theorem daI {ok : Addr → Prop} {H : Hp} {a : Addr} {ns : List Int} (n : ok a) (h : SqL K H a (ns.map V.int)) : DA K ok H (.ref a) (dI ns) := .lst n h (das_ints ns)
theorem eqv_ints : ∀ a b : List Int, PyData.eqvAll (a.map .int) (b.map .int) = decide (a = b)
  | [], [] => rfl
  | [], b :: bs => rfl
  | a :: as, [] => rfl
  | a :: as, b :: bs => by
    rw [List.map_cons, List.map_cons]
    simp only [PyData.eqvAll, PyData.eqv, eqv_ints as bs]
    by_cases h : a = b
    · subst h
      by_cases h2 : as = bs
      · subst h2; simp
      · simp [h2]
    · simp [h]
theorem eqv_dI (a b : List Int) : PyData.eqv (dI a) (dI b) = decide (a = b) := by
  unfold dI
  simp only [PyData.eqv]
  exact eqv_ints a b
end
section
variable {P : Program} {w : World} {K : PySem.W.Frag} {mg : Str → Option Value} {base : Heap}
theorem ix_listK {K : PySem.W.Frag} {X : Cx} (h : X.K = K := by rfl) : IxR X (rIxL K) := by subst h; exact ix_list
theorem at_ref {rs : List Addr} {j : Nat} {r : Addr} (h : rs[j]? = some r) : atI (rs.map V.ref) (j : Int) = some (.ref r) := atI_nat (by rw [List.getElem?_map, h]; rfl)
theorem getD_some {α : Type} {xs : List α} {j : Nat} {x d : α} (h : xs[j]? = some x) : xs.getD j d = x := by rw [List.getD_eq_getElem?_getD, h]; rfl
theorem snoc_get {α : Type} {xs : List α} {x y : α} {i : Nat} (h : (xs ++ [x])[i]? = some y) : xs[i]? = some y ∨ (i = xs.length ∧ y = x) := by
  by_cases hi : i < xs.length
  · rw [List.getElem?_append_left hi] at h
    exact .inl h
  · rw [List.getElem?_append_right (by omega)] at h
    cases e : i - xs.length with
    | zero => rw [e] at h; cases h; exact .inr ⟨by omega, rfl⟩
    | succ j => rw [e] at h; cases h
theorem get_lt {α : Type} {l : List α} {i : Nat} (h : i < l.length) : ∃ x, l[i]? = some x := ⟨l[i], List.getElem?_eq_getElem h⟩
theorem lt_get {α : Type} {l : List α} {i : Nat} {x : α} (h : l[i]? = some x) : i < l.length := (List.getElem?_eq_some_iff.mp h).1
theorem cmul_l {x y : Int} (h1 : -(2 ^ 64) < x) (h2 : x < 2 ^ 64) : CMul x y := .inl ⟨h1, h2⟩
end
section
variable {P : Program} {w : World} {K : PySem.W.Frag} {mg : Str → Option Value} {base : Heap}
structure BltR (mg : Str → Option Value) : Prop where
  abs : mg "abs" = none
  len : mg "len" = none
  sum : mg "sum" = none
  zip : mg "zip" = none
  range : mg "range" = none
  enum : mg "enumerate" = none
  isi : mg "isinstance" = none
  verr : mg "ValueError" = none
  int : mg "int" = none
  bool : mg "bool" = none
  list : mg "list" = none
  tuple : mg "tuple" = none
def TM.dot (w r : List Int) : Int := (List.zipWith (fun a b => a * b) w r).sum
theorem at_hd (x : V) (xs : List V) : atI (x :: xs) 0 = some x := atI_nat (xs := x :: xs) (j := 0) rfl
theorem lc_vals {a : Addr} {xs : List V} {te : TE} {Q : Hp → Prop} {σ : L2.St} {H1 : Hp} {D : Addr} (vs : List V) (hlen : vs.length = xs.length) (hm : xs.length ≤ 900) (hD : H1 D = none) (hxs : SqL K H1 a xs)
    (hs : ∀ (i : Nat) (x v : V) (H' : Hp), xs[i]? = some x → vs[i]? = some v → Same H1 H' → te (σ ++ [some x]) H' fun u H3 => u = v ∧ Same H' H3)
    (hd : ∀ H', Same H1 H' → H' D = some (.lst vs) → Q H')
    (mono : ∀ σ H Q Q', (∀ v H1, Q v H1 → Q' v H1) → te σ H Q → te σ H Q') :
    ∃ W : Nat → Nat → List V → Hp → Prop, (∃ m, W 0 m [] (upd H1 D (.lst []))) ∧
      ∀ i m ys H', W i m ys H' → H' D = some (.lst ys) ∧ (((Itl K a).stop i H' ∧ Q H') ∨ ((Itl K a).go i H' ∧ ∀ z H2, (Itl K a).yld i H' z H2 → te (σ ++ [some z]) H2 fun v H3 => H3 D = some (.lst ys) ∧ ys.length < sizeLine ∧ ∃ m', m' < m ∧ W (i + 1) m' (ys ++ [v]) (upd H3 D (.lst (ys ++ [v]))))) := by
  refine lc_list (xs := xs) (fun i ys H' => ys = vs.take i ∧ Same H1 H' ∧ H' D = some (.lst ys)) ⟨by rw [List.take_zero], Same.upd hD, upd_same⟩ (fun i ys H' _ ⟨_, sm, eD⟩ => ⟨Same.sq sm hxs, eD⟩) ?_ ?_ mono
  · rintro i x ys H4 hx ⟨rfl, s4, eD⟩
    have hi : i < vs.length := by rw [hlen]; exact (List.getElem?_eq_some_iff.mp hx).1
    have hv : vs[i]? = some vs[i] := List.getElem?_eq_getElem hi
    refine mono _ _ _ _ ?_ (hs i x vs[i] H4 hx hv s4)
    rintro u H5 ⟨rfl, s5⟩
    refine ⟨s5 _ _ eD, small1000 (by rw [List.length_take]; omega), by rw [take_snoc hv], fun b o e => ?_, upd_same⟩
    rw [upd_ne (ne_of_none e hD)]
    exact s5 _ _ (s4 _ _ e)
  · rintro ys H4 ⟨rfl, s4, eD⟩
    rw [← hlen, List.take_length] at eD
    exact hd H4 s4 eD
theorem set2 (σ : L2.St) (a b : Option V) (x y : V) : ((σ ++ [a, b]).set σ.length (some x)).set (σ.length + 1) (some y) = σ ++ [some x, some y] := by
  rw [List.set_append_right _ _ (Nat.le_refl _), Nat.sub_self, List.set_append_right _ _ (Nat.le_succ _)]
  have : σ.length + 1 - σ.length = 1 := by omega
  rw [this]
  rfl
end
section
variable {P : Program} {w : World} {K : PySem.W.Frag} {mg : Str → Option Value} {base : Heap}
structure GrdV (H : Hp) (rs : List Addr) (X : List (List V)) : Prop where
  len : rs.length = X.length
  row : ∀ (i : Nat) (r : Addr) (x : List V), rs[i]? = some r → X[i]? = some x → H r = some (.lst x)
theorem GrdV.mono {H H' : Hp} {rs : List Addr} {X : List (List V)} (g : GrdV H rs X) (s : Same H H') : GrdV H' rs X := ⟨g.len, fun i r x h1 h2 => s _ _ (g.row i r x h1 h2)⟩
def GrdAt (H : Hp) (a : Addr) (X : List (List V)) : Prop := ∃ rs : List Addr, H a = some (.lst (rs.map V.ref)) ∧ GrdV H rs X
theorem GrdAt.mono {H H' : Hp} {a : Addr} {X : List (List V)} (g : GrdAt H a X) (s : Same H H') : GrdAt H' a X := by
  obtain ⟨rs, h, r⟩ := g
  exact ⟨rs, s _ _ h, r.mono s⟩
def NewR (H H' : Hp) (u : V) (x : List V) : Prop := ∃ p, u = .ref p ∧ H' p = some (.lst x) ∧ H p = none
def GrdI (H1 : Hp) (D : Addr) (X : List (List V)) (i : Nat) (ys : List V) (H' : Hp) : Prop := ∃ rs : List Addr, ys = rs.map V.ref ∧ rs.length = i ∧ Same H1 H' ∧ H' D = some (.lst ys) ∧ (∀ r ∈ rs, r ≠ D ∧ H1 r = none) ∧ ∀ (j : Nat) (r : Addr) (x : List V), rs[j]? = some r → X[j]? = some x → H' r = some (.lst x)
theorem GrdI.start {H1 : Hp} {D : Addr} {X : List (List V)} (hD : H1 D = none) : GrdI H1 D X 0 [] (upd H1 D (.lst [])) := ⟨[], rfl, rfl, Same.upd hD, upd_same, (fun r h => by cases h), (fun j r x h _ => by cases h)⟩
theorem GrdI.step {H1 H4 H5 : Hp} {D : Addr} {X : List (List V)} {i : Nat} {ys : List V} {u : V} {x : List V} (hD : H1 D = none) (g : GrdI H1 D X i ys H4) (hx : X[i]? = some x) (hu : NewR H4 H5 u x) (s5 : Same H4 H5) (hm : i < 900) :
    H5 D = some (.lst ys) ∧ ys.length < sizeLine ∧ GrdI H1 D X (i + 1) (ys ++ [u]) (upd H5 D (.lst (ys ++ [u]))) := by
  obtain ⟨rs, rfl, lr, s4, eD, nD, hr⟩ := g
  obtain ⟨p, rfl, hp, hn⟩ := hu
  have npD : p ≠ D := fun z => by rw [z, eD] at hn; cases hn
  refine ⟨s5 _ _ eD, small1000 (by rw [List.length_map]; omega), rs ++ [p], by rw [List.map_append]; rfl, by rw [List.length_append, lr]; rfl, fun b o e => ?_, upd_same, fun r h => ?_, fun j r y h1 h2 => ?_⟩
  · rw [upd_ne (ne_of_none e hD)]
    exact s5 _ _ (s4 _ _ e)
  · rcases List.mem_append.mp h with z | z
    · exact nD r z
    · rw [List.mem_singleton.mp z]; exact ⟨npD, s4.free hn⟩
  · rcases snoc_get h1 with z | ⟨e, z⟩
    · rw [upd_ne (nD r (List.mem_of_getElem? z)).1]
      exact s5 _ _ (hr j r y z h2)
    · subst z
      rw [e, lr, hx] at h2
      cases h2
      rw [upd_ne npD]
      exact hp
theorem GrdI.done {H1 H' : Hp} {D : Addr} {X : List (List V)} {ys : List V} (g : GrdI H1 D X X.length ys H') : Same H1 H' ∧ GrdAt H' D X := by
  obtain ⟨rs, rfl, lr, s4, eD, nD, hr⟩ := g
  exact ⟨s4, rs, eD, lr, hr⟩
def GrdN (H0 H' : Hp) (D : Addr) (X : List (List V)) : Prop := ∃ rs : List Addr, H' D = some (.lst (rs.map V.ref)) ∧ GrdV H' rs X ∧ H0 D = none ∧ ∀ r ∈ rs, r ≠ D ∧ H0 r = none
theorem GrdN.at {H0 H' : Hp} {D : Addr} {X : List (List V)} (g : GrdN H0 H' D X) : GrdAt H' D X := let ⟨rs, h, r, _⟩ := g; ⟨rs, h, r⟩
theorem GrdN.mono {H0 H' H2 : Hp} {D : Addr} {X : List (List V)} (g : GrdN H0 H' D X) (s : Same H' H2) : GrdN H0 H2 D X := let ⟨rs, h, r, a, b⟩ := g; ⟨rs, s _ _ h, r.mono s, a, b⟩
theorem GrdN.back {H0 H1 H' : Hp} {D : Addr} {X : List (List V)} (g : GrdN H1 H' D X) (s : Same H0 H1) : GrdN H0 H' D X := let ⟨rs, h, r, a, b⟩ := g; ⟨rs, h, r, s.free a, fun x hx => ⟨(b x hx).1, s.free (b x hx).2⟩⟩
theorem GrdI.doneN {H1 H' : Hp} {D : Addr} {X : List (List V)} {ys : List V} (hD : H1 D = none) (g : GrdI H1 D X X.length ys H') : Same H1 H' ∧ GrdN H1 H' D X := by
  obtain ⟨rs, rfl, lr, s4, eD, nD, hr⟩ := g
  exact ⟨s4, rs, eD, ⟨lr, hr⟩, hD, nD⟩
def spCol : Sp := fun vs H Q _ => ∃ (a : Addr) (X : List (List V)) (j : Nat), vs = [.ref a, .int (j : Int)] ∧ GrdAt H a X ∧ X.length ≤ 900 ∧ (∀ x ∈ X, j < x.length) ∧ ∀ D H', Same H H' → H D = none → H' D = some (.lst (X.map fun x => (x[j]?).getD .non)) → Q (.ref D) H'
theorem scCol : FnScope ["rows", "place"] ["rows", "place"] (defScope sCol) := ⟨rfl, rfl, rfl, by decide +kernel, rfl, by decide +kernel, by decide +kernel⟩
theorem lcCol : LcScopes (defScope sCol) ["rows", "place"] (lcScope (asgVal (bodyAt sCol 0))) ["row"] := ⟨by decide +kernel, rfl, by decide +kernel, by decide +kernel, by decide +kernel, by decide +kernel, by decide +kernel, by decide +kernel, by decide +kernel, by decide +kernel⟩
theorem ok_col {f : Addr} {fd : FuncData} (F : Fun K "column_of" "column_of" sCol f fd) : FnOk P w K mg base CX0 1 f fd ["rows", "place"] spCol := by
  refine F.ok scCol (fun vs H Q E h => ?_) (fun cdv A outer s H vs Q E hr h => ?_)
  · obtain ⟨a, X, j, rfl, _⟩ := h
    rfl
  · obtain ⟨a, X, j, rfl, ⟨rs, ha, R⟩, hX, hj, q⟩ := h
    refine ⟨_, pss_one (ps_ret (pe_lc1 rfl lcCol rfl (pi_list (pv 0)) (fun _ _ _ => pe_ix (ix_listK (K := K)) (pv 2) (pv 1) (fun _ _ => rfl)))), ?_⟩
    refine ⟨_, rfl, a, rfl, ⟨_, SqL.of ha⟩, fun D hD => ?_⟩
    refine lc_vals (X.map fun x => (x[j]?).getD .non) (by rw [List.length_map, List.length_map, R.len]) (by rw [List.length_map, R.len]; exact hX) hD (SqL.of ha) ?_ ?_ ?_
    · intro i x v H' hx hv s'
      obtain ⟨r, hr, rfl⟩ := map_get hx
      obtain ⟨y, hy, rfl⟩ := map_get hv
      obtain ⟨z, hz⟩ := get_lt (hj y (List.mem_of_getElem? hy))
      refine ⟨_, rfl, _, rfl, r, _, _, z, rfl, rfl, SqL.of (s' _ _ (R.row i r y hr hy)), atI_nat hz, ?_, Same.refl _⟩
      rw [hz]
      rfl
    · intro H' s' eD
      exact q D H' s' hD eD
    · rintro σ H' Q1 Q2 hq ⟨v, e, v', e', a1, a2, a3, a4, a5, a6, a7, a8, g⟩
      exact ⟨v, e, v', e', a1, a2, a3, a4, a5, a6, a7, a8, hq _ _ g⟩
def colsV (X : List (List V)) (n : Nat) : List (List V) := (List.range n).map fun j => X.map fun x => (x[j]?).getD .non
def spCols : Sp := fun vs H Q _ => ∃ (a : Addr) (X : List (List V)) (n : Nat), vs = [.ref a] ∧ GrdAt H a X ∧ X.length ≤ 900 ∧ n ≤ 900 ∧ (∀ x ∈ X, x.length = n) ∧ (X = [] → n = 0) ∧ ∀ D H', Same H H' → H D = none → GrdAt H' D (colsV X n) → Q (.ref D) H'
theorem scCols : FnScope ["rows", "width"] ["rows"] (defScope sCols) := ⟨rfl, rfl, rfl, by decide +kernel, rfl, by decide +kernel, by decide +kernel⟩
theorem lcCols : LcScopes (defScope sCols) ["rows", "width"] (lcScope (asgVal (bodyAt sCols 1))) ["place"] := ⟨by decide +kernel, rfl, by decide +kernel, by decide +kernel, by decide +kernel, by decide +kernel, by decide +kernel, by decide +kernel, by decide +kernel, by decide +kernel⟩
theorem ok_cols {f fC : Addr} {fd fdC : FuncData} (B : BltR mg) (F : Fun K "columns_of" "columns_of" sCols f fd) (DC : Dn K mg "column_of" sCol ["rows", "place"] fC fdC) (GC : FnOk P w K mg base CX0 1 fC fdC ["rows", "place"] spCol) : FnOk P w K mg base CX0 2 f fd ["rows"] spCols := by
  refine F.ok scCols (fun vs H Q E h => ?_) (fun cdv A outer s H vs Q E hr h => ?_)
  · obtain ⟨a, X, n, rfl, _⟩ := h
    rfl
  · obtain ⟨a, X, n, rfl, ⟨rs, ha, R⟩, hX, hn, hw, h0, q⟩ := h
    refine ⟨_, pss_mid (ps_set (i := 1) scCols.nd rfl (Or.inl rfl) (pe_ifExp (pt_truth (pv 0) (fun _ => rfl)) (pe_callB call_len_seq (by rfl) B.len PySem.boot_len (pa_cons (pe_ix ix_list (pv 0) pe_int (fun _ _ => rfl)) pa_nil)) pe_int))
      (pss_one (ps_ret (pe_lc1 rfl lcCols rfl (pi_range1 rfl B.range (pa_cons (pv 1) pa_nil)) (fun _ _ _ => pe_fn DC GC hr rfl (pa_cons (pv 0) (pa_cons (pv 2) pa_nil)))))), ?_⟩
    refine ⟨fun σ H1 => σ = [some (.ref a), some (.int (n : Int))] ∧ H1 = H, ?_, ?_⟩
    · refine ⟨_, rfl, !(rs.map V.ref).isEmpty, .inl ⟨_, SqL.of ha, rfl⟩, ?_⟩
      have lr := R.len
      match rs, X, lr with
      | [], [], _ =>
        refine iteF ⟨?_, rfl⟩
        rw [h0 rfl]
        rfl
      | r :: rs, x :: X, _ =>
        refine iteT ?_
        refine ⟨_, rfl, a, _, _, .ref r, rfl, rfl, SqL.of ha, atI_nat (j := 0) rfl, r, _, rfl, .inl (SqL.of (R.row 0 r x rfl rfl)), ?_, rfl⟩
        rw [hw x List.mem_cons_self]
        rfl
    · rintro σ H1 ⟨rfl, rfl⟩
      refine ⟨_, rfl, (n : Int), rfl, by omega, by omega, fun D hD => ?_⟩
      rw [Int.toNat_natCast]
      have lc : (colsV X n).length = n := by unfold colsV; rw [List.length_map, List.length_range]
      refine lc_range (n := n) (GrdI H1 D (colsV X n)) (GrdI.start hD) (fun i ys H' _ ⟨_, _, _, _, eD, _⟩ => eD) ?_ ?_ ?_
      · rintro i ys H' hi g
        have e0 : ((0 : Int) + (i : Nat)) = (i : Int) := by omega
        rw [e0]
        have s' : Same H1 H' := let ⟨_, _, _, z, _⟩ := g; z
        refine ⟨_, rfl, _, rfl, a, X, i, rfl, ⟨rs, s' _ _ ha, R.mono s'⟩, hX, fun x hx => by rw [hw x hx]; exact hi, fun p H3 s3 np ep => ?_⟩
        refine g.step hD ?_ ⟨p, rfl, ep, np⟩ s3 (by omega)
        unfold colsV
        rw [List.getElem?_map, List.getElem?_range hi]
        rfl
      · intro ys H' g
        obtain ⟨s', gg⟩ := GrdI.done (X := colsV X n) (by rw [lc]; exact g)
        exact q D H' s' hD gg
      · rintro σ H' Q1 Q2 hq ⟨v, e, v', e', a1, a2, a3, a4, a5, a6, a7, g⟩
        exact ⟨v, e, v', e', a1, a2, a3, a4, a5, a6, a7, fun D H3 s3 n3 e3 => hq _ _ (g D H3 s3 n3 e3)⟩
def spInOne : Sp := fun vs H Q _ => ∃ (a : Addr) (X : List (List V)), vs = [.ref a] ∧ GrdAt H a X ∧ X.flatten.length ≤ 900 ∧ ∀ D H', Same H H' → H D = none → H' D = some (.lst X.flatten) → Q (.ref D) H'
theorem scInOne : FnScope ["rows", "things", "row"] ["rows"] (defScope sInOne) := ⟨rfl, rfl, rfl, by decide +kernel, rfl, by decide +kernel, by decide +kernel⟩
theorem flat_take {X : List (List V)} {i : Nat} {x : List V} (h : X[i]? = some x) : (X.take (i + 1)).flatten = (X.take i).flatten ++ x := by
  rw [take_snoc h, List.flatten_append]
  simp
theorem flat_le (X : List (List V)) (i : Nat) : (X.take i).flatten.length ≤ X.flatten.length := by
  have := congrArg (fun l => (List.flatten l).length) (List.take_append_drop i X)
  simp only [List.flatten_append, List.length_append] at this
  omega
theorem ok_inOne {f : Addr} {fd : FuncData} (F : Fun K "in_one_list" "in_one_list" sInOne f fd) : FnOk P w K mg base CX0 1 f fd ["rows"] spInOne := by
  refine F.ok scInOne (fun vs H Q E h => ?_) (fun cdv A outer s H vs Q E hr h => ?_)
  · obtain ⟨a, X, rfl, _⟩ := h
    rfl
  · obtain ⟨a, X, rfl, ⟨rs, ha, R⟩, hX, q⟩ := h
    refine ⟨_, pss_cons (ps_set (i := 1) scInOne.nd rfl (Or.inl rfl) (pe_lst pa_nil))
      (pss_cons (ps_for PassesOwn.never rfl (pi_list (pv 0)) (pg_name (i := 2) scInOne.nd rfl (Or.inl rfl))
        (pss_one (ps_expr (pe_bm PySem.F.plainAttrs_list PySem.F.slot_list_extend PySem.F.type_list_extend mt_extend (pv 1) (pa_cons (pv 2) pa_nil)))))
      (pss_one (ps_ret (pv 1)))), ?_⟩
    refine ⟨Nat.zero_le _, fun D hD => ?_⟩
    have aD : a ≠ D := ne_of_none ha hD
    refine ⟨_, rfl, a, rfl, ⟨_, SqL.of (by rw [upd_ne aD]; exact ha)⟩, for_list (xs := rs.map V.ref) (fun i σ H' => ∃ (o2 : Option V), σ = [some (.ref a), some (.ref D), o2] ∧ Same H H' ∧ H' D = some (.lst (X.take i).flatten)) ⟨none, rfl, Same.upd hD, by rw [upd_same]; rfl⟩ (fun i σ H' _ ⟨_, _, s', _⟩ => SqL.of (s' _ _ ha)) ?_ ?_⟩
    · rintro i x σ H1 hx ⟨o2, rfl, s1, e1⟩
      obtain ⟨r, hr, rfl⟩ := map_get hx
      obtain ⟨y, hy⟩ := get_lt (l := X) (i := i) (by rw [← R.len]; exact lt_get hr)
      have er := s1 _ _ (R.row i r y hr hy)
      have fl := flat_le X (i + 1)
      rw [flat_take hy, List.length_append] at fl
      refine ⟨_, rfl, .inl ⟨rfl, _, SqL.of e1⟩, _, rfl, ?_⟩
      refine ⟨D, r, _, _, rfl, rfl, e1, er, Nat.le_of_lt (small1000 (by omega)), ?_⟩
      refine ⟨_, rfl, fun b o e => ?_, ?_⟩
      · rw [upd_ne (ne_of_none e hD)]
        exact s1 _ _ e
      · rw [upd_same, flat_take hy]
    · rintro σ H1 ⟨o2, rfl, s1, e1⟩
      rw [List.length_map, R.len, List.take_length] at e1
      exact ⟨_, rfl, q D H1 s1 hD e1⟩
def squareV (xs : List V) (n : Nat) : List (List V) := (List.range n).map fun i => (xs.drop (n * i)).take n
def spInSq (K : PySem.W.Frag) : Sp := fun vs H Q _ => ∃ (a : Addr) (xs : List V) (n : Nat), vs = [.ref a, .int (n : Int)] ∧ SqL K H a xs ∧ xs.length = n * n ∧ n ≤ 16 ∧ ∀ D H', Same H H' → GrdN H H' D (squareV xs n) → Q (.ref D) H'
theorem scInSq : FnScope ["things", "size"] ["things", "size"] (defScope sInSq) := ⟨rfl, rfl, rfl, by decide +kernel, rfl, by decide +kernel, by decide +kernel⟩
theorem lcInSq : LcScopes (defScope sInSq) ["things", "size"] (lcScope (asgVal (bodyAt sInSq 0))) ["place"] := ⟨by decide +kernel, rfl, by decide +kernel, by decide +kernel, by decide +kernel, by decide +kernel, by decide +kernel, by decide +kernel, by decide +kernel, by decide +kernel⟩
theorem cut_sq {xs : List V} {n i : Nat} (hx : xs.length = n * n) (hi : i < n) : cutV xs (some ((n : Int) * (i : Int))) (some ((n : Int) * ((i : Int) + 1))) = (xs.drop (n * i)).take n := by
  have h1 : n * (i + 1) ≤ n * n := Nat.mul_le_mul_left n hi
  have e1 : (n : Int) * (i : Int) = ((n * i : Nat) : Int) := by push_cast; rfl
  have e2 : (n : Int) * ((i : Int) + 1) = ((n * (i + 1) : Nat) : Int) := by push_cast; rfl
  have h2 : n * (i + 1) = n * i + n := Nat.mul_succ n i
  unfold cutV
  rw [e1, e2, HT.sIx_nat, HT.sIx_nat, hx, Nat.min_eq_left h1, Nat.min_eq_left (show n * i ≤ n * n by omega)]
  congr 1
  omega
theorem sl_listK {X : Cx} (h : X.K = K := by rfl) : SlR X (rSlL K) := by subst h; exact sl_list
theorem ok_inSq {f : Addr} {fd : FuncData} (B : BltR mg) (F : Fun K "in_square" "in_square" sInSq f fd) : FnOk P w K mg base CX0 1 f fd ["things", "size"] (spInSq K) := by
  refine F.ok scInSq (fun vs H Q E h => ?_) (fun cdv A outer s H vs Q E hr h => ?_)
  · obtain ⟨a, xs, n, rfl, _⟩ := h
    rfl
  · obtain ⟨a, xs, n, rfl, ha, hx, hn, q⟩ := h
    refine ⟨_, pss_one (ps_ret (pe_lc1 rfl lcInSq rfl (pi_range1 rfl B.range (pa_cons (pv 1) pa_nil)) (fun _ _ _ => pe_slice (sl_listK (K := K)) (pv 0) (po_some (pe_op op_mul (pv 1) (pv 2))) (po_some (pe_op op_mul (pv 1) (pe_op op_add (pv 2) pe_int)))))), ?_⟩
    refine ⟨_, rfl, (n : Int), rfl, by omega, by omega, fun D hD => ?_⟩
    rw [Int.toNat_natCast]
    have lc : (squareV xs n).length = n := by unfold squareV; rw [List.length_map, List.length_range]
    refine lc_range (n := n) (GrdI H D (squareV xs n)) (GrdI.start hD) (fun i ys H' _ ⟨_, _, _, _, eD, _⟩ => eD) ?_ ?_ ?_
    · rintro i ys H' hi g
      have e0 : ((0 : Int) + (i : Nat)) = (i : Int) := by omega
      rw [e0]
      have s' : Same H H' := let ⟨_, _, _, z, _⟩ := g; z
      refine ⟨_, rfl, _, rfl, _, rfl, _, _, rfl, rfl, cmul_l (by omega) (by omega), _, rfl, _, rfl, _, rfl, _, _, rfl, rfl, _, _, rfl, rfl, cmul_l (by omega) (by omega), _, rfl, a, xs, rfl, s'.seq ha, fun p hp => ?_⟩
      have st := g.step (u := .ref p) (x := (xs.drop (n * i)).take n) hD (by unfold squareV; rw [List.getElem?_map, List.getElem?_range hi]; rfl) ⟨p, rfl, upd_same, hp⟩ (Same.upd hp) (by omega)
      rw [← cut_sq hx hi] at st
      exact st
    · intro ys H' g
      obtain ⟨s', gg⟩ := GrdI.doneN (X := squareV xs n) hD (by rw [lc]; exact g)
      exact q D H' s' gg
    · rintro σ H' Q1 Q2 hq ⟨v1, e1, v2, e2, v3, e3, i1, j1, f1, f2, c1, l1, e4, v5, e5, v6, e6, i2, j2, f3, f4, i3, j3, f5, f6, c2, h1, e7, a1, x1, e8, q1, g⟩
      exact ⟨v1, e1, v2, e2, v3, e3, i1, j1, f1, f2, c1, l1, e4, v5, e5, v6, e6, i2, j2, f3, f4, i3, j3, f5, f6, c2, h1, e7, a1, x1, e8, q1, fun p hp => hq _ _ (g p hp)⟩
end
section
variable {P : Program} {w : World} {K : PySem.W.Frag} {mg : Str → Option Value} {base : Heap}
def gI (M : List (List Int)) : List (List V) := M.map fun x => x.map V.int
theorem gI_get {M : List (List Int)} {i : Nat} {x : List Int} (h : M[i]? = some x) : (gI M)[i]? = some (x.map V.int) := by unfold gI; rw [List.getElem?_map, h]; rfl
theorem gI_len (M : List (List Int)) : (gI M).length = M.length := by unfold gI; rw [List.length_map]
end
section
variable {K : PySem.W.Frag}
end
section
variable {P : Program} {w : World} {K : PySem.W.Frag} {mg : Str → Option Value} {base : Heap}
structure BltL (mg : Str → Option Value) : Prop where
  len : mg "len" = none
  range : mg "range" = none
  int : mg "int" = none
  sorted : mg "sorted" = none
  enum : mg "enumerate" = none
  sum : mg "sum" = none
  zip : mg "zip" = none
  list : mg "list" = none
  isi : mg "isinstance" = none
  bool : mg "bool" = none
  max : mg "max" = none
def cellV (ns : List Int) (z : Int) : Int := (ns[z.toNat]?).getD 0
def spCell (K : PySem.W.Frag) : Sp := fun vs H Q _ => ∃ (a : Addr) (ns : List Int) (z : Int), vs = [.ref a, .int z] ∧ SqL K H a (ns.map V.int) ∧ 0 ≤ z ∧ ∀ x, x = cellV ns z → Q (.int x) H
theorem scCell : FnScope ["_law_script", "_law_k"] ["_law_script", "_law_k"] (defScope sCellAt) := ⟨rfl, rfl, rfl, by decide +kernel, rfl, by decide +kernel, by decide +kernel⟩
theorem ok_cell {f : Addr} {fd : FuncData} (B : BltL mg) (F : Fun K "_law_cell_at" "_law_cell_at" sCellAt f fd) : FnOk P w K mg base CX0 1 f fd ["_law_script", "_law_k"] (spCell K) := by
  refine F.ok scCell (fun vs H Q E h => ?_) (fun cdv A outer s H vs Q E hr h => ?_)
  · obtain ⟨a, ns, k, rfl, _⟩ := h
    rfl
  · obtain ⟨a, ns, z, rfl, hS, h0, k⟩ := h
    refine ⟨_, pss_cons (ps_if (pt_cmpR op_lt (pv 1) (pe_callB call_len_seq (by rfl) B.len PySem.boot_len (pa_cons (pv 0) pa_nil)) (nomark _)) (pss_one (ps_ret (pe_ix ix_list (pv 0) (pv 1) (fun _ _ => rfl)))) pss_nil)
      (pss_one (ps_ret pe_int)), ?_⟩
    refine ⟨_, rfl, _, rfl, a, _, rfl, .inl hS, _, _, rfl, rfl, _, rfl, ?_⟩
    by_cases hz : z < ((ns.map V.int).length : Int)
    · refine itDP hz ?_
      obtain ⟨j, rfl⟩ := Int.eq_ofNat_of_zero_le h0
      have hj : j < ns.length := by rw [List.length_map] at hz; omega
      refine ⟨_, rfl, _, rfl, a, _, _, .int ns[j], rfl, rfl, hS, atI_nat (by simp [hj]), k _ (by unfold cellV; rw [Int.toNat_natCast, List.getElem?_eq_getElem hj]; rfl)⟩
    · refine itDN hz (k _ ?_)
      unfold cellV
      rw [List.length_map] at hz
      rw [List.getElem?_eq_none (by omega)]
      rfl
def Drawn (b : Int) (n : Nat) (ds : List Int) : Prop := ds.length = n ∧ ∀ d ∈ ds, 0 ≤ d ∧ d < b
def spDraws : Sp := fun vs H Q _ => ∃ (c : Int) (n : Nat) (b : Int) (fr : Bool), vs = [.int c, .int (n : Int), .int b, .bl fr] ∧ n ≤ 100 ∧ b < 10000 ∧ (0 < b ∨ n = 0) ∧ ∀ p ds H', Drawn b n ds → Same H H' → H p = none → H' p = some (.lst (ds.map V.int)) → Q (.ref p) H'
abbrev nDraws : List Str := ["_law_cell", "_law_many", "_law_base", "_law_free", "_law_found", "_law_rest", "_law_k", "_law_number"]
theorem scDraws : FnScope nDraws ["_law_cell", "_law_many", "_law_base", "_law_free"] (defScope sDraws) := ⟨rfl, rfl, rfl, by decide +kernel, rfl, by decide +kernel, by decide +kernel⟩
theorem ok_draws {f : Addr} {fd : FuncData} (B : BltL mg) (F : Fun K "_law_draws" "_law_draws" sDraws f fd) : FnOk P w K mg base CX0 1 f fd ["_law_cell", "_law_many", "_law_base", "_law_free"] spDraws := by
  refine F.ok scDraws (fun vs H Q E h => ?_) (fun cdv A outer s H vs Q E hr h => ?_)
  · obtain ⟨c, n, b, fr, rfl, _⟩ := h
    rfl
  · obtain ⟨c, n, b, fr, rfl, hn, hb1, hb0, q⟩ := h
    refine ⟨_, pss_cons (ps_set (i := 4) scDraws.nd rfl (Or.inl rfl) (pe_lst pa_nil))
      (pss_cons (ps_set (i := 5) scDraws.nd rfl (Or.inl rfl) (pv 0))
      (pss_cons (ps_for PassesOwn.never rfl (pi_range1 rfl B.range (pa_cons (pv 1) pa_nil)) (pg_name (i := 6) scDraws.nd rfl (Or.inl rfl))
        (pss_one (ps_if (PW.pt (pw_and (pt_val (pv 3)) (pw_and (pt_cmpR op_ne (pv 5) pe_int (nomark _)) (pw_and1 (pt_cmpR op_ne (pv 5) (pe_un un_neg pe_int) (nomark _))))))
          (pss_cons (ps_expr (pe_bm PySem.F.plainAttrs_list PySem.F.slot_list_append PySem.F.type_list_append mt_append (pv 4) (pa_cons (pe_op op_mod (pv 5) (pv 2)) pa_nil)))
          (pss_one (ps_set (i := 5) scDraws.nd rfl (Or.inl rfl) (pe_op op_fdiv (pv 5) (pv 2)))))
          (pss_cons (ps_set (i := 7) scDraws.nd rfl (Or.inl rfl) (pe_op op_mod (pe_op op_add (pv 0) (pe_op op_mul pe_int (pv 6))) pe_int))
          (pss_cons (ps_set (i := 7) scDraws.nd rfl (Or.inl rfl) (pe_op op_mod (pe_op op_add (pe_op op_mul (pv 7) (pv 7)) (pv 6)) pe_int))
          (pss_one (ps_expr (pe_bm PySem.F.plainAttrs_list PySem.F.slot_list_append PySem.F.type_list_append mt_append (pv 4) (pa_cons (pe_op op_mod (pe_op op_mod (pe_op op_mul (pv 7) (pv 7)) pe_int) (pv 2)) pa_nil)))))))))
      (pss_one (ps_ret (pv 4))))), ?_⟩
    refine ⟨Nat.zero_le _, fun R hR => ?_⟩
    refine ⟨_, rfl, ?_⟩
    refine ⟨_, rfl, (n : Int), rfl, by omega, by omega, for_range (n := n) (fun i σ H' => ∃ (rest : Int) (o6 o7 : Option V) (ds : List Int), σ = [some (.int c), some (.int (n : Int)), some (.int b), some (.bl fr), some (.ref R), some (.int rest), o6, o7] ∧ Same H H' ∧ H' R = some (.lst (ds.map V.int)) ∧ Drawn b i ds) ?_ ?_ ?_⟩
    · exact ⟨c, none, none, [], rfl, Same.upd hR, upd_same, rfl, fun d hd => by cases hd⟩
    · rintro i σ H' hi ⟨rest, o6, o7, ds, rfl, s1, eR, lD, bD⟩
      have hb : 0 < b := hb0.resolve_right (by omega)
      have app : ∀ x : Int, 0 ≤ x → x < b → Same H (upd H' R (.lst (ds.map V.int ++ [.int x]))) ∧ upd H' R (.lst (ds.map V.int ++ [.int x])) R = some (.lst ((ds ++ [x]).map V.int)) ∧ Drawn b (i + 1) (ds ++ [x]) := by
        intro x h1 h2
        refine ⟨fun b' o e => by rw [upd_ne (ne_of_none e hR)]; exact s1 _ _ e, by rw [upd_same, List.map_append]; rfl, by rw [List.length_append, List.length_singleton, lD], fun d hd => ?_⟩
        rcases List.mem_append.mp hd with q' | q'
        · exact bD d q'
        · rw [List.mem_singleton] at q'
          subst q'
          exact ⟨h1, h2⟩
      have sm : (ds.map V.int).length < sizeLine := small1000 (by rw [List.length_map, lD]; omega)
      have z0 : (0 : Int) ≤ 0 + (i : Int) := by omega
      have z1 : (0 : Int) + (i : Int) < 100 := by omega
      by_cases ht : fr = true ∧ rest ≠ 0 ∧ rest ≠ -1
      · obtain ⟨rfl, hr0, hr1⟩ := ht
        refine ⟨_, rfl, _, rfl, iteT ?_⟩
        refine ⟨_, rfl, rfl, _, rfl, iteNP (fun z => hr0 (V.int.inj z)) ?_⟩
        refine ⟨_, rfl, _, rfl, rfl, _, rfl, iteNP (fun z => hr1 (V.int.inj z)) ?_⟩
        obtain ⟨g1, g2, g3⟩ := app (rest % b) (Int.emod_nonneg _ (by omega)) (Int.emod_lt_of_pos _ hb)
        refine ⟨_, rfl, .inl ⟨rfl, _, SqL.of eR⟩, _, rfl, _, rfl, _, _, rfl, rfl, hb, R, _, _, rfl, rfl, eR, sm, ?_⟩
        refine ⟨_, rfl, _, rfl, _, _, rfl, rfl, ⟨hb, by omega⟩, ?_⟩
        exact ⟨_, _, _, _, rfl, g1, g2, g3⟩
      · have test : ∀ k : Bool → Hp → Prop, k false H' → tAnd (tB (tVar 3)) (tAnd (tTest (tOp rNe (tVar 5) (tC (.int 0)))) (tTest (tOp rNe (tVar 5) (tUn (rU fun i => V.int (-i)) (tC (.int 1)))))) [some (.int c), some (.int (n : Int)), some (.int b), some (.bl fr), some (.ref R), some (.int rest), some (.int (0 + (i : Int))), o7] H' k := by
          intro k hk
          cases fr with
          | false => exact ⟨_, rfl, _, rfl, iteF hk⟩
          | true =>
            refine ⟨_, rfl, _, rfl, iteT ?_⟩
            by_cases hr0 : rest = 0
            · exact ⟨_, rfl, rfl, _, rfl, iteNS (by rw [hr0]) hk⟩
            · refine ⟨_, rfl, rfl, _, rfl, iteNP (fun z => hr0 (V.int.inj z)) ?_⟩
              have hr1 : rest = -1 := Classical.byContradiction fun z => ht ⟨rfl, hr0, z⟩
              subst hr1
              exact ⟨_, rfl, _, rfl, rfl, _, rfl, hk⟩
        refine test _ (iteF ?_)
        refine ⟨_, rfl, _, rfl, _, _, rfl, rfl, cmul_l (by decide) (by decide), _, _, rfl, rfl, _, _, rfl, rfl, (by show (0 : Int) < 2147483629; decide), ?_⟩
        have b1 := Int.emod_nonneg (c + 7919 * (0 + (i : Int))) (b := 2147483629) (by decide)
        have b2 := Int.emod_lt_of_pos (c + 7919 * (0 + (i : Int))) (b := 2147483629) (by decide)
        obtain ⟨x, ex⟩ : ∃ x, x = (c + 7919 * (0 + (i : Int))) % 2147483629 := ⟨_, rfl⟩
        rw [← ex] at b1 b2
        refine ⟨_, rfl, _, rfl, _, _, rfl, rfl, cmul_l (by show _ < (c + 7919 * (0 + (i : Int))) % 2147483629; rw [← ex]; omega) (by show (c + 7919 * (0 + (i : Int))) % 2147483629 < _; rw [← ex]; omega), _, rfl, _, _, rfl, rfl, _, _, rfl, rfl, (by show (0 : Int) < 2147483629; decide), ?_⟩
        have c1 := Int.emod_nonneg (x * x + (0 + (i : Int))) (b := 2147483629) (by decide)
        have c2 := Int.emod_lt_of_pos (x * x + (0 + (i : Int))) (b := 2147483629) (by decide)
        obtain ⟨y, ey⟩ : ∃ y, y = (x * x + (0 + (i : Int))) % 2147483629 := ⟨_, rfl⟩
        rw [← ey] at c1 c2
        rw [ex] at ey
        obtain ⟨g1, g2, g3⟩ := app (y * y % 2147483587 % b) (Int.emod_nonneg _ (by omega)) (Int.emod_lt_of_pos _ hb)
        refine ⟨_, rfl, .inl ⟨rfl, _, SqL.of eR⟩, _, rfl, _, rfl, _, _, rfl, rfl, cmul_l (by rw [← ey]; omega) (by rw [← ey]; omega), _, _, rfl, rfl, (by show (0 : Int) < 2147483587; decide), _, rfl, _, _, rfl, rfl, hb, R, _, _, rfl, rfl, eR, sm, ?_⟩
        rw [ey] at g1 g2 g3
        exact ⟨_, _, _, _, rfl, g1, g2, g3⟩
    · rintro σ H' ⟨rest, o6, o7, ds, rfl, s1, eR, dD⟩
      exact ⟨_, rfl, q R ds H' dD s1 hR eR⟩
end
section
variable {P : Program} {w : World} {K : PySem.W.Frag} {mg : Str → Option Value} {base : Heap}
def wMax : Nat := 10 ^ 21
structure RowsAt (H : Hp) (rs : List Addr) (M : List (List Int)) : Prop where
  len : rs.length = M.length
  row : ∀ (i : Nat) (r : Addr) (x : List Int), rs[i]? = some r → M[i]? = some x → H r = some (.lst (x.map V.int))
  nd : rs.Nodup
def ent (M : List (List Int)) (i j : Nat) : Int := ((M[i]?.getD [])[j]?).getD 0
structure Sq (n : Nat) (M : List (List Int)) : Prop where
  len : M.length = n
  row : ∀ (i : Nat) (x : List Int), M[i]? = some x → x.length = n ∧ ∀ z ∈ x, z.natAbs ≤ wMax
  sym : ∀ i j : Nat, i < n → j < n → ent M i j = ent M j i
def put (M : List (List Int)) (i j : Nat) (z : Int) : List (List Int) := M.set i ((M[i]?.getD []).set j z)
theorem ent_put (M : List (List Int)) (n i j a b : Nat) (z : Int) (hl : M.length = n) (hr : ∀ (i : Nat) (x : List Int), M[i]? = some x → x.length = n) (hi : i < n) (hj : j < n) : ent (put M i j z) a b = if a = i ∧ b = j then z else ent M a b := by
  unfold ent put
  by_cases ha : a = i
  · subst ha
    rw [List.getElem?_set_self (by omega)]
    have hx : ∃ x, M[a]? = some x := ⟨M[a]'(by omega), by simp [hl, hi]⟩
    obtain ⟨x, hx⟩ := hx
    have lx := hr a x hx
    rw [hx]
    simp only [Option.getD_some]
    by_cases hb : b = j
    · subst hb
      rw [List.getElem?_set_self (by omega)]
      simp
    · rw [List.getElem?_set_ne (Ne.symm hb), if_neg (fun z => hb z.2)]
  · rw [List.getElem?_set_ne (Ne.symm ha), if_neg (fun z => ha z.1)]
theorem put_row {M : List (List Int)} {n i j : Nat} {z : Int} (hl : M.length = n) (hz : z.natAbs ≤ wMax) (hr : ∀ (i : Nat) (x : List Int), M[i]? = some x → x.length = n ∧ ∀ z ∈ x, z.natAbs ≤ wMax) :
    (put M i j z).length = n ∧ ∀ (k : Nat) (x : List Int), (put M i j z)[k]? = some x → x.length = n ∧ ∀ z ∈ x, z.natAbs ≤ wMax := by
  unfold put
  refine ⟨by rw [List.length_set]; exact hl, fun k x hx => ?_⟩
  by_cases hk : k = i
  · subst hk
    by_cases hlt : k < M.length
    · rw [List.getElem?_set_self hlt] at hx
      have hx := Option.some.inj hx
      have hy : M[k]? = some M[k] := by simp [hlt]
      have hh := hr k _ hy
      subst hx
      rw [hy]
      simp only [Option.getD_some, List.length_set]
      refine ⟨hh.1, fun y hy' => ?_⟩
      rcases List.mem_or_eq_of_mem_set hy' with q | q
      · exact hh.2 y q
      · rw [q]; exact hz
    · rw [List.getElem?_eq_none (by rw [List.length_set]; omega)] at hx
      cases hx
  · rw [List.getElem?_set_ne (Ne.symm hk)] at hx
    exact hr k x hx
theorem Sq.put {n : Nat} {M : List (List Int)} (S : Sq n M) {i j : Nat} {z : Int} (hi : i < n) (hj : j < n) (hz : z.natAbs ≤ wMax) : Sq n (put (put M i j z) j i z) := by
  obtain ⟨l1, r1⟩ := put_row (i := i) (j := j) S.len hz S.row
  obtain ⟨l2, r2⟩ := put_row (i := j) (j := i) l1 hz r1
  refine ⟨l2, r2, fun a b ha hb => ?_⟩
  have hr := fun (i : Nat) (x : List Int) h => (S.row i x h).1
  have hr1 := fun (k : Nat) (x : List Int) h => (r1 k x h).1
  rw [ent_put _ n j i a b z l1 hr1 hj hi, ent_put _ n j i b a z l1 hr1 hj hi, ent_put _ n i j a b z S.len hr hi hj, ent_put _ n i j b a z S.len hr hi hj]
  have := S.sym a b ha hb
  by_cases h1 : a = j ∧ b = i
  · rw [if_pos h1]
    by_cases h2 : b = j ∧ a = i
    · rw [if_pos h2]
    · rw [if_neg h2, if_pos ⟨h1.2, h1.1⟩]
  · rw [if_neg h1]
    by_cases h2 : a = i ∧ b = j
    · rw [if_pos h2, if_pos ⟨h2.2, h2.1⟩]
    · rw [if_neg h2, if_neg (fun q => h2 ⟨q.2, q.1⟩), if_neg (fun q => h1 ⟨q.2, q.1⟩)]
      exact this
theorem RowsAt.put {H : Hp} {rs : List Addr} {M : List (List Int)} (R : RowsAt H rs M) {i : Nat} {r : Addr} {x : List Int} {j : Nat} {z : Int} (hr : rs[i]? = some r) (hx : M[i]? = some x) :
    RowsAt (upd H r (.lst ((x.set j z).map V.int))) rs (put M i j z) := by
  unfold My.put
  refine ⟨by rw [List.length_set]; exact R.len, fun k r' x' h1 h2 => ?_, R.nd⟩
  by_cases hk : k = i
  · subst hk
    rw [hr] at h1; cases h1
    rw [List.getElem?_set_self (List.getElem?_eq_some_iff.mp hx).1, hx] at h2
    cases h2
    exact upd_same
  · rw [List.getElem?_set_ne (Ne.symm hk)] at h2
    have ne : r' ≠ r := fun e => by
      subst e
      obtain ⟨p1, q1⟩ := List.getElem?_eq_some_iff.mp h1
      obtain ⟨p2, q2⟩ := List.getElem?_eq_some_iff.mp hr
      exact hk ((List.getElem_inj R.nd).mp (q1.trans q2.symm))
    rw [upd_ne ne]
    exact R.row k r' x' h1 h2
theorem RowsAt.keep {H H' : Hp} {rs : List Addr} {M : List (List Int)} (R : RowsAt H rs M) (k : ∀ r ∈ rs, ∀ o, H r = some o → H' r = some o) : RowsAt H' rs M :=
  ⟨R.len, fun i r x h1 h2 => k r (List.mem_of_getElem? h1) _ (R.row i r x h1 h2), R.nd⟩
theorem RowsAt.snoc {H H' : Hp} {rs : List Addr} {M : List (List Int)} {l : Addr} {x : List Int} (R : RowsAt H rs M) (k : ∀ r ∈ rs, ∀ o, H r = some o → H' r = some o) (hl : H' l = some (.lst (x.map V.int))) (hn : l ∉ rs) : RowsAt H' (rs ++ [l]) (M ++ [x]) := by
  refine ⟨by rw [List.length_append, List.length_append, R.len]; rfl, fun i r y h1 h2 => ?_, ?_⟩
  · by_cases hi : i < rs.length
    · rw [List.getElem?_append_left hi] at h1
      rw [List.getElem?_append_left (by rw [← R.len]; exact hi)] at h2
      exact k r (List.mem_of_getElem? h1) _ (R.row i r y h1 h2)
    · rw [List.getElem?_append_right (by omega)] at h1
      rw [List.getElem?_append_right (by rw [← R.len]; omega), ← R.len] at h2
      cases e : i - rs.length with
      | zero => rw [e] at h1 h2; cases h1; cases h2; exact hl
      | succ j => rw [e] at h1; cases h1
  · rw [List.nodup_append]
    refine ⟨R.nd, by simp, fun a ha b hb e => ?_⟩
    rw [List.mem_singleton.mp hb] at e
    exact hn (e ▸ ha)
theorem RowsAt.get {H : Hp} {rs : List Addr} {M : List (List Int)} (R : RowsAt H rs M) {i : Nat} (h : i < rs.length) : ∃ r x, rs[i]? = some r ∧ M[i]? = some x ∧ H r = some (.lst (x.map V.int)) := by
  have h1 : rs[i]? = some rs[i] := by simp [h]
  have h' : i < M.length := by rw [← R.len]; exact h
  have h2 : M[i]? = some M[i] := by simp [h']
  exact ⟨_, _, h1, h2, R.row i _ _ h1 h2⟩
theorem ixN_nat {n j : Nat} (h : j < n) : ixN n (j : Int) = some j := by
  unfold ixN
  rw [if_pos (by omega), if_pos (by omega)]
  simp
theorem zeros_map (k : Nat) : (List.replicate k [V.int 0]).flatten = (List.replicate k (0 : Int)).map V.int := by
  induction k with
  | zero => rfl
  | succ k ih => rw [List.replicate_succ, List.flatten_cons, ih, List.replicate_succ, List.map_cons]; rfl
theorem sq_zero (n : Nat) : Sq n (List.replicate n (List.replicate n 0)) := by
  refine ⟨List.length_replicate, fun i x hx => ?_, fun i j hi hj => ?_⟩
  · rw [List.getElem?_replicate] at hx
    split at hx
    · cases hx
      refine ⟨List.length_replicate, fun z hz => ?_⟩
      rw [List.eq_of_mem_replicate hz]
      exact Nat.zero_le _
    · cases hx
  · unfold ent
    rw [List.getElem?_replicate, List.getElem?_replicate, if_pos hi, if_pos hj]
    simp only [Option.getD_some, List.getElem?_replicate, if_pos hi, if_pos hj]
def triAt (n u : Nat) : Nat := u * (2 * n + 1 - u) / 2
theorem tri_step : ∀ n, n < 9 → ∀ u, u < n → triAt n u + (n - u) = triAt n (u + 1) ∧ triAt n u + (n - u) ≤ n * (n + 1) / 2 := by decide
def spSquare (K : PySem.W.Frag) : Sp := fun vs H Q _ => ∃ (n : Nat) (d : Addr) (y : Int) (ds : List Int), vs = [.int (n : Int), .ref d, .int y] ∧ n ≤ 8 ∧ SqL K H d (ds.map V.int) ∧ Drawn 210 (n * (n + 1) / 2) ds ∧
  ∀ (p : Addr) (rs : List Addr) (M : List (List Int)) (H' : Hp), Same H H' → H p = none → (∀ r ∈ rs, H r = none ∧ r ≠ p) → H' p = some (.lst (rs.map V.ref)) → RowsAt H' rs M → Sq n M → Q (.ref p) H'
abbrev nSquare : List Str := ["_law_many", "_law_draws_here", "_law_way", "_law_rows_here", "_law_u", "_law_at", "_law_v", "_law_weight"]
theorem scSquare : FnScope nSquare ["_law_many", "_law_draws_here", "_law_way"] (defScope sSquare) := ⟨rfl, rfl, rfl, by decide +kernel, rfl, by decide +kernel, by decide +kernel⟩
theorem pw20 : (10 : Int) ^ (20 : Int).toNat = 100000000000000000000 := by decide
theorem ok_square {f : Addr} {fd : FuncData} (B : BltL mg) (F : Fun K "_law_square" "_law_square" sSquare f fd) : FnOk P w K mg base CX0 1 f fd ["_law_many", "_law_draws_here", "_law_way"] (spSquare K) := by
  refine F.ok scSquare (fun vs H Q E h => ?_) (fun cdv A outer s H vs Q E hr h => ?_)
  · obtain ⟨n, d, y, ds, rfl, _⟩ := h
    rfl
  · obtain ⟨k, d, y, ds, rfl, hk, hS, ⟨lD, bD⟩, q⟩ := h
    refine ⟨_, pss_cons (ps_set (i := 3) scSquare.nd rfl (Or.inl rfl) (pe_lst pa_nil))
      (pss_cons (ps_for PassesOwn.never rfl (pi_range1 rfl B.range (pa_cons (pv 0) pa_nil)) (pg_name (i := 4) scSquare.nd rfl (Or.inl rfl))
        (pss_one (ps_expr (pe_bm PySem.F.plainAttrs_list PySem.F.slot_list_append PySem.F.type_list_append mt_append (pv 3) (pa_cons (pe_op op_rep (pe_lst (pa_cons pe_int pa_nil)) (pv 0)) pa_nil)))))
      (pss_cons (ps_set (i := 5) scSquare.nd rfl (Or.inl rfl) pe_int)
      (pss_cons (ps_for PassesOwn.never rfl (pi_range1 rfl B.range (pa_cons (pv 0) pa_nil)) (pg_name (i := 4) scSquare.nd rfl (Or.inl rfl))
        (pss_one (ps_for PassesOwn.never rfl (pi_range2 rfl B.range (pa_cons (pv 4) (pa_cons (pv 0) pa_nil))) (pg_name (i := 6) scSquare.nd rfl (Or.inl rfl))
          (pss_cons (ps_set (i := 7) scSquare.nd rfl (Or.inl rfl) (pe_op op_mul (pe_op op_mod (pe_ix ix_list (pv 1) (pv 5) (fun _ _ => rfl)) pe_int) (pe_callTy call_int1 (by rfl) B.int boot_int (pa_cons (pe_cmpR op_lt (pv 4) (pv 6) (nomark _)) pa_nil))))
          (pss_mid (ps_if (pt_cmpR op_eq (pv 2) pe_int (nomark _)) (pss_one (ps_set (i := 7) scSquare.nd rfl (Or.inl rfl) (pe_op op_sub (pe_op op_mod (pe_ix ix_list (pv 1) (pv 5) (fun _ _ => rfl)) pe_int) pe_int))) pss_nil)
          (pss_mid (ps_if (pt_cmpR op_eq (pv 2) pe_int (nomark _)) (pss_one (ps_set (i := 7) scSquare.nd rfl (Or.inl rfl) (pe_op op_add (pe_op op_mul (pe_op op_sub (pe_op op_mod (pe_ix ix_list (pv 1) (pv 5) (fun _ _ => rfl)) pe_int) pe_int) (pe_op op_pow pe_int pe_int)) (pe_op op_mod (pe_ix ix_list (pv 1) (pv 5) (fun _ _ => rfl)) pe_int)))) pss_nil)
          (pss_cons (ps_asg (pv 7) (pg_sub (pe_ix ix_list (pv 3) (pv 4) (fun _ _ => rfl)) (pv 6) set_list))
          (pss_cons (ps_asg (pv 7) (pg_sub (pe_ix ix_list (pv 3) (pv 6) (fun _ _ => rfl)) (pv 4) set_list))
          (pss_one (ps_set (i := 5) scSquare.nd rfl (Or.inl rfl) (pe_op op_add (pv 5) pe_int)))))))))))
      (pss_one (ps_ret (pv 3)))))), ?_⟩
    refine ⟨Nat.zero_le _, fun D hD => ?_⟩
    refine ⟨_, rfl, (k : Int), rfl, by omega, by omega, for_range (n := k) (fun i σ H' => ∃ (o4 : Option V) (rs : List Addr), σ = [some (.int (k : Int)), some (.ref d), some (.int y), some (.ref D), o4, none, none, none] ∧ rs.length = i ∧ Same H H' ∧ H' D = some (.lst (rs.map V.ref)) ∧
      RowsAt H' rs (List.replicate i (List.replicate k 0)) ∧ ∀ r ∈ rs, H r = none ∧ r ≠ D) ⟨none, [], rfl, rfl, Same.upd hD, upd_same, ⟨rfl, (fun i r x h _ => by cases h), List.nodup_nil⟩, (fun r hr => by cases hr)⟩ ?_ ?_⟩
    · rintro i σ H4 hlt ⟨o4, rs, rfl, l4, c4, eD, R4, o4⟩
      refine ⟨_, rfl, .inl ⟨rfl, _, SqL.of eD⟩, (by show 1 ≤ sizeLine; decide), fun l1 hl1 => ?_⟩
      refine ⟨_, rfl, l1, (k : Int), _, rfl, rfl, upd_same, by omega, by omega, Nat.le_of_lt (small1000 (by show 1 * (k : Int).toNat ≤ 1000; omega)), fun l2 hl2 => ?_⟩
      have n21 : l2 ≠ l1 := (ne_of_none upd_same hl2).symm
      have hl2' : H4 l2 = none := by rw [upd_ne n21] at hl2; exact hl2
      have sm : Same H4 (upd (upd H4 l1 (.lst [.int 0])) l2 (.lst (List.replicate (k : Int).toNat [V.int 0]).flatten)) := (Same.upd hl1).trans (Same.upd hl2)
      have el : upd (upd H4 l1 (.lst [.int 0])) l2 (.lst (List.replicate (k : Int).toNat [V.int 0]).flatten) l2 = some (.lst ((List.replicate k (0 : Int)).map V.int)) := by
        rw [upd_same, Int.toNat_natCast, zeros_map]
      generalize upd (upd H4 l1 (.lst [.int 0])) l2 (.lst (List.replicate (k : Int).toNat [V.int 0]).flatten) = H5 at sm el ⊢
      have l2D : l2 ≠ D := (ne_of_none eD hl2').symm
      have l2r : l2 ∉ rs := fun hm => by
        obtain ⟨j, hj, e⟩ := List.getElem_of_mem hm
        obtain ⟨r, x, g1, g2, g3⟩ := R4.get hj
        have : rs[j]? = some l2 := by rw [List.getElem?_eq_getElem hj, e]
        rw [g1] at this
        cases this
        rw [g3] at hl2'
        cases hl2'
      refine ⟨D, _, _, rfl, rfl, sm _ _ eD, small1000 (by rw [List.length_map]; omega), ?_⟩
      refine ⟨_, rs ++ [l2], rfl, by rw [List.length_append, l4]; rfl, fun b o e => ?_, by rw [List.map_append]; exact upd_same, ?_, ?_⟩
      · rw [upd_ne (ne_of_none e hD)]
        exact sm _ _ (c4 _ _ e)
      · have R5 : RowsAt H5 (rs ++ [l2]) (List.replicate i (List.replicate k 0) ++ [List.replicate k 0]) := R4.snoc (fun r _ o e => sm r o e) el l2r
        rw [← List.replicate_succ'] at R5
        refine R5.keep fun r hr o e => ?_
        have : r ≠ D := by
          rcases List.mem_append.mp hr with z | z
          · exact (o4 r z).2
          · rw [List.mem_singleton.mp z]; exact l2D
        rw [upd_ne this]
        exact e
      · intro r hr
        rcases List.mem_append.mp hr with z | z
        · exact o4 r z
        · rw [List.mem_singleton.mp z]
          exact ⟨c4.free hl2', l2D⟩
    · rintro σ H4 ⟨o4, rs, rfl, l4, c4, eD, R4, o4⟩
      refine ⟨_, rfl, (k : Int), rfl, by omega, by omega, for_range (n := k) (fun u σ H' => ∃ (o4 o6 o7 : Option V) (M : List (List Int)), σ = [some (.int (k : Int)), some (.ref d), some (.int y), some (.ref D), o4, some (.int (triAt k u : Nat)), o6, o7] ∧ Same H H' ∧ H' D = some (.lst (rs.map V.ref)) ∧
        RowsAt H' rs M ∧ Sq k M) ⟨_, _, _, _, by rw [show triAt k 0 = 0 by simp [triAt]]; rfl, c4, eD, R4, sq_zero k⟩ ?_ ?_⟩
      · rintro u σ H5 hu ⟨o4', o6, o7, M, rfl, c5, eD5, R5, S5⟩
        obtain ⟨tr1, tr2⟩ := tri_step k (by omega) u hu
        refine ⟨_, rfl, _, rfl, (0 + (u : Nat) : Int), (k : Int), rfl, ⟨by omega, by omega, by omega, by omega⟩, ?_⟩
        have eu : ((k : Int) - (0 + (u : Nat) : Int)).toNat = k - u := by omega
        rw [eu]
        refine for_range (lo := (0 + (u : Nat) : Int)) (n := k - u) (fun v σ H' => ∃ (o6 o7 : Option V) (M : List (List Int)), σ = [some (.int (k : Int)), some (.ref d), some (.int y), some (.ref D), some (.int (0 + (u : Nat) : Int)), some (.int ((triAt k u + v : Nat) : Int)), o6, o7] ∧ Same H H' ∧ H' D = some (.lst (rs.map V.ref)) ∧
          RowsAt H' rs M ∧ Sq k M) ⟨_, _, M, rfl, c5, eD5, R5, S5⟩ ?_ ?_
        · rintro v σ H6 hv ⟨o6, o7, M, rfl, c6, eD6, R6, S6⟩
          have lat : triAt k u + v < ds.length := by rw [lD]; omega
          have hat : atI (ds.map V.int) ((triAt k u + v : Nat) : Int) = some (.int (ds[triAt k u + v]'lat)) := atI_nat (by rw [List.getElem?_map, List.getElem?_eq_getElem lat]; rfl)
          obtain ⟨d0, d1⟩ := bD _ (List.getElem_mem lat)
          generalize ds[triAt k u + v]'lat = x at hat d0 d1
          have hS6 := c6.seq hS
          refine ⟨_, rfl, _, rfl, d, _, _, _, rfl, rfl, hS6, hat, _, _, rfl, rfl, (by show (0 : Int) < 2; decide), _, rfl, _, rfl, _, _, rfl, rfl, ?_⟩
          have wm : wMax = 1000000000000000000000 := by decide
          have hu' : ∀ b : Bool, (x % 2 * (if b = true then 1 else 0)).natAbs ≤ wMax := by
            intro b
            rw [wm]
            cases b
            · rw [if_neg (by decide)]; omega
            · rw [if_pos rfl]; omega
          refine .inr ⟨_, rfl, _, _, rfl, rfl, cmul_l (by show _ < x % 2; omega) (by show x % 2 < _; omega), ?_⟩
          have w0 := hu' (decide ((0 + (u : Nat) : Int) < (0 + (u : Nat) + (v : Nat) : Int)))
          refine ⟨fun σ' H' => ∃ z : Int, z.natAbs ≤ wMax ∧ σ' = [some (.int (k : Int)), some (.ref d), some (.int y), some (.ref D), some (.int (0 + (u : Nat) : Int)), some (.int ((triAt k u + v : Nat) : Int)), some (.int (0 + (u : Nat) + (v : Nat) : Int)), some (.int z)] ∧ H' = H6, ?_, ?_⟩
          · by_cases h1 : y = 1
            · refine ⟨_, rfl, rfl, _, rfl, itDP (by rw [h1]) ?_⟩
              refine ⟨_, rfl, _, rfl, d, _, _, _, rfl, rfl, hS6, hat, _, _, rfl, rfl, (by show (0 : Int) < 7; decide), _, _, rfl, rfl, ?_⟩
              exact ⟨x % 7 - 3, by rw [wm]; omega, rfl, rfl⟩
            · refine ⟨_, rfl, rfl, _, rfl, itDN (fun z => h1 (V.int.inj z)) ?_⟩
              exact ⟨_, w0, rfl, rfl⟩
          rintro σ' H' ⟨w2, w2b, rfl, rfl⟩
          refine ⟨fun σ' H'' => ∃ z : Int, z.natAbs ≤ wMax ∧ σ' = [some (.int (k : Int)), some (.ref d), some (.int y), some (.ref D), some (.int (0 + (u : Nat) : Int)), some (.int ((triAt k u + v : Nat) : Int)), some (.int (0 + (u : Nat) + (v : Nat) : Int)), some (.int z)] ∧ H'' = H', ?_, ?_⟩
          · by_cases h1 : y = 2
            · refine ⟨_, rfl, rfl, _, rfl, itDP (by rw [h1]) ?_⟩
              refine ⟨_, rfl, _, rfl, d, _, _, _, rfl, rfl, hS6, hat, _, _, rfl, rfl, (by show (0 : Int) < 5; decide), _, _, rfl, rfl, _, _, rfl, rfl, ⟨by decide, by decide, by decide⟩, _, _, rfl, rfl, cmul_l (by show _ < x % 5 - 2; omega) (by show x % 5 - 2 < _; omega), ?_⟩
              refine ⟨_, rfl, _, rfl, d, _, _, _, rfl, rfl, hS6, hat, _, _, rfl, rfl, (by show (0 : Int) < 3; decide), _, _, rfl, rfl, ?_⟩
              exact ⟨(x % 5 - 2) * 10 ^ (20 : Int).toNat + x % 3, by rw [wm, pw20]; omega, rfl, rfl⟩
            · refine ⟨_, rfl, rfl, _, rfl, itDN (fun z => h1 (V.int.inj z)) ?_⟩
              exact ⟨w2, w2b, rfl, rfl⟩
          rintro σ' H7 ⟨z, hz, rfl, rfl⟩
          obtain ⟨ru, xu, g1, g2, g3⟩ := R6.get (i := u) (by omega)
          have hru := o4 ru (List.mem_of_getElem? g1)
          have lxu := (S6.row u xu g2).1
          have a1 : atI (rs.map V.ref) (0 + (u : Nat) : Int) = some (.ref ru) := by rw [Int.zero_add]; exact atI_nat (by rw [List.getElem?_map, g1]; rfl)
          have euv : (0 + (u : Nat) + (v : Nat) : Int) = ((u + v : Nat) : Int) := by omega
          refine ⟨_, rfl, _, rfl, _, rfl, D, _, _, _, rfl, rfl, SqL.of eD6, a1, _, rfl, ru, _, _, u + v, rfl, rfl, g3, by rw [euv, List.length_map]; exact ixN_nat (by omega), ?_⟩
          rw [← List.map_set]
          have R8 := R6.put (j := u + v) (z := z) g1 g2
          have c8 : Same H (upd H7 ru (.lst ((xu.set (u + v) z).map V.int))) := fun b o e => by rw [upd_ne (ne_of_none e hru.1)]; exact c6 _ _ e
          have eD8 : upd H7 ru (.lst ((xu.set (u + v) z).map V.int)) D = _ := (upd_ne hru.2.symm).trans eD6
          generalize upd H7 ru (.lst ((xu.set (u + v) z).map V.int)) = H8 at R8 c8 eD8 ⊢
          obtain ⟨rv, xv, k1, k2, k3⟩ := R8.get (i := u + v) (by omega)
          have hrv := o4 rv (List.mem_of_getElem? k1)
          have lxv := ((put_row (i := u) (j := u + v) S6.len hz S6.row).2 (u + v) xv k2).1
          have a2 : atI (rs.map V.ref) (0 + (u : Nat) + (v : Nat) : Int) = some (.ref rv) := by rw [euv]; exact atI_nat (by rw [List.getElem?_map, k1]; rfl)
          refine ⟨_, rfl, _, rfl, _, rfl, D, _, _, _, rfl, rfl, SqL.of eD8, a2, _, rfl, rv, _, _, u, rfl, rfl, k3, by rw [Int.zero_add, List.length_map]; exact ixN_nat (by omega), ?_⟩
          rw [← List.map_set]
          refine ⟨_, rfl, _, _, rfl, rfl, ?_⟩
          refine ⟨some (.int (0 + (u : Nat) + (v : Nat) : Int)), some (.int z), _, ?_, fun b o e => ?_, (upd_ne hrv.2.symm).trans eD8, R8.put (j := u) (z := z) k1 k2, S6.put (by omega) (by omega) hz⟩
          · rfl
          · rw [upd_ne (ne_of_none e hrv.1)]; exact c8 _ _ e
        · rintro σ H6 ⟨o6, o7, M, rfl, c6, eD6, R6, S6⟩
          exact ⟨_, _, _, M, by rw [tr1], c6, eD6, R6, S6⟩
      · rintro σ H5 ⟨o4', o6, o7, M, rfl, c5, eD5, R5, S5⟩
        exact ⟨_, rfl, q D rs M H5 c5 hD o4 eD5 R5 S5⟩
end
section
variable {P : Program} {w : World} {K : PySem.W.Frag} {mg : Str → Option Value} {base : Heap}
structure WebAt (H : Hp) (p hA rA : Addr) (rs : List Addr) (n : Nat) (hs : List Int) (M : List (List Int)) : Prop where
  tup : H p = some (.tup [.ref hA, .ref rA])
  hue : H hA = some (.lst (hs.map V.int))
  rws : H rA = some (.lst (rs.map V.ref))
  row : RowsAt H rs M
  len : hs.length = n
  pos : ∀ z ∈ hs, 0 ≤ z ∧ z < 3
  sq : Sq n M
theorem WebAt.same {H H' : Hp} {p hA rA : Addr} {rs : List Addr} {n : Nat} {hs : List Int} {M : List (List Int)} (W : WebAt H p hA rA rs n hs M) (s : Same H H') : WebAt H' p hA rA rs n hs M :=
  ⟨s _ _ W.tup, s _ _ W.hue, s _ _ W.rws, W.row.keep fun r _ o e => s r o e, W.len, W.pos, W.sq⟩
def NewW (H : Hp) (p hA rA : Addr) (rs : List Addr) : Prop := (∀ a ∈ p :: hA :: rA :: rs, H a = none) ∧ hA ≠ rA ∧ hA ∉ rs ∧ rA ∉ rs
def spWebP (K : PySem.W.Frag) : Sp := fun vs H Q _ => ∃ (a : Addr) (ns : List Int) (t : Int) (n : Nat) (fr : Bool), vs = [.ref a, .int t, .int (n : Int), .bl fr] ∧ SqL K H a (ns.map V.int) ∧ 0 ≤ t ∧ n ≤ 8 ∧
  ∀ (p hA rA : Addr) (rs : List Addr) (hs : List Int) (M : List (List Int)) (H' : Hp), Same H H' → NewW H p hA rA rs → WebAt H' p hA rA rs n hs M → Q (.ref p) H'
abbrev nWebP : List Str := ["_law_script", "_law_at", "_law_many", "_law_free", "_law_draws_here", "_law_hues", "_law_way", "_law_square_here"]
abbrev aWebP : List Str := ["_law_script", "_law_at", "_law_many", "_law_free"]
theorem scWebP : FnScope nWebP aWebP (defScope sWebP) := ⟨rfl, rfl, rfl, by decide +kernel, rfl, by decide +kernel, by decide +kernel⟩
theorem lcWebP : LcScope (defScope sWebP) nWebP (lcScope (asgVal (bodyAt sWebP 1))) "_law_draw" := ⟨by decide +kernel, rfl, by decide +kernel, by decide +kernel, by decide +kernel, by decide +kernel, by decide +kernel, by decide +kernel, by decide +kernel, by decide +kernel⟩
theorem cut_take (ns : List Int) (n : Nat) (h : n ≤ ns.length) : cutV (ns.map V.int) none (some (n : Int)) = (ns.take n).map V.int := by
  unfold cutV
  rw [HT.sIx_none, HT.sIx_nat, List.drop_zero, List.length_map, Nat.min_eq_left h, Nat.sub_zero, List.map_take]
theorem ok_webP {f fC fD fS : Addr} {fd fdC fdD fdS : FuncData} (B : BltL mg) (F : Fun K "_law_web" "_law_web" sWebP f fd) (DC : Dn K mg "_law_cell_at" sCellAt ["_law_script", "_law_k"] fC fdC) (GC : FnOk P w K mg base CX0 1 fC fdC ["_law_script", "_law_k"] (spCell K))
    (DD : Dn K mg "_law_draws" sDraws ["_law_cell", "_law_many", "_law_base", "_law_free"] fD fdD) (GD : FnOk P w K mg base CX0 1 fD fdD ["_law_cell", "_law_many", "_law_base", "_law_free"] spDraws)
    (DS : Dn K mg "_law_square" sSquare ["_law_many", "_law_draws_here", "_law_way"] fS fdS) (GS : FnOk P w K mg base CX0 1 fS fdS ["_law_many", "_law_draws_here", "_law_way"] (spSquare K)) : FnOk P w K mg base CX0 2 f fd aWebP (spWebP K) := by
  refine F.ok scWebP (fun vs H Q E h => ?_) (fun cdv A outer s H vs Q E hr h => ?_)
  · obtain ⟨a, ns, t, n, fr, rfl, _⟩ := h
    rfl
  · obtain ⟨a, ns, t, n, fr, rfl, hS, ht, hn, q⟩ := h
    refine ⟨_, pss_cons (ps_set (i := 4) scWebP.nd rfl (Or.inr rfl) (pe_fn DD GD hr rfl (pa_cons (pe_fn DC GC hr rfl (pa_cons (pv 0) (pa_cons (pv 1) pa_nil))) (pa_cons (pe_op op_add (pv 2) pe_int) (pa_cons pe_int (pa_cons (pv 3) pa_nil))))))
      (pss_cons (ps_setLc (i := 5) scWebP.nd rfl (Or.inl rfl) rfl lcWebP rfl (pi_list (pe_slice sl_list (pv 4) po_none (po_some (pv 2)))) (fun _ _ _ => pe_op op_mul (pv 8) (pe_callTy call_int1 (by rfl) B.int boot_int (pa_cons (pe_cmpR op_gt (pe_ix (ix_listK (K := K)) (pv 4) (pv 2) (fun _ _ => rfl)) pe_int (nomark _)) pa_nil))))
      (pss_cons (ps_set (i := 6) scWebP.nd rfl (Or.inl rfl) (pe_op op_mod (pe_fn DC GC hr rfl (pa_cons (pv 0) (pa_cons (pe_op op_add (pv 1) pe_int) pa_nil))) pe_int))
      (pss_cons (ps_set (i := 7) scWebP.nd rfl (Or.inl rfl) (pe_fn DS GS hr rfl (pa_cons (pv 2) (pa_cons (pe_fn DD GD hr rfl (pa_cons (pe_fn DC GC hr rfl (pa_cons (pv 0) (pa_cons (pe_op op_add (pv 1) pe_int) pa_nil))) (pa_cons (pe_op op_fdiv (pe_op op_mul (pv 2) (pe_op op_add (pv 2) pe_int)) pe_int) (pa_cons pe_int (pa_cons (pv 3) pa_nil))))) (pa_cons (pv 6) pa_nil)))))
      (pss_one (ps_ret (pe_tup (pa_cons (pv 5) (pa_cons (pv 7) pa_nil)))))))), ?_⟩
    refine ⟨_, rfl, _, rfl, a, ns, t, rfl, hS, ht, fun c1 _ => ?_⟩
    refine ⟨_, rfl, _, _, rfl, rfl, _, rfl, c1, n + 1, 3, fr, rfl, by omega, by decide, .inl (by decide), fun d ds H1 hd s1 nd ed => ?_⟩
    obtain ⟨ld, bd⟩ := hd
    refine ⟨_, rfl, _, rfl, _, rfl, d, _, rfl, SqL.of ed, fun p hp => ?_⟩
    rw [cut_take ds n (by omega)]
    have ep : upd H1 p (.lst ((ds.take n).map V.int)) p = some (.lst ((ds.take n).map V.int)) := upd_same
    have s2 : Same H (upd H1 p (.lst ((ds.take n).map V.int))) := s1.trans (Same.upd hp)
    have ed2 : upd H1 p (.lst ((ds.take n).map V.int)) d = some (.lst (ds.map V.int)) := by rw [upd_ne (ne_of_none ed hp)]; exact ed
    generalize upd H1 p (.lst ((ds.take n).map V.int)) = H2 at ep s2 ed2 ⊢
    refine ⟨p, rfl, ⟨_, SqL.of ep⟩, fun D hD => ?_⟩
    have hnl : n < ds.length := by omega
    have hat : atI (ds.map V.int) (n : Int) = some (.int (ds[n]'hnl)) := atI_nat (by rw [List.getElem?_map, List.getElem?_eq_getElem hnl]; rfl)
    generalize ds[n]'hnl = x at hat
    refine lc_list (K := K) (xs := (ds.take n).map V.int) (fun i ys H' => ∃ hs : List Int, ys = hs.map V.int ∧ hs.length = i ∧ Same H2 H' ∧ H' D = some (.lst ys) ∧ ∀ z ∈ hs, 0 ≤ z ∧ z < 3) ?_ ?_ ?_ ?_ ?_
    · exact ⟨[], rfl, rfl, Same.upd hD, upd_same, fun z hz => by cases hz⟩
    · rintro i ys H' _ ⟨hs, rfl, lt, s3, eD, _⟩
      exact ⟨s3.seq (SqL.of ep), eD⟩
    · rintro i v ys H' hv ⟨hs, rfl, lt, s3, eD, hb⟩
      obtain ⟨z, hz, rfl⟩ := map_get hv
      have zb := bd z (List.mem_of_mem_take (List.mem_of_getElem? hz))
      have li := (List.getElem?_eq_some_iff.mp hz).1
      rw [List.length_take] at li
      refine ⟨_, rfl, _, rfl, _, rfl, d, _, _, _, rfl, rfl, SqL.of (s3 _ _ ed2), hat, _, _, rfl, rfl, .inr ⟨_, rfl, _, _, rfl, rfl, cmul_l (by omega) (by omega), ?_⟩⟩
      refine ⟨eD, small1000 (by rw [List.length_map]; omega), hs ++ [z * (if decide (0 < x) = true then 1 else 0)], by rw [List.map_append]; rfl, by rw [List.length_append, lt]; rfl, fun b o e => ?_, upd_same, ?_⟩
      · rw [upd_ne (ne_of_none e hD)]
        exact s3 _ _ e
      · intro y hy
        rcases List.mem_append.mp hy with g | g
        · exact hb y g
        · rw [List.mem_singleton.mp g]
          split <;> omega
    · rintro ys H3 ⟨hs, rfl, lt, s3, eD, hb⟩
      rw [List.length_map, List.length_take, Nat.min_eq_left (by omega)] at lt
      have c3 := s2.trans s3
      have nD : H D = none := s2.free hD
      refine ⟨_, rfl, _, rfl, _, _, rfl, rfl, a, ns, t + 2, rfl, c3.seq hS, by omega, fun c2 _ => ⟨_, _, rfl, rfl, (by show (0 : Int) < 4; decide), ?_⟩⟩
      refine ⟨_, rfl, _, rfl, _, rfl, _, _, rfl, rfl, a, ns, t + 1, rfl, c3.seq hS, by omega, fun c4 _ => ?_⟩
      have en : (n : Int) * ((n : Int) + 1) / 2 = ((n * (n + 1) / 2 : Nat) : Int) := by
        rw [show (n : Int) * ((n : Int) + 1) = ((n * (n + 1) : Nat) : Int) by push_cast; rfl]
        rfl
      have nb : n * (n + 1) / 2 ≤ 100 := by
        have : n * (n + 1) ≤ 8 * 9 := Nat.mul_le_mul hn (by omega)
        omega
      refine ⟨_, rfl, _, rfl, _, _, rfl, rfl, _, _, rfl, rfl, cmul_l (by omega) (by omega), _, _, rfl, rfl, ⟨by decide, by decide⟩, ?_⟩
      refine ⟨_, rfl, c4, n * (n + 1) / 2, 210, fr, ?_, nb, by decide, .inl (by decide), fun d' ds' H4 hd' s4 nd' ed' => ?_⟩
      · show [V.int c4, V.int ((n : Int) * ((n : Int) + 1) / 2), _, _] = _
        rw [en]
      have c5 := c3.trans s4
      refine ⟨_, rfl, n, d', c2 % 4, ds', rfl, hn, SqL.of ed', hd', fun R rs M H5 s5 nR nrs eR RR SR => ?_⟩
      have eD5 := s5 _ _ (s4 _ _ eD)
      refine ⟨_, rfl, _, rfl, (by show 2 ≤ sizeLine; decide), fun p' hp' => ?_⟩
      have c6 := c5.trans s5
      have np := fun {b : Addr} {o : HO} (e : H5 b = some o) => ne_of_none e hp'
      have nDR : D ≠ R := fun z => by subst z; rw [s4 _ _ eD] at nR; cases nR
      refine q p' D R rs hs M _ (c6.trans (Same.upd hp')) ⟨?_, nDR, fun z => ?_, fun z => (nrs _ z).2 rfl⟩ ⟨upd_same, by rw [upd_ne (np eD5)]; exact eD5, by rw [upd_ne (np eR)]; exact eR, RR.keep fun r hr o e => by rw [upd_ne (np e)]; exact e, lt, hb, SR⟩
      · intro b hb'
        rcases List.mem_cons.mp hb' with rfl | hb'
        · exact c6.free hp'
        · rcases List.mem_cons.mp hb' with rfl | hb'
          · exact nD
          · rcases List.mem_cons.mp hb' with rfl | hb'
            · exact c5.free nR
            · exact c5.free (nrs b hb').1
      · have := (nrs _ z).1
        rw [s4 _ _ eD] at this
        cases this
    · rintro σ H' Q1 Q2 hq ⟨v1, e1, v2, e2, v3, e3, a1, a2, a3, a4, b1, b2, b3, b4, i1, i2, j1, j2, g⟩
      refine ⟨v1, e1, v2, e2, v3, e3, a1, a2, a3, a4, b1, b2, b3, b4, i1, i2, j1, j2, ?_⟩
      rcases g with ⟨i, f1, m1, m2, f2, f3, f4, f5⟩ | ⟨i, f1, m1, m2, f2, f3, f4, f5⟩
      · exact .inl ⟨i, f1, m1, m2, f2, f3, f4, hq _ _ f5⟩
      · exact .inr ⟨i, f1, m1, m2, f2, f3, f4, hq _ _ f5⟩
end
section
variable {P : Program} {w : World} {K : PySem.W.Frag} {mg : Str → Option Value} {base : Heap}
structure BltP (mg : Str → Option Value) : Prop where
  len : mg "len" = none
  zip : mg "zip" = none
  list : mg "list" = none
  tuple : mg "tuple" = none
section
variable {κ : Type} [DecidableEq κ]
def seenAdd (s : List κ) (k : κ) : List κ := if k ∈ s then s else s ++ [k]
def numsFrom (s : List κ) : List κ → List Nat
  | [] => []
  | k :: ks => s.idxOf k :: numsFrom (seenAdd s k) ks
def numb (ks : List κ) : List Nat := numsFrom [] ks
theorem numsFrom_snoc (k : κ) : ∀ (ks s : List κ), numsFrom s (ks ++ [k]) = numsFrom s ks ++ [(ks.foldl seenAdd s).idxOf k]
  | [], s => rfl
  | x :: ks, s => by
    show s.idxOf x :: numsFrom (seenAdd s x) (ks ++ [k]) = _
    rw [numsFrom_snoc k ks]
    rfl
theorem numsFrom_len : ∀ (ks s : List κ), (numsFrom s ks).length = ks.length
  | [], _ => rfl
  | _ :: ks, s => by simp [numsFrom, numsFrom_len ks]
theorem seen_le : ∀ (ks s : List κ), (ks.foldl seenAdd s).length ≤ s.length + ks.length
  | [], s => Nat.le_refl _
  | k :: ks, s => by
    have := seen_le ks (seenAdd s k)
    have e : (seenAdd s k).length ≤ s.length + 1 := by
      unfold seenAdd
      split
      · omega
      · rw [List.length_append, List.length_singleton]; omega
    rw [List.foldl_cons, List.length_cons]
    omega
theorem KL_num (k : κ) : ∀ (l : List (κ × V × V)) (o : Nat), (∀ (j : Nat) (x : κ × V × V), l[j]? = some x → x.2.2 = .int ((o + j : Nat) : Int)) →
    KL l k = if k ∈ l.map (·.1) then some (.int ((o + (l.map (·.1)).idxOf k : Nat) : Int)) else none
  | [], _, _ => rfl
  | x :: l, o, h => by
    have ih := KL_num k l (o + 1) fun j y e => by rw [h (j + 1) y (by simpa using e)]; congr 2; omega
    by_cases e : x.1 = k
    · have h0 := h 0 x rfl
      rw [show KL (x :: l) k = some x.2.2 by simp [KL, e], h0]
      simp [List.idxOf_cons, e]
    · rw [show KL (x :: l) k = KL l k by simp [KL, e], ih]
      by_cases m : k ∈ l.map (·.1)
      · rw [List.map_cons, if_pos m, if_pos (List.mem_cons_of_mem _ m), List.idxOf_cons, (by simpa using e : (x.1 == k) = false), cond_false]
        congr 3
        omega
      · rw [List.map_cons, if_neg m, if_neg (by rw [List.mem_cons]; rintro (q | q); exact e q.symm; exact m q)]
end
def spNum (K : PySem.W.Frag) {κ : Type} [DecidableEq κ] (key : Hp → V → κ → Prop) : Sp := fun vs H Q _ => ∃ (a : Addr) (ys : List V) (ks : List κ), vs = [.ref a] ∧ SqL K H a ys ∧ ys.length = ks.length ∧ ks.length ≤ 1000 ∧
  (∀ (j : Nat) (y : V) (k : κ), ys[j]? = some y → ks[j]? = some k → key H y k) ∧ ∀ p H', Same H H' → H p = none → H' p = some (.lst ((numb ks).map fun (n : Nat) => V.int (n : Int))) → Q (.ref p) H'
abbrev nNum : List Str := ["marks", "numbers", "lots", "mark"]
theorem scNum : FnScope nNum ["marks"] (defScope sNumbered) := ⟨rfl, rfl, rfl, by decide +kernel, rfl, by decide +kernel, by decide +kernel⟩
theorem ok_num {κ : Type} [DecidableEq κ] {obj : Addr → List (κ × V × V) → HO} {key : Hp → V → κ → Prop} (kd : ∀ X : Cx, X.prog = P → X.w = w → X.A.units + 64 < cLine → Kd X κ obj key) (ks' : ∀ {H H' : Hp} {y : V} {k : κ}, Same H H' → key H y k → key H' y k)
    {f : Addr} {fd : FuncData} (B : BltP mg) (F : Fun K "numbered" "numbered" sNumbered f fd) : FnOk P w K mg base CX0 1 f fd ["marks"] (spNum K key) := by
  refine F.ok scNum (fun vs H Q E h => ?_) (fun cdv A outer s H vs Q E hr h => ?_)
  · obtain ⟨a, ys, ks, rfl, _⟩ := h
    rfl
  · obtain ⟨a, ys, ks, rfl, hy, hl, hz, hk, q⟩ := h
    have KD := fun X e1 e2 e3 => kd X e1 e2 e3
    refine ⟨_, pss_cons (ps_set (i := 1) scNum.nd rfl (Or.inl rfl) ((kd _ rfl rfl hr.units).new _))
      (pss_cons (ps_set (i := 2) scNum.nd rfl (Or.inl rfl) (pe_lst pa_nil))
      (pss_cons (ps_for PassesOwn.never rfl (pi_list (pv 0)) (pg_name (i := 3) scNum.nd rfl (Or.inl rfl))
        (pss_one (ps_expr (pe_bm PySem.F.plainAttrs_list PySem.F.slot_list_append PySem.F.type_list_append mt_append (pv 2)
          (pa_cons (pe_setd (kd _ rfl rfl hr.units) (pv 1) (pv 3) (pe_callB (kd _ rfl rfl hr.units).len (by rfl) B.len PySem.boot_len (pa_cons (pv 1) pa_nil)) ⟨rfl, rfl, rfl, rfl⟩) pa_nil)))))
      (pss_one (ps_ret (pv 2))))), ?_⟩
    intro N hN
    refine ⟨Nat.zero_le _, fun R hR => ?_⟩
    have nNR : N ≠ R := ne_of_none upd_same hR
    have hR0 : H R = none := by rw [upd_ne nNR.symm] at hR; exact hR
    have sH : Same H (upd (upd H N (obj N [])) R (.lst [])) := (Same.upd hN).trans (Same.upd hR)
    refine ⟨_, rfl, a, rfl, ⟨_, sH.seq hy⟩, for_list (K := K) (a := a) (xs := ys) (fun i σ H' => ∃ (o : Option V) (l : List (κ × V × V)), σ = [some (.ref a), some (.ref N), some (.ref R), o] ∧ Same H H' ∧ H' N = some (obj N l) ∧ H' R = some (.lst ((numsFrom [] (ks.take i)).map fun (n : Nat) => V.int (n : Int))) ∧
      l.map (·.1) = (ks.take i).foldl seenAdd [] ∧ (∀ (j : Nat) (x : κ × V × V), l[j]? = some x → x.2.2 = .int (j : Int)) ∧ ∀ z ∈ l, key H z.2.1 z.1) ?_ ?_ ?_ ?_⟩
    · exact ⟨none, [], rfl, sH, by rw [upd_ne nNR]; exact upd_same, upd_same, rfl, fun j x e => by simp at e, fun z hz => by cases hz⟩
    · rintro i σ H' _ ⟨o, l, rfl, s1, _⟩
      exact s1.seq hy
    · rintro i v σ H' hi ⟨o, l, rfl, s1, eN, eR, el, ev, ek⟩
      have li : i < ks.length := by rw [← hl]; exact (List.getElem?_eq_some_iff.mp hi).1
      have hki : ks[i]? = some (ks[i]'li) := List.getElem?_eq_getElem li
      have kv : key H' v (ks[i]'li) := ks' s1 (hk i v _ hi hki)
      have kl : ∀ z ∈ l, key H' z.2.1 z.1 := fun z hz => ks' s1 (ek z hz)
      have tk : ks.take (i + 1) = ks.take i ++ [ks[i]'li] := by rw [List.take_succ, hki]; rfl
      have ll : l.length ≤ 1000 := by
        have := seen_le (ks.take i) []
        rw [← el, List.length_map, List.length_take] at this
        simp at this
        omega
      have lr : ((numsFrom [] (ks.take i)).map fun (n : Nat) => V.int (n : Int)).length ≤ 1000 := by
        rw [List.length_map, numsFrom_len, List.length_take]
        omega
      have num := KL_num (ks[i]'li) l 0 fun j x e => by rw [Nat.zero_add]; exact ev j x e
      rw [Nat.zero_add, el] at num
      refine ⟨_, rfl, .inl ⟨rfl, _, SqL.of eR⟩, _, rfl, N, l, rfl, eN, _, rfl, _, rfl, N, l, rfl, eN, kl, N, l, ks[i]'li, v, _, rfl, rfl, eN, kl, kv, small1000 ll, ?_⟩
      by_cases m : (ks[i]'li) ∈ (ks.take i).foldl seenAdd []
      · rw [if_pos m] at num
        refine .inl ⟨_, num, ?_⟩
        refine ⟨R, _, _, rfl, rfl, eR, small1000 lr, ?_⟩
        refine ⟨_, l, rfl, fun b ob e => ?_, ?_, ?_, ?_, ev, ek⟩
        · rw [upd_ne (ne_of_none e hR0)]
          exact s1 _ _ e
        · rw [upd_ne nNR]
          exact eN
        · rw [upd_same, tk, numsFrom_snoc, List.map_append]
          rfl
        · rw [el, tk, List.foldl_append]
          show _ = seenAdd _ _
          rw [seenAdd, if_pos m]
      · rw [if_neg m] at num
        refine .inr ⟨num, ?_⟩
        have eR2 : upd H' N (obj N (l ++ [(ks[i]'li, v, .int (l.length : Int))])) R = some (.lst ((numsFrom [] (ks.take i)).map fun (n : Nat) => V.int (n : Int))) := by rw [upd_ne nNR.symm]; exact eR
        refine ⟨R, _, _, rfl, rfl, eR2, small1000 lr, ?_⟩
        refine ⟨_, _, rfl, fun b ob e => ?_, by rw [upd_ne nNR]; exact upd_same, ?_, ?_, ?_, ?_⟩
        · rw [upd_ne (ne_of_none e hR0), upd_ne (ne_of_none e hN)]
          exact s1 _ _ e
        · have ll' : ((ks.take i).foldl seenAdd []).length = l.length := by rw [← el, List.length_map]
          rw [upd_same, tk, numsFrom_snoc, List.map_append, List.idxOf_eq_length m, ll']
          rfl
        · rw [List.map_append, el, tk, List.foldl_append]
          show _ = seenAdd _ _
          rw [seenAdd, if_neg m]
          rfl
        · intro j x e
          rcases Nat.lt_or_ge j l.length with lj | lj
          · rw [List.getElem?_append_left lj] at e
            exact ev j x e
          · rw [List.getElem?_append_right lj] at e
            obtain rfl : j = l.length := by
              have := (List.getElem?_eq_some_iff.mp e).1
              rw [List.length_singleton] at this
              omega
            rw [Nat.sub_self] at e
            cases e
            rfl
        · intro z hz
          rcases List.mem_append.mp hz with q' | q'
          · exact ek z q'
          · cases List.mem_singleton.mp q'
            exact hk i v _ hi hki
    · rintro σ H' ⟨o, l, rfl, s1, eN, eR, _⟩
      refine ⟨_, rfl, q R H' s1 hR0 ?_⟩
      rw [eR, hl, List.take_length]
      rfl
end
section
variable {κ ι : Type} [DecidableEq κ] [DecidableEq ι]
theorem idx_same {k : κ} {l : ι} : ∀ (s : List κ) (t : List ι), s.length = t.length → (∀ p ∈ s.zip t, p.1 = k ↔ p.2 = l) → s.idxOf k = t.idxOf l ∧ (k ∈ s ↔ l ∈ t)
  | [], [], _, _ => ⟨rfl, by simp⟩
  | [], _ :: _, h, _ => by simp at h
  | _ :: _, [], h, _ => by simp at h
  | x :: s, y :: t, h, hp => by
    have h0 := hp (x, y) (by simp)
    obtain ⟨h1, h2⟩ := idx_same s t (by simpa using h) fun p hm => hp p (by rw [List.zip_cons_cons]; exact List.mem_cons_of_mem _ hm)
    by_cases e : x = k
    · have e' : y = l := h0.mp e
      subst e e'
      simp [List.idxOf_cons]
    · have e' : ¬ y = l := fun q => e (h0.mpr q)
      refine ⟨?_, ?_⟩
      · rw [List.idxOf_cons, List.idxOf_cons, (by simpa using e : (x == k) = false), (by simpa using e' : (y == l) = false), cond_false, cond_false, h1]
      · rw [List.mem_cons, List.mem_cons, h2]
        constructor
        · rintro (q | q)
          · exact absurd q.symm e
          · exact .inr q
        · rintro (q | q)
          · exact absurd q.symm e'
          · exact .inr q
theorem nums_same : ∀ (ks : List κ) (ls : List ι) (s : List κ) (t : List ι), ks.length = ls.length → s.length = t.length → (∀ p ∈ s.zip t ++ ks.zip ls, ∀ q ∈ s.zip t ++ ks.zip ls, p.1 = q.1 ↔ p.2 = q.2) → numsFrom s ks = numsFrom t ls
  | [], [], _, _, _, _, _ => rfl
  | [], _ :: _, _, _, h, _, _ => by simp at h
  | _ :: _, [], _, _, h, _, _ => by simp at h
  | k :: ks, l :: ls, s, t, h, hs, hp => by
    have hkl : (k, l) ∈ s.zip t ++ (k :: ks).zip (l :: ls) := by simp
    obtain ⟨h1, h2⟩ := idx_same (k := k) (l := l) s t hs fun p hm => hp p (List.mem_append_left _ hm) (k, l) hkl
    show s.idxOf k :: numsFrom (seenAdd s k) ks = t.idxOf l :: numsFrom (seenAdd t l) ls
    rw [h1]
    congr 1
    have hz : ∀ p ∈ (seenAdd s k).zip (seenAdd t l) ++ ks.zip ls, p ∈ s.zip t ++ (k :: ks).zip (l :: ls) := by
      intro p hm
      rcases List.mem_append.mp hm with q | q
      · unfold seenAdd at q
        by_cases m : k ∈ s
        · rw [if_pos m, if_pos (h2.mp m)] at q
          exact List.mem_append_left _ q
        · rw [if_neg m, if_neg (fun z => m (h2.mpr z)), List.zip_append hs] at q
          rcases List.mem_append.mp q with q | q
          · exact List.mem_append_left _ q
          · rw [List.zip_cons_cons, List.zip_nil_left, List.mem_singleton] at q
            rw [q]
            exact hkl
      · refine List.mem_append_right _ ?_
        rw [List.zip_cons_cons]
        exact List.mem_cons_of_mem _ q
    refine nums_same ks ls _ _ (by simpa using h) ?_ fun p hm q hq => hp p (hz p hm) q (hz q hq)
    unfold seenAdd
    by_cases m : k ∈ s
    · rw [if_pos m, if_pos (h2.mp m)]
      exact hs
    · rw [if_neg m, if_neg (fun z => m (h2.mpr z)), List.length_append, List.length_append, hs]
      rfl
theorem seen_keep {k : κ} : ∀ (ks s : List κ), k ∈ s → k ∈ ks.foldl seenAdd s ∧ (ks.foldl seenAdd s).idxOf k = s.idxOf k
  | [], _, h => ⟨h, rfl⟩
  | x :: ks, s, h => by
    have m : k ∈ seenAdd s x := by
      unfold seenAdd
      split
      · exact h
      · exact List.mem_append_left _ h
    obtain ⟨h1, h2⟩ := seen_keep ks (seenAdd s x) m
    refine ⟨h1, h2.trans ?_⟩
    unfold seenAdd
    split
    · rfl
    · rw [List.idxOf_append, if_pos h]
theorem nums_idx {k : κ} : ∀ (ks s : List κ) (i : Nat), ks[i]? = some k → (numsFrom s ks)[i]? = some ((ks.foldl seenAdd s).idxOf k) ∧ k ∈ ks.foldl seenAdd s
  | [], _, _, h => by simp at h
  | x :: ks, s, i + 1, h => by
    have := nums_idx ks (seenAdd s x) i (by simpa using h)
    simpa [numsFrom] using this
  | x :: ks, s, 0, h => by
    cases h
    have m : k ∈ seenAdd s k := by
      unfold seenAdd
      split
      · assumption
      · simp
    obtain ⟨h1, h2⟩ := seen_keep ks _ m
    refine ⟨?_, h1⟩
    show some (s.idxOf k) = some ((ks.foldl seenAdd (seenAdd s k)).idxOf k)
    rw [h2]
    congr 1
    unfold seenAdd
    split
    · rfl
    · rename_i m'
      rw [List.idxOf_append, if_neg m', List.idxOf_eq_length m']
      simp
theorem numb_iff {ks : List κ} {ls : List ι} (h : ks.length = ls.length) : numb ks = numb ls ↔ ∀ (i j : Nat) (k k' : κ) (l l' : ι), ks[i]? = some k → ks[j]? = some k' → ls[i]? = some l → ls[j]? = some l' → (k = k' ↔ l = l') := by
  constructor
  · intro e i j k k' l l' h1 h2 h3 h4
    obtain ⟨a1, b1⟩ := nums_idx ks [] i h1
    obtain ⟨a2, b2⟩ := nums_idx ks [] j h2
    obtain ⟨a3, b3⟩ := nums_idx ls [] i h3
    obtain ⟨a4, b4⟩ := nums_idx ls [] j h4
    have e' : numsFrom [] ks = numsFrom [] ls := e
    rw [e', a3] at a1
    rw [e', a4] at a2
    have c1 := Option.some.inj a1
    have c2 := Option.some.inj a2
    have inj : ∀ {α : Type} [DecidableEq α] {s : List α} {x y : α}, x ∈ s → s.idxOf x = s.idxOf y → x = y := by
      intro α _ s x y hx q
      have l1 := List.idxOf_lt_length_iff.mpr hx
      have g1 : s[s.idxOf x] = x := List.getElem_idxOf l1
      have g2 : s[s.idxOf y]'(q ▸ l1) = y := List.getElem_idxOf (q ▸ l1)
      rw [← g1, ← g2]
      congr 1
    constructor
    · rintro rfl
      exact inj b3 (c1.trans c2.symm)
    · rintro rfl
      exact inj b1 (c1.symm.trans c2)
  · intro hp
    refine nums_same ks ls [] [] h rfl ?_
    intro p hm q hq
    rw [List.zip_nil_left, List.nil_append] at hm hq
    obtain ⟨i, hi⟩ := List.mem_iff_getElem?.mp hm
    obtain ⟨j, hj⟩ := List.mem_iff_getElem?.mp hq
    obtain ⟨i1, i2⟩ := List.getElem?_zip_eq_some.mp hi
    obtain ⟨j1, j2⟩ := List.getElem?_zip_eq_some.mp hj
    exact hp i j _ _ _ _ i1 j1 i2 j2
end
section
variable {P : Program} {w : World} {K : PySem.W.Frag} {mg : Str → Option Value} {base : Heap}
def nI (l : List Nat) : List Int := l.map fun (n : Nat) => (n : Int)
theorem nI_get {l : List Nat} {i : Nat} : (nI l)[i]? = (l[i]?).map fun (n : Nat) => (n : Int) := List.getElem?_map
theorem numb_len {κ : Type} [DecidableEq κ] (ks : List κ) : (numb ks).length = ks.length := numsFrom_len ks []
theorem numb_get {κ : Type} [DecidableEq κ] {ks : List κ} {i j : Nat} {k k' : κ} {a b : Nat} (h1 : ks[i]? = some k) (h2 : ks[j]? = some k') (h3 : (numb ks)[i]? = some a) (h4 : (numb ks)[j]? = some b) : a = b ↔ k = k' := by
  obtain ⟨a1, b1⟩ := nums_idx ks [] i h1
  obtain ⟨a2, b2⟩ := nums_idx ks [] j h2
  have c1 : some ((ks.foldl seenAdd []).idxOf k) = some a := a1.symm.trans h3
  have c2 : some ((ks.foldl seenAdd []).idxOf k') = some b := a2.symm.trans h4
  cases c1
  cases c2
  constructor
  · intro q
    have l1 := List.idxOf_lt_length_iff.mpr b1
    have g1 : (ks.foldl seenAdd [])[(ks.foldl seenAdd []).idxOf k] = k := List.getElem_idxOf l1
    have g2 : (ks.foldl seenAdd [])[(ks.foldl seenAdd []).idxOf k']'(q ▸ l1) = k' := List.getElem_idxOf (q ▸ l1)
    rw [← g1, ← g2]
    congr 1
  · rintro rfl
    rfl
theorem numb_numb {κ : Type} [DecidableEq κ] (ks : List κ) : numb (nI (numb ks)) = numb ks := by
  have ln : (nI (numb ks)).length = ks.length := by rw [nI, List.length_map, numb_len]
  rw [numb_iff ln]
  intro i j a b k k' h1 h2 h3 h4
  rw [nI_get] at h1 h2
  obtain ⟨x, hx, rfl⟩ := Option.map_eq_some_iff.mp h1
  obtain ⟨y, hy, rfl⟩ := Option.map_eq_some_iff.mp h2
  rw [← numb_get h3 h4 hx hy]
  exact Int.ofNat_inj
def Finer (a b : List Int) : Prop := ∀ (i j : Nat) (l x y : Int), a[i]? = some l → a[j]? = some l → b[i]? = some x → b[j]? = some y → x = y
def Norm (ls : List Int) : Prop := ls = nI (numb ls)
theorem norm_numb {κ : Type} [DecidableEq κ] (ks : List κ) : Norm (nI (numb ks)) := by unfold Norm; rw [numb_numb]
theorem norm_eq {a b : List Int} (ha : Norm a) (hb : Norm b) (l : a.length = b.length) (f : Finer a b) (g : Finer b a) : a = b := by
  rw [ha, hb]
  congr 1
  rw [numb_iff l]
  intro i j k k' x x' h1 h2 h3 h4
  constructor
  · rintro rfl
    exact f i j _ _ _ h1 h2 h3 h4
  · rintro rfl
    exact g i j _ _ _ h3 h4 h1 h2
theorem norm_lt {ls : List Int} (h : Norm ls) : ∀ l ∈ ls, 0 ≤ l ∧ l < ls.length := by
  intro l hl
  rw [h, nI] at hl
  obtain ⟨x, hx, rfl⟩ := List.mem_map.mp hl
  refine ⟨Int.natCast_nonneg _, ?_⟩
  obtain ⟨i, hi⟩ := List.mem_iff_getElem?.mp hx
  have li : i < ls.length := by rw [← numb_len ls]; exact lt_get hi
  obtain ⟨k, hk⟩ := get_lt li
  obtain ⟨a1, b1⟩ := nums_idx ls [] i hk
  have c1 : some ((ls.foldl seenAdd []).idxOf k) = some x := a1.symm.trans hi
  cases c1
  have := List.idxOf_lt_length_iff.mpr b1
  have h2 := seen_le ls []
  simp at h2
  omega
def prs (n : Nat) : List (Nat × Nat) := (List.range n).flatMap fun i => (List.range n).map fun j => (i, j)
theorem prs_mem {n i j : Nat} : (i, j) ∈ prs n ↔ i < n ∧ j < n := by
  unfold prs
  simp
def shar (n : Nat) (ls : List Int) : Nat := (prs n).countP fun p => decide (ls[p.1]? = ls[p.2]?)
theorem count_lt {α : Type} {p q : α → Bool} : ∀ {l : List α}, (∀ x ∈ l, p x = true → q x = true) → (∃ x ∈ l, q x = true ∧ p x = false) → l.countP p < l.countP q
  | [], _, ⟨x, hx, _⟩ => by cases hx
  | y :: l, h, ⟨x, hx, h1, h2⟩ => by
    have hl : ∀ x ∈ l, p x = true → q x = true := fun x hx => h x (List.mem_cons_of_mem _ hx)
    have le : l.countP p ≤ l.countP q := List.countP_mono_left hl
    rw [List.countP_cons, List.countP_cons]
    rcases List.mem_cons.mp hx with rfl | hx
    · rw [h1, h2]
      simp
      omega
    · have := count_lt hl ⟨x, hx, h1, h2⟩
      have hy := h y List.mem_cons_self
      by_cases e : p y = true
      · rw [e, hy e]
        simp
        omega
      · rw [if_neg e]
        split <;> omega
theorem shar_lt {a b : List Int} {n : Nat} (la : a.length = n) (lb : b.length = n) (na : Norm a) (nb : Norm b) (f : Finer a b) (ne : a ≠ b) : shar n a < shar n b := by
  unfold shar
  refine count_lt (fun p hp e => ?_) ?_
  · obtain ⟨i, j⟩ := p
    obtain ⟨hi, hj⟩ := prs_mem.mp hp
    have e' : a[i]? = a[j]? := by simpa using e
    obtain ⟨x, hx⟩ := get_lt (l := a) (i := i) (by omega)
    obtain ⟨y, hy⟩ := get_lt (l := b) (i := i) (by omega)
    obtain ⟨z, hz⟩ := get_lt (l := b) (i := j) (by omega)
    have : b[i]? = b[j]? := by rw [hy, hz, f i j x y z hx (by rw [← e', hx]) hy hz]
    simpa using this
  · refine Classical.byContradiction fun no => ne (norm_eq na nb (by omega) f fun i j l x y e1 e2 e3 e4 => ?_)
    refine Classical.byContradiction fun nxy => no ⟨(i, j), prs_mem.mpr ⟨by rw [← lb]; exact lt_get e1, by rw [← lb]; exact lt_get e2⟩, ?_, ?_⟩
    · simp [e1, e2]
    · simp [e3, e4, nxy]
theorem norm_zeros (n : Nat) : Norm (List.replicate n 0) := by
  have g : ∀ m, numsFrom [(0 : Int)] (List.replicate m 0) = List.replicate m 0 := by
    intro m
    induction m with
    | zero => rfl
    | succ m ih =>
      rw [List.replicate_succ]
      show List.idxOf (0 : Int) [0] :: numsFrom (seenAdd [0] 0) (List.replicate m 0) = _
      rw [show seenAdd [(0 : Int)] 0 = [0] from rfl, ih]
      rfl
  unfold Norm
  cases n with
  | zero => rfl
  | succ n =>
    have : numb (List.replicate (n + 1) (0 : Int)) = List.replicate (n + 1) 0 := by
      rw [List.replicate_succ]
      show List.idxOf (0 : Int) [] :: numsFrom (seenAdd [] 0) (List.replicate n 0) = _
      rw [show seenAdd ([] : List Int) 0 = [0] from rfl, g]
      rfl
    rw [this, nI, List.map_replicate]
    rfl
theorem nI_V (l : List Nat) : (l.map fun (n : Nat) => V.int (n : Int)) = (nI l).map V.int := by rw [nI, List.map_map]; rfl
def WbAt (K : PySem.W.Frag) (H : Hp) (v : V) (us : List Int) (M : List (List Int)) : Prop :=
  ∃ (p h r : Addr) (rs : List Addr), v = .ref p ∧ SqT K H p [.ref h, .ref r] ∧ SqL K H h (us.map V.int) ∧ SqL K H r (rs.map V.ref) ∧ rs.length = M.length ∧ ∀ (j : Nat) (t : Addr) (ws : List Int), rs[j]? = some t → M[j]? = some ws → SqL K H t (ws.map V.int)
theorem WbAt.same {H H' : Hp} {v : V} {us : List Int} {M : List (List Int)} (h : WbAt K H v us M) (s : Same H H') : WbAt K H' v us M := by
  obtain ⟨p, h1, r, rs, e, q1, q2, q3, q4, q5⟩ := h
  exact ⟨p, h1, r, rs, e, s.seqT q1, s.seq q2, s.seq q3, q4, fun j t ws e1 e2 => s.seq (q5 j t ws e1 e2)⟩
theorem way_same {H H' : Hp} {vs : List V} {ws : List (List Int)} (s : Same H H') (h : WAt H vs ws) : WAt H' vs ws := ⟨h.1, fun i v k h1 h2 => by
  obtain ⟨c, e, hc⟩ := h.2 i v k h1 h2
  exact ⟨c, e, s _ _ hc⟩⟩
theorem kKey_same {H H' : Hp} {y : V} {k : KM} (s : Same H H') (h : kKey H y k) : kKey H' y k := by
  obtain ⟨a, e, q, vs, h1, h2, h3⟩ := h
  exact ⟨a, e, q, vs, s _ _ h1, s _ _ h2, way_same s h3⟩
theorem ok_numK {f : Addr} {fd : FuncData} (B : BltP mg) (F : Fun K "numbered" "numbered" sNumbered f fd) : FnOk P w K mg base CX0 1 f fd ["marks"] (spNum K kKey) :=
  ok_num (P := P) (w := w) (base := base) (key := kKey) (obj := kObj P w) (fun X e1 e2 e3 => by subst e1 e2; exact kd_km (by omega)) kKey_same B F
def forBody (s : Stmt) (i : Nat) : Stmt := match s with
  | .For _ _ b _ _ => b.getD i (.Pass ⟨0, 0, 0, 0⟩)
  | _ => .Pass ⟨0, 0, 0, 0⟩
def argAt (e : Expr) (i : Nat) : Expr := match e with
  | .Call _ es _ _ => es.getD i (.Constant .none 0 ⟨0, 0, 0, 0⟩)
  | _ => .Constant .none 0 ⟨0, 0, 0, 0⟩
def rLenK (K : PySem.W.Frag) : List V → Hp → VK → Prop := fun xs H Q => ∃ p ys, xs = [.ref p] ∧ (SqL K H p ys ∨ SqT K H p ys) ∧ Q (.int ys.length) H
theorem call_lenK {X : Cx} (h : X.K = K := by rfl) : CallR X (.builtin "len") (rLenK K) := by subst h; exact call_len_seq
theorem dec_nat (a b : Nat) : decide (V.int (a : Int) = V.int (b : Int)) = decide (a = b) := by
  by_cases h : a = b
  · subst h; simp
  · rw [decide_eq_false h, decide_eq_false]
    intro z
    exact h (Int.ofNat.inj (V.int.inj z))
theorem for_zip {a b : Addr} {xs ys : List V} {g : TG} {tb : TS} {D : Ends} {σ : L2.St} {H : Hp} (e : ys.length = xs.length) (Pv : Nat → L2.St → Hp → Prop) (h0 : Pv 0 σ H) (hl : ∀ i σ H, i ≤ xs.length → Pv i σ H → SqL K H a xs ∧ SqL K H b ys)
    (hs : ∀ (i : Nat) (x y : V) (t : Addr) σ H, xs[i]? = some x → ys[i]? = some y → Pv i σ H → H t = none → g (.ref t) σ (upd H t (.tup [x, y])) fun σ2 H2 => tb { D with nx := Pv (i + 1), ct := Pv (i + 1), bk := D.nx } σ2 H2) (hd : ∀ σ H, Pv xs.length σ H → D.nx σ H) :
    ∃ W : Nat → Nat → L2.St → Hp → Prop, (∃ m, W 0 m σ H) ∧ ∀ i m σ H, W i m σ H →
      ((Itz K a b).stop i H ∧ D.nx σ H) ∨ ((Itz K a b).go i H ∧ ∃ N : L2.St → Hp → Prop, (∀ σ' H', N σ' H' → ∃ m', m' < m ∧ W (i + 1) m' σ' H') ∧ ∀ x H', (Itz K a b).yld i H x H' → g x σ H' fun σ2 H2 => tb { D with nx := N, ct := N, bk := D.nx } σ2 H2) := by
  refine ⟨fun i m σ H => m = xs.length - i ∧ i ≤ xs.length ∧ Pv i σ H, ⟨xs.length, by simp, Nat.zero_le _, h0⟩, ?_⟩
  rintro i m σ H ⟨rfl, hi, p⟩
  obtain ⟨q1, q2⟩ := hl i σ H hi p
  by_cases lt : i < xs.length
  · have lt' : i < ys.length := by omega
    refine .inr ⟨⟨xs, ys, xs[i], ys[i], q1, q2, List.getElem?_eq_getElem lt, List.getElem?_eq_getElem lt'⟩, Pv (i + 1), fun σ' H' p' => ⟨xs.length - (i + 1), by omega, rfl, lt, p'⟩, fun x H' y => ?_⟩
    obtain ⟨t, x1, y1, rfl, ht, rfl, g1, g2⟩ := y
    exact hs i x1 y1 t σ H (g1 xs q1) (g2 ys q2) p ht
  · have ei : i = xs.length := by omega
    subst ei
    exact .inl ⟨⟨xs, ys, q1, q2, .inl (Nat.le_refl _)⟩, hd σ H p⟩
theorem boot_tup : bootBuiltins "tuple" = some (.type "tuple") := by decide +kernel
end
section
variable {P : Program} {w : World} {K : PySem.W.Frag} {mg : Str → Option Value} {base : Heap}
structure BltK (mg : Str → Option Value) : Prop where
  len : mg "len" = none
  zip : mg "zip" = none
  tuple : mg "tuple" = none
  sorted : mg "sorted" = none
  enum : mg "enumerate" = none
  sum : mg "sum" = none
def waysOf (xs ys : List Int) : List (List Int) := (srtP (xs.zip ys)).map fun p => [p.1, p.2]
theorem ways_at {H : Hp} {L : List V} {ps : List (Int × Int)} (h : PsV K H L ps) : WAt H L (ps.map fun p => [p.1, p.2]) := by
  refine ⟨by rw [List.length_map]; exact h.1, fun i v k h1 h2 => ?_⟩
  obtain ⟨p, hp, rfl⟩ := map_get h2
  obtain ⟨a, e, ha⟩ := h.2 i v p h1 hp
  exact ⟨a, e, ha⟩
def spWays (K : PySem.W.Frag) : Sp := fun vs H Q _ => ∃ (a b : Addr) (xs ys : List Int), vs = [.ref a, .ref b] ∧ SqL K H a (xs.map V.int) ∧ SqL K H b (ys.map V.int) ∧ ys.length = xs.length ∧ xs.length ≤ 8 ∧
  ∀ (p : Addr) (L : List V) (H' : Hp), Same H H' → H p = none → H' p = some (.tup L) → WAt H' L (waysOf xs ys) → Q (.ref p) H'
theorem scWays : FnScope ["row", "column"] ["row", "column"] (defScope sWays) := ⟨rfl, rfl, rfl, by decide +kernel, rfl, by decide +kernel, by decide +kernel⟩
theorem ok_ways {f : Addr} {fd : FuncData} (B : BltK mg) (F : Fun K "ways_between" "ways_between" sWays f fd) : FnOk P w K mg base CX0 1 f fd ["row", "column"] (spWays K) := by
  refine F.ok scWays (fun vs H Q E h => ?_) (fun cdv A outer s H vs Q E hr h => ?_)
  · obtain ⟨a, b, xs, ys, rfl, _⟩ := h
    rfl
  · obtain ⟨a, b, xs, ys, rfl, ha, hb, hl, h6, q⟩ := h
    refine ⟨_, pss_one (ps_ret (pe_callTy call_tuple_of (by rfl) B.tuple boot_tup (pa_cons (pe_sortedZip rfl rfl B.zip rfl B.sorted (pa_cons (pv 0) (pa_cons (pv 1) pa_nil))) pa_nil))), ?_⟩
    refine ⟨_, rfl, _, rfl, a, b, xs, ys, rfl, ha, hb, hl, (by omega), fun S L H1 s1 nS eS pS => ⟨S, L, rfl, .inl ⟨SqL.of eS, fun l hl' => ?_⟩⟩⟩
    have s2 : Same H1 (L2.upd H1 l (.tup L)) := Same.upd hl'
    exact q l L _ (Same.trans s1 s2) (Same.free s1 hl') upd_same (way_same s2 (ways_at pS))
def colI (T : List (List Int)) (j : Nat) : List Int := T.map fun r => (r[j]?).getD 0
def rowI (T : List (List Int)) (i : Nat) : List Int := T[i]?.getD []
def mkAt (us : List Int) (M T : List (List Int)) (u v : Nat) : KM := ⟨ent T u v, decide (u = v), ent M u v, us[u]?.getD 0, us[v]?.getD 0, ent T v u, waysOf (rowI T u) (colI T v)⟩
def rowK (us : List Int) (M T : List (List Int)) (u m : Nat) : List KM := (List.range m).map (mkAt us M T u)
def preK (us : List Int) (M T : List (List Int)) (n m : Nat) : List KM := (List.range m).flatMap fun u => rowK us M T u n
def marksT (us : List Int) (M T : List (List Int)) : List KM := preK us M T us.length us.length
theorem rowK_snoc (us : List Int) (M T : List (List Int)) (u m : Nat) : rowK us M T u (m + 1) = rowK us M T u m ++ [mkAt us M T u m] := by
  unfold rowK
  rw [List.range_succ, List.map_append]
  rfl
theorem preK_snoc (us : List Int) (M T : List (List Int)) (n m : Nat) : preK us M T n (m + 1) = preK us M T n m ++ rowK us M T m n := by
  unfold preK
  rw [List.range_succ, List.flatMap_append]
  simp
theorem rowK_len (us : List Int) (M T : List (List Int)) (u m : Nat) : (rowK us M T u m).length = m := by
  unfold rowK
  rw [List.length_map, List.length_range]
theorem preK_len (us : List Int) (M T : List (List Int)) (n : Nat) : ∀ m, (preK us M T n m).length = m * n
  | 0 => by simp [preK]
  | m + 1 => by rw [preK_snoc, List.length_append, preK_len us M T n m, rowK_len, Nat.succ_mul]
theorem marksT_len (us : List Int) (M T : List (List Int)) : (marksT us M T).length = us.length * us.length := preK_len us M T _ _
def SqI (n : Nat) (T : List (List Int)) : Prop := T.length = n ∧ ∀ r ∈ T, r.length = n
theorem SqI.row {n : Nat} {T : List (List Int)} (h : SqI n T) {i : Nat} (hi : i < n) : T[i]? = some (rowI T i) ∧ (rowI T i).length = n := by
  obtain ⟨r, hr⟩ := get_lt (l := T) (i := i) (by rw [h.1]; exact hi)
  unfold rowI
  rw [hr]
  exact ⟨rfl, h.2 r (List.mem_of_getElem? hr)⟩
theorem SqI.ent {n : Nat} {T : List (List Int)} (h : SqI n T) {i j : Nat} (hi : i < n) (hj : j < n) : (rowI T i)[j]? = some (ent T i j) := by
  obtain ⟨r, hr⟩ := get_lt (l := rowI T i) (i := j) (by rw [(h.row hi).2]; exact hj)
  rw [hr]
  unfold My.ent
  show _ = some (((rowI T i)[j]?).getD 0)
  rw [hr]
  rfl
theorem colI_len (T : List (List Int)) (j : Nat) : (colI T j).length = T.length := by unfold colI; rw [List.length_map]
theorem cols_I {n : Nat} {T : List (List Int)} (h : SqI n T) : colsV (gI T) n = gI ((List.range n).map (colI T)) := by
  unfold colsV gI
  rw [List.map_map]
  refine List.map_congr_left fun j hj => ?_
  have hj := List.mem_range.mp hj
  show _ = (colI T j).map V.int
  unfold colI
  rw [List.map_map, List.map_map]
  refine List.map_congr_left fun r hr => ?_
  obtain ⟨z, hz⟩ := get_lt (l := r) (i := j) (by rw [h.2 r hr]; exact hj)
  show ((r.map V.int)[j]?).getD .non = V.int ((r[j]?).getD 0)
  rw [List.getElem?_map, hz]
  rfl
def KeysAt (H : Hp) (ys : List V) (ks : List KM) : Prop := ys.length = ks.length ∧ ∀ (j : Nat) (y : V) (k : KM), ys[j]? = some y → ks[j]? = some k → kKey H y k
theorem KeysAt.same {H H' : Hp} {ys : List V} {ks : List KM} (h : KeysAt H ys ks) (s : Same H H') : KeysAt H' ys ks := ⟨h.1, fun j y k h1 h2 => kKey_same s (h.2 j y k h1 h2)⟩
theorem KeysAt.nil {H : Hp} : KeysAt H [] [] := ⟨rfl, fun j y k h => by simp at h⟩
theorem KeysAt.snoc {H : Hp} {ys : List V} {ks : List KM} {y : V} {k : KM} (h : KeysAt H ys ks) (hk : kKey H y k) : KeysAt H (ys ++ [y]) (ks ++ [k]) := by
  refine ⟨by rw [List.length_append, List.length_append, h.1]; rfl, fun j y' k' h1 h2 => ?_⟩
  rcases snoc_get h1 with z | ⟨e, z⟩
  · rcases snoc_get h2 with z2 | ⟨e2, _⟩
    · exact h.2 j y' k' z z2
    · have := lt_get z
      rw [h.1] at this
      omega
  · rcases snoc_get h2 with z2 | ⟨_, z2⟩
    · have := lt_get z2
      rw [← h.1] at this
      omega
    · rw [z, z2]
      exact hk
theorem KeysAt.app {H : Hp} {ys ys' : List V} {ks ks' : List KM} (h : KeysAt H ys ks) (h' : KeysAt H ys' ks') : KeysAt H (ys ++ ys') (ks ++ ks') := by
  refine ⟨by rw [List.length_append, List.length_append, h.1, h'.1], fun j y k h1 h2 => ?_⟩
  by_cases hj : j < ys.length
  · rw [List.getElem?_append_left hj] at h1
    rw [List.getElem?_append_left (by rw [← h.1]; exact hj)] at h2
    exact h.2 j y k h1 h2
  · rw [List.getElem?_append_right (by omega)] at h1
    rw [List.getElem?_append_right (by rw [← h.1]; omega), ← h.1] at h2
    exact h'.2 _ y k h1 h2
theorem kKey_upd {H : Hp} {D : Addr} {l l' : List V} {y : V} {k : KM} (e : H D = some (.lst l)) (h : kKey H y k) : kKey (upd H D (.lst l')) y k := by
  obtain ⟨a, ea, q, vs, h1, h2, h3, h4⟩ := h
  have ne : ∀ {b : Addr} {xs : List V}, H b = some (.tup xs) → b ≠ D := fun h z => by subst z; rw [e] at h; cases h
  refine ⟨a, ea, q, vs, by rw [upd_ne (ne h1)]; exact h1, by rw [upd_ne (ne h2)]; exact h2, h3, fun i v k' e1 e2 => ?_⟩
  obtain ⟨c, ec, hc⟩ := h4 i v k' e1 e2
  exact ⟨c, ec, by rw [upd_ne (ne hc)]; exact hc⟩
theorem KeysAt.upd {H : Hp} {D : Addr} {l l' : List V} {ys : List V} {ks : List KM} (e : H D = some (.lst l)) (h : KeysAt H ys ks) : KeysAt (L2.upd H D (.lst l')) ys ks := ⟨h.1, fun j y k h1 h2 => kKey_upd e (h.2 j y k h1 h2)⟩
structure WbN (K : PySem.W.Frag) (H : Hp) (v : V) (n : Nat) (W : List Int × List (List Int)) : Prop where
  wb : WbAt K H v W.1 W.2
  len : W.1.length = n
  sq : SqI n W.2
theorem WbN.same {H H' : Hp} {v : V} {n : Nat} {W : List Int × List (List Int)} (h : WbN K H v n W) (s : Same H H') : WbN K H' v n W := ⟨h.wb.same s, h.len, h.sq⟩
def spMarks (K : PySem.W.Frag) : Sp := fun vs H Q _ => ∃ (v : V) (a : Addr) (n : Nat) (W : List Int × List (List Int)) (T : List (List Int)), vs = [v, .ref a] ∧ WbN K H v n W ∧ GrdAt H a (gI T) ∧ SqI n T ∧ n ≤ 8 ∧
  ∀ (D : Addr) (ys : List V) (H' : Hp), Same H H' → H D = none → H' D = some (.lst ys) → KeysAt H' ys (marksT W.1 W.2 T) → Q (.ref D) H'
abbrev nMarks : List Str := ["web", "kinds", "hues", "columns", "marks", "u", "row", "v", "column", "turned_kind"]
theorem scMarks : FnScope nMarks ["web", "kinds"] (defScope sMarks) := ⟨rfl, rfl, rfl, by decide +kernel, rfl, by decide +kernel, by decide +kernel⟩
theorem gI_row {M : List (List Int)} {rs : List Addr} {H : Hp} (R : GrdV H rs (gI M)) {n : Nat} (h : SqI n M) {i : Nat} (hi : i < n) : ∃ r, rs[i]? = some r ∧ H r = some (.lst ((rowI M i).map V.int)) := by
  obtain ⟨r, hr⟩ := get_lt (l := rs) (i := i) (by rw [R.len, gI_len, h.1]; exact hi)
  exact ⟨r, hr, R.row i r _ hr (gI_get (h.row hi).1)⟩
theorem at_rowI {n : Nat} {T : List (List Int)} (h : SqI n T) {i j : Nat} (hi : i < n) (hj : j < n) : atI ((rowI T i).map V.int) (j : Int) = some (.int (ent T i j)) := atI_nat (by rw [List.getElem?_map, h.ent hi hj]; rfl)
theorem gI_sq {n : Nat} {T : List (List Int)} (h : SqI n T) : ∀ x ∈ gI T, x.length = n := by
  intro x hx
  obtain ⟨r, hr, rfl⟩ := List.mem_map.mp hx
  rw [List.length_map]
  exact h.2 r hr
theorem ok_marks {f fC fW : Addr} {fd fdC fdW : FuncData} (B : BltK mg) (F : Fun K "marks_of_pairs" "marks_of_pairs" sMarks f fd) (DC : Dn K mg "columns_of" sCols ["rows"] fC fdC) (GC : FnOk P w K mg base CX0 2 fC fdC ["rows"] spCols)
    (DW : Dn K mg "ways_between" sWays ["row", "column"] fW fdW) (GW : FnOk P w K mg base CX0 1 fW fdW ["row", "column"] (spWays K)) : FnOk P w K mg base CX0 3 f fd ["web", "kinds"] (spMarks K) := by
  refine F.ok scMarks (fun vs H Q E h => ?_) (fun cdv A outer s H vs Q E hr h => ?_)
  · obtain ⟨v, a, n, W, T, rfl, _⟩ := h
    rfl
  · obtain ⟨v, a, n, ⟨us, M⟩, T, rfl, hW, hT, hS, hn, q⟩ := h
    obtain ⟨⟨p, hA, rA, rs, rfl, hp, hh, hR, lR, hrow⟩, lu, sM⟩ := hW
    obtain ⟨ts, ha, GT⟩ := hT
    have lu' : us.length = n := lu
    have sM' : SqI n M := sM
    refine ⟨_, pss_cons (ps_set (i := 2) scMarks.nd rfl (Or.inl rfl) (pe_ix ix_tup (pv 0) pe_int (fun _ _ => rfl)))
      (pss_cons (ps_set (i := 3) scMarks.nd rfl (Or.inl rfl) (pe_fn DC GC hr rfl (pa_cons (pv 1) pa_nil)))
      (pss_cons (ps_set (i := 4) scMarks.nd rfl (Or.inl rfl) (pe_lst pa_nil))
      (pss_cons (ps_for PassesOwn.never rfl (pi_enum rfl B.enum (pa_cons (pv 1) pa_nil)) (pg_tup rfl (pgs_cons (pg_name (i := 5) scMarks.nd rfl (Or.inl rfl)) (pgs_cons (pg_name (i := 6) scMarks.nd rfl (Or.inl rfl)) pgs_nil)))
        (pss_one (ps_for PassesOwn.never rfl (pi_enum rfl B.enum (pa_cons (pv 3) pa_nil)) (pg_tup rfl (pgs_cons (pg_name (i := 7) scMarks.nd rfl (Or.inl rfl)) (pgs_cons (pg_name (i := 8) scMarks.nd rfl (Or.inl rfl)) pgs_nil)))
          (pss_cons (ps_set (i := 9) scMarks.nd rfl (Or.inl rfl) (pe_ix ix_list (pe_ix ix_list (pv 1) (pv 7) (fun _ _ => rfl)) (pv 5) (fun _ _ => rfl)))
          (pss_one (ps_expr (pe_bm PySem.F.plainAttrs_list PySem.F.slot_list_append PySem.F.type_list_append mt_append (pv 4)
            (pa_cons (pe_tup (pa_cons (pe_ix ix_list (pv 6) (pv 7) (fun _ _ => rfl)) (pa_cons (pe_cmpR op_eq (pv 5) (pv 7) (nomark _)) (pa_cons (pe_ix ix_list (pe_ix ix_list (pe_ix ix_tup (pv 0) pe_int (fun _ _ => rfl)) (pv 5) (fun _ _ => rfl)) (pv 7) (fun _ _ => rfl))
              (pa_cons (pe_ix ix_list (pv 2) (pv 5) (fun _ _ => rfl)) (pa_cons (pe_ix ix_list (pv 2) (pv 7) (fun _ _ => rfl)) (pa_cons (pv 9) (pa_cons (pe_fn DW GW (hr.mono (by decide)) rfl (pa_cons (pv 6) (pa_cons (pv 8) pa_nil))) pa_nil)))))))) pa_nil))))))))
      (pss_one (ps_ret (pv 4)))))), ?_⟩
    refine ⟨_, rfl, p, _, _, _, rfl, rfl, hp, rfl, ?_⟩
    refine ⟨_, rfl, a, gI T, n, rfl, ⟨ts, ha, GT⟩, by rw [gI_len, hS.1]; omega, by omega, gI_sq hS, fun z => by rw [← hS.1, ← gI_len, z]; rfl, fun C H1 s1 nC gC => ?_⟩
    rw [cols_I hS] at gC
    obtain ⟨cs, eC, GC1⟩ := gC
    have lC : cs.length = n := by rw [GC1.len, gI_len, List.length_map, List.length_range]
    refine ⟨Nat.zero_le _, fun D hD => ?_⟩
    have s2 : Same H (L2.upd H1 D (.lst [])) := s1.trans (Same.upd hD)
    have e2 : L2.upd H1 D (.lst []) D = some (.lst []) := upd_same
    have s12 : Same H1 (L2.upd H1 D (.lst [])) := Same.upd hD
    have nD : H D = none := s1.free hD
    generalize L2.upd H1 D (.lst []) = H2 at s2 e2 s12 ⊢
    have lts : (ts.map V.ref).length = n := by rw [List.length_map, GT.len, gI_len, hS.1]
    refine ⟨_, rfl, a, rfl, ⟨_, SqL.of (s2 _ _ ha)⟩, for_enum (K := K) (xs := ts.map V.ref) (fun i σ H' => ∃ (o5 o6 o7 o8 o9 : Option V) (ys : List V), σ = [some (.ref p), some (.ref a), some (.ref hA), some (.ref C), some (.ref D), o5, o6, o7, o8, o9] ∧ Same H H' ∧ (∀ b o, H1 b = some o → H' b = some o) ∧ H' D = some (.lst ys) ∧ KeysAt H' ys (preK us M T n i)) ?_ ?_ ?_ ?_⟩
    · exact ⟨none, none, none, none, none, [], rfl, s2, s12, e2, .nil⟩
    · rintro i σ H' _ ⟨o5, o6, o7, o8, o9, ys, rfl, s3, _⟩
      exact SqL.of (s3 _ _ ha)
    · rintro u x t σ H3 hx ⟨o5, o6, o7, o8, o9, ys, rfl, s3, s13, eD, kD⟩ ht
      obtain ⟨r, hr', rfl⟩ := map_get hx
      have hu : u < n := by rw [← lts]; exact lt_get hx
      obtain ⟨r1, hr1, er⟩ := gI_row GT hS hu
      rw [hr'] at hr1
      cases hr1
      refine ⟨t, _, rfl, SqT.of upd_same, rfl, _, _, rfl, _, _, rfl, rfl, ?_⟩
      have s4 : Same H3 (L2.upd H3 t (.tup [.int (u : Int), .ref r])) := Same.upd ht
      generalize L2.upd H3 t (.tup [.int (u : Int), .ref r]) = H4 at s4 ⊢
      have lcs : (cs.map V.ref).length = n := by rw [List.length_map, lC]
      refine ⟨_, rfl, C, rfl, ⟨_, SqL.of (s4 _ _ (s13 _ _ eC))⟩, for_enum (K := K) (xs := cs.map V.ref) (fun j σ H' => ∃ (o7 o8 o9 : Option V) (ys : List V), σ = [some (.ref p), some (.ref a), some (.ref hA), some (.ref C), some (.ref D), some (.int (u : Int)), some (.ref r), o7, o8, o9] ∧ Same H H' ∧ (∀ b o, H1 b = some o → H' b = some o) ∧ H' D = some (.lst ys) ∧ KeysAt H' ys (preK us M T n u ++ rowK us M T u j)) ?_ ?_ ?_ ?_⟩
      · refine ⟨_, _, _, ys, rfl, s3.trans s4, fun b o e => s4 _ _ (s13 _ _ e), s4 _ _ eD, ?_⟩
        show KeysAt H4 ys (_ ++ [])
        rw [List.append_nil]
        exact kD.same s4
      · rintro j σ H' _ ⟨o7, o8, o9, ys, rfl, _, s5, _⟩
        exact SqL.of (s5 _ _ eC)
      · rintro j x t2 σ H5 hx ⟨o7, o8, o9, ys, rfl, s5, s15, eD5, kD5⟩ ht2
        obtain ⟨c, hc, rfl⟩ := map_get hx
        have hj : j < n := by rw [← lcs]; exact lt_get hx
        refine ⟨t2, _, rfl, SqT.of upd_same, rfl, _, _, rfl, _, _, rfl, rfl, ?_⟩
        have s6 : Same H5 (L2.upd H5 t2 (.tup [.int (j : Int), .ref c])) := Same.upd ht2
        generalize L2.upd H5 t2 (.tup [.int (j : Int), .ref c]) = H6 at s6 ⊢
        have t6 : Same H H6 := s5.trans s6
        have t16 : ∀ b o, H1 b = some o → H6 b = some o := fun b o e => s6 _ _ (s15 _ _ e)
        have eD6 := s6 _ _ eD5
        have kD6 := kD5.same s6
        obtain ⟨r2, hr2, er2⟩ := gI_row GT hS hj
        obtain ⟨m, hm⟩ := get_lt (l := rs) (i := u) (by rw [lR, sM'.1]; exact hu)
        have em := hrow u m _ hm (sM'.row hu).1
        have ec : H1 c = some (.lst ((colI T j).map V.int)) := by
          refine GC1.row j c _ hc (gI_get ?_)
          rw [List.getElem?_map, List.getElem?_range hj]
          rfl
        obtain ⟨hU, ehU⟩ := get_lt (l := us) (i := u) (by rw [lu']; exact hu)
        obtain ⟨hV, ehV⟩ := get_lt (l := us) (i := j) (by rw [lu']; exact hj)
        refine ⟨_, rfl, _, rfl, a, _, _, _, rfl, rfl, SqL.of (t6 _ _ ha), at_ref hr2, _, rfl, r2, _, _, _, rfl, rfl, SqL.of (t6 _ _ er2), at_rowI hS hj hu, ?_⟩
        refine ⟨_, rfl, .inl ⟨rfl, _, SqL.of eD6⟩, ?_⟩
        refine ⟨_, rfl, _, rfl, r, _, _, _, rfl, rfl, SqL.of (t6 _ _ er), at_rowI hS hu hj, ?_⟩
        refine ⟨_, rfl, _, rfl, rfl, ?_⟩
        refine ⟨_, rfl, p, _, _, _, rfl, rfl, t6.seqT hp, rfl, _, rfl, rA, _, _, _, rfl, rfl, t6.seq hR, at_ref hm, _, rfl, m, _, _, _, rfl, rfl, t6.seq em, at_rowI sM' hu hj, ?_⟩
        refine ⟨_, rfl, _, rfl, hA, _, _, _, rfl, rfl, t6.seq hh, atI_nat (by rw [List.getElem?_map, ehU]; rfl), ?_⟩
        refine ⟨_, rfl, _, rfl, hA, _, _, _, rfl, rfl, t6.seq hh, atI_nat (by rw [List.getElem?_map, ehV]; rfl), ?_⟩
        refine ⟨_, rfl, _, rfl, _, rfl, r, c, rowI T u, colI T j, rfl, SqL.of (t6 _ _ er), SqL.of (t16 _ _ ec), by rw [colI_len, hS.1, (hS.row hu).2], by rw [(hS.row hu).2]; exact hn, fun wp wL H7 s7 nw ew kw => ?_⟩
        refine ⟨(by show 7 ≤ sizeLine; decide), fun tm htm => ?_⟩
        rw [dec_nat]
        have s8 : Same H7 (L2.upd H7 tm (.tup [.int (ent T u j), .bl (decide (u = j)), .int (ent M u j), .int hU, .int hV, .int (ent T j u), .ref wp])) := Same.upd htm
        have e8 : L2.upd H7 tm (.tup [.int (ent T u j), .bl (decide (u = j)), .int (ent M u j), .int hU, .int hV, .int (ent T j u), .ref wp]) tm = some (.tup [.int (ent T u j), .bl (decide (u = j)), .int (ent M u j), .int hU, .int hV, .int (ent T j u), .ref wp]) := upd_same
        generalize L2.upd H7 tm (.tup [.int (ent T u j), .bl (decide (u = j)), .int (ent M u j), .int hU, .int hV, .int (ent T j u), .ref wp]) = H8 at s8 e8 ⊢
        have key : kKey H8 (.ref tm) (mkAt us M T u j) := by
          refine ⟨tm, rfl, wp, wL, ?_, s8 _ _ ew, way_same s8 kw⟩
          show H8 tm = some (.tup [.int (ent T u j), .bl (decide (u = j)), .int (ent M u j), .int (us[u]?.getD 0), .int (us[j]?.getD 0), .int (ent T j u), .ref wp])
          rw [ehU, ehV]
          exact e8
        have eD8 := s8 _ _ (s7 _ _ eD6)
        have kD8 := ((kD6.same s7).same s8).snoc key
        have ly : ys.length ≤ 900 := by
          rw [kD5.1, List.length_append, preK_len, rowK_len]
          have : u * n ≤ 8 * 8 := Nat.mul_le_mul (by omega) hn
          omega
        refine ⟨D, _, _, rfl, rfl, eD8, small1000 (by omega), ?_⟩
        refine ⟨_, _, _, ys ++ [.ref tm], rfl, fun b o e => ?_, fun b o e => ?_, upd_same, ?_⟩
        · rw [upd_ne (ne_of_none e nD)]
          exact s8 _ _ (s7 _ _ (t6 _ _ e))
        · rw [upd_ne (ne_of_none e hD)]
          exact s8 _ _ (s7 _ _ (t16 _ _ e))
        · rw [rowK_snoc, ← List.append_assoc]
          exact kD8.upd eD8
      · rintro σ H5 ⟨o7, o8, o9, ys, rfl, s5, s15, eD5, kD5⟩
        rw [lcs, ← preK_snoc] at kD5
        exact ⟨_, _, _, _, _, ys, rfl, s5, s15, eD5, kD5⟩
    · rintro σ H3 ⟨o5, o6, o7, o8, o9, ys, rfl, s3, s13, eD, kD⟩
      rw [lts] at kD
      refine ⟨_, rfl, q D ys H3 s3 nD eD ?_⟩
      show KeysAt H3 ys (preK us M T us.length us.length)
      rw [lu']
      exact kD
end
section
variable {P : Program} {w : World} {K : PySem.W.Frag} {mg : Str → Option Value} {base : Heap}
abbrev WebD := List Int × List (List Int)
def WsAt (K : PySem.W.Frag) (H : Hp) (a : Addr) (Ws : List WebD) : Prop := ∃ vs : List V, H a = some (.lst vs) ∧ vs.length = Ws.length ∧ ∀ (i : Nat) (v : V) (W : WebD), vs[i]? = some v → Ws[i]? = some W → WbN K H v W.1.length W
theorem WsAt.same {H H' : Hp} {a : Addr} {Ws : List WebD} (h : WsAt K H a Ws) (s : Same H H') : WsAt K H' a Ws := by
  obtain ⟨vs, h1, h2, h3⟩ := h
  exact ⟨vs, s _ _ h1, h2, fun i v W e1 e2 => (h3 i v W e1 e2).same s⟩
def TsAt (H : Hp) (b : Addr) (Ts : List (List (List Int))) : Prop := ∃ ts : List Addr, H b = some (.lst (ts.map V.ref)) ∧ ts.length = Ts.length ∧ ∀ (i : Nat) (t : Addr) (T : List (List Int)), ts[i]? = some t → Ts[i]? = some T → GrdAt H t (gI T)
def TsN (H0 H : Hp) (b : Addr) (Ts : List (List (List Int))) : Prop := H0 b = none ∧ ∃ ts : List Addr, H b = some (.lst (ts.map V.ref)) ∧ ts.length = Ts.length ∧ ∀ (i : Nat) (t : Addr) (T : List (List Int)), ts[i]? = some t → Ts[i]? = some T → GrdN H0 H t (gI T)
theorem TsN.at {H0 H : Hp} {b : Addr} {Ts : List (List (List Int))} (h : TsN H0 H b Ts) : TsAt H b Ts := by
  obtain ⟨_, ts, h1, h2, h3⟩ := h
  exact ⟨ts, h1, h2, fun i t T e1 e2 => (h3 i t T e1 e2).at⟩
theorem TsN.back {H0 H1 H : Hp} {b : Addr} {Ts : List (List (List Int))} (h : TsN H1 H b Ts) (s : Same H0 H1) : TsN H0 H b Ts := by
  obtain ⟨a, ts, h1, h2, h3⟩ := h
  exact ⟨s.free a, ts, h1, h2, fun i t T e1 e2 => (h3 i t T e1 e2).back s⟩
def kindsAll (Ts : List (List (List Int))) : List Int := (Ts.map List.flatten).flatten
theorem lc_zipP {a b : Addr} {xs ys : List V} {te : TE} {Q : VK} {σ : L2.St} {n : Nat} {H1 : Hp} (Pv : Addr → Nat → List V → Hp → Prop) (hn : σ.length = n) (hly : ys.length = xs.length) (h0 : ∀ D, H1 D = none → Pv D 0 [] (upd H1 D (.lst [])))
    (hl : ∀ D i zs H', H1 D = none → i ≤ xs.length → Pv D i zs H' → SqL K H' a xs ∧ SqL K H' b ys ∧ H' D = some (.lst zs))
    (hs : ∀ (D : Addr) (i : Nat) (x y : V) (t : Addr) zs H', H1 D = none → xs[i]? = some x → ys[i]? = some y → Pv D i zs H' → H' t = none → te (σ ++ [some x, some y]) (upd H' t (.tup [x, y])) fun u H3 => H3 D = some (.lst zs) ∧ zs.length < sizeLine ∧ Pv D (i + 1) (zs ++ [u]) (upd H3 D (.lst (zs ++ [u]))))
    (hd : ∀ D zs H', H1 D = none → Pv D xs.length zs H' → Q (.ref D) H')
    (mono : ∀ σ H Q Q', (∀ v H1, Q v H1 → Q' v H1) → te σ H Q → te σ H Q') : LcW 2 (Itz K a b) (g2 K n) tYes te σ H1 Q := by
  subst hn
  intro D hD
  refine ⟨fun i m zs H' => m = xs.length - i ∧ i ≤ xs.length ∧ Pv D i zs H', ⟨xs.length, by simp, Nat.zero_le _, h0 D hD⟩, ?_⟩
  rintro i m zs H2 ⟨rfl, hi, pv⟩
  obtain ⟨hx, hy, eD⟩ := hl D i zs H2 hD hi pv
  refine ⟨eD, ?_⟩
  by_cases hlt : i < xs.length
  · have ex : xs[i]? = some xs[i] := List.getElem?_eq_getElem (by omega)
    have ey : ys[i]? = some (ys[i]'(by omega)) := List.getElem?_eq_getElem (by omega)
    refine .inr ⟨⟨xs, ys, _, _, hx, hy, ex, ey⟩, ?_⟩
    rintro z H3 ⟨t, x, y, rfl, ht, rfl, hx', hy'⟩ os los
    have hx1 := hx' xs hx
    have hy1 := hy' ys hy
    match os, los with
    | [o1, o2], _ =>
      refine ⟨t, [x, y], rfl, SqT.of upd_same, rfl, x, [y], rfl, y, [], rfl, rfl, ⟨[some x, some y], set2 σ o1 o2 x y, rfl⟩, ?_⟩
      dsimp only [tYes]
      rw [if_pos rfl, set2 σ o1 o2 x y]
      refine mono _ _ _ _ ?_ (hs D i x y t zs H2 hD hx1 hy1 pv ht)
      rintro u H5 ⟨e5, z5, p5⟩
      exact ⟨e5, z5, xs.length - (i + 1), by omega, rfl, hlt, p5⟩
  · have : i = xs.length := by omega
    subst this
    exact .inl ⟨⟨xs, ys, hx, hy, .inl (by omega)⟩, hd D zs H2 hD pv⟩
def marksAll (Ws : List WebD) (Ts : List (List (List Int))) : List KM := (List.zipWith (fun W T => marksT W.1 W.2 T) Ws Ts).flatten
def Fit (Ws : List WebD) (Ts : List (List (List Int))) : Prop := Ts.length = Ws.length ∧ Ws.length ≤ 8 ∧ ∀ (i : Nat) (W : WebD) (T : List (List Int)), Ws[i]? = some W → Ts[i]? = some T → W.1.length ≤ 8 ∧ SqI W.1.length T
theorem marks_bound : ∀ (Ws : List WebD) (Ts : List (List (List Int))), (∀ (i : Nat) (W : WebD) (T : List (List Int)), Ws[i]? = some W → Ts[i]? = some T → W.1.length ≤ 8) → (marksAll Ws Ts).length ≤ 64 * Ws.length
  | [], _, _ => by simp [marksAll]
  | _ :: _, [], _ => by simp [marksAll]
  | W :: Ws, T :: Ts, h => by
    have ih := marks_bound Ws Ts fun i W' T' h1 h2 => h (i + 1) W' T' h1 h2
    have h0 := h 0 W T rfl rfl
    have e : marksAll (W :: Ws) (T :: Ts) = marksT W.1 W.2 T ++ marksAll Ws Ts := rfl
    have : W.1.length * W.1.length ≤ 8 * 8 := Nat.mul_le_mul h0 h0
    rw [e, List.length_append, marksT_len, List.length_cons]
    omega
def KGrd (H1 : Hp) (D : Addr) (ms : List (List KM)) (i : Nat) (zs : List V) (H' : Hp) : Prop := ∃ (rs : List Addr) (X : List (List V)), zs = rs.map V.ref ∧ rs.length = i ∧ X.length = i ∧ Same H1 H' ∧ H' D = some (.lst zs) ∧ (∀ r ∈ rs, r ≠ D) ∧
  (∀ (j : Nat) (r : Addr) (x : List V), rs[j]? = some r → X[j]? = some x → H' r = some (.lst x)) ∧ ∀ (j : Nat) (x : List V) (k : List KM), X[j]? = some x → ms[j]? = some k → KeysAt H' x k
theorem keys_flat {H : Hp} : ∀ {X : List (List V)} {ms : List (List KM)}, X.length = ms.length → (∀ (j : Nat) (x : List V) (k : List KM), X[j]? = some x → ms[j]? = some k → KeysAt H x k) → KeysAt H X.flatten ms.flatten
  | [], [], _, _ => .nil
  | [], _ :: _, h, _ => by simp at h
  | _ :: _, [], h, _ => by simp at h
  | x :: X, k :: ms, h, hk => by
    rw [List.flatten_cons, List.flatten_cons]
    exact (hk 0 x k rfl rfl).app (keys_flat (by simpa using h) fun j x' k' h1 h2 => hk (j + 1) x' k' h1 h2)
def spSplitK (K : PySem.W.Frag) : Sp := fun vs H Q _ => ∃ (a b : Addr) (Ws : List WebD) (Ts : List (List (List Int))), vs = [.ref a, .ref b] ∧ WsAt K H a Ws ∧ TsAt H b Ts ∧ Fit Ws Ts ∧
  ∀ D H', Same H H' → H D = none → H' D = some (.lst ((numb (marksAll Ws Ts)).map fun (n : Nat) => V.int (n : Int))) → Q (.ref D) H'
abbrev nSplitK : List Str := ["webs", "tables", "marks"]
theorem scSplitK : FnScope nSplitK ["webs", "tables"] (defScope sSplit) := ⟨rfl, rfl, rfl, by decide +kernel, rfl, by decide +kernel, by decide +kernel⟩
theorem lcSplitK : LcScopes (defScope sSplit) nSplitK (lcScope (asgVal (bodyAt sSplit 0))) ["web", "kinds"] := ⟨by decide +kernel, rfl, by decide +kernel, by decide +kernel, by decide +kernel, by decide +kernel, by decide +kernel, by decide +kernel, by decide +kernel, by decide +kernel⟩
theorem ok_splitK {f fM fI fN : Addr} {fd fdM fdI fdN : FuncData} (B : BltK mg) (F : Fun K "split_kinds" "split_kinds" sSplit f fd) (DM : Dn K mg "marks_of_pairs" sMarks ["web", "kinds"] fM fdM) (GM : FnOk P w K mg base CX0 3 fM fdM ["web", "kinds"] (spMarks K))
    (DI : Dn K mg "in_one_list" sInOne ["rows"] fI fdI) (GI : FnOk P w K mg base CX0 1 fI fdI ["rows"] spInOne) (DN : Dn K mg "numbered" sNumbered ["marks"] fN fdN) (GN : FnOk P w K mg base CX0 1 fN fdN ["marks"] (spNum K kKey)) : FnOk P w K mg base CX0 4 f fd ["webs", "tables"] (spSplitK K) := by
  refine F.ok scSplitK (fun vs H Q E h => ?_) (fun cdv A outer s H vs Q E hr h => ?_)
  · obtain ⟨a, b, Ws, Ts, rfl, _⟩ := h
    rfl
  · obtain ⟨a, b, Ws, Ts, rfl, ⟨vs, ha, lv, hW⟩, ⟨ts, hb, lt, hT⟩, ⟨lT, l8, fit⟩, q⟩ := h
    refine ⟨_, pss_cons (ps_setLcs (i := 2) scSplitK.nd rfl (Or.inl rfl) rfl lcSplitK rfl (pi_zip rfl B.zip (pa_cons (pv 0) (pa_cons (pv 1) pa_nil))) (pg_two rfl lcSplitK) (fun _ _ _ => pts_nil) (fun _ _ _ => pe_fn DM GM hr rfl (pa_cons (pv 3) (pa_cons (pv 4) pa_nil))))
      (pss_one (ps_ret (pe_fn DN GN (hr.mono (by decide)) rfl (pa_cons (pe_fn DI GI (hr.mono (by decide)) rfl (pa_cons (pv 2) pa_nil)) pa_nil)))), ?_⟩
    refine ⟨_, rfl, _, rfl, a, b, rfl, ⟨_, SqL.of ha⟩, ⟨_, SqL.of hb⟩, ?_⟩
    have lm : (List.zipWith (fun (W : WebD) T => marksT W.1 W.2 T) Ws Ts).length = Ws.length := by rw [List.length_zipWith, lT, Nat.min_self]
    refine lc_zipP (K := K) (xs := vs) (ys := ts.map V.ref) (fun D i zs H' => KGrd H D (List.zipWith (fun (W : WebD) T => marksT W.1 W.2 T) Ws Ts) i zs H') rfl (by rw [List.length_map, lt, lv, lT]) ?_ ?_ ?_ ?_ ?_
    · intro D hD
      exact ⟨[], [], rfl, rfl, rfl, Same.upd hD, upd_same, (fun r h => by cases h), (fun j r x h _ => by simp at h), fun j x k h _ => by simp at h⟩
    · rintro D i zs H' hD _ ⟨rs, X, _, _, _, s', eD, _⟩
      exact ⟨SqL.of (s' _ _ ha), SqL.of (s' _ _ hb), eD⟩
    · rintro D i x y t zs H' hD hx hy ⟨rs, X, rfl, lr, lX, s', eD, nD, hr', hk⟩ ht
      obtain ⟨ta, hta, rfl⟩ := map_get hy
      obtain ⟨W, hW'⟩ := get_lt (l := Ws) (i := i) (by rw [← lv]; exact lt_get hx)
      obtain ⟨T, hT'⟩ := get_lt (l := Ts) (i := i) (by rw [← lt]; exact lt_get hta)
      obtain ⟨f1, f2⟩ := fit i W T hW' hT'
      have s2 : Same H' (L2.upd H' t (.tup [x, .ref ta])) := Same.upd ht
      generalize L2.upd H' t (.tup [x, .ref ta]) = H2 at s2 ⊢
      have s02 := s'.trans s2
      refine ⟨_, rfl, _, rfl, x, ta, W.1.length, W, T, rfl, (hW i x W hx hW').same s02, (hT i ta T hta hT').mono s02, f2, f1, fun p ys H3 s3 np ep kp => ?_⟩
      have eD3 := s3 _ _ (s2 _ _ eD)
      have npD : p ≠ D := fun z => by rw [z, s2 _ _ eD] at np; cases np
      have hi : i < vs.length := lt_get hx
      refine ⟨eD3, small1000 (by rw [List.length_map]; omega), rs ++ [p], X ++ [ys], by rw [List.map_append]; rfl, by rw [List.length_append, lr]; rfl, by rw [List.length_append, lX]; rfl, fun b' o e => ?_, upd_same, fun r h => ?_, fun j r x' h1 h2 => ?_, fun j x' k h1 h2 => ?_⟩
      · rw [upd_ne (ne_of_none e hD)]
        exact s3 _ _ (s2 _ _ (s' _ _ e))
      · rcases List.mem_append.mp h with z | z
        · exact nD r z
        · rw [List.mem_singleton.mp z]; exact npD
      · rcases snoc_get h1 with z | ⟨e, z⟩
        · rw [upd_ne (nD r (List.mem_of_getElem? z))]
          rcases snoc_get h2 with z2 | ⟨e2, _⟩
          · exact s3 _ _ (s2 _ _ (hr' j r x' z z2))
          · have := lt_get z
            omega
        · rcases snoc_get h2 with z2 | ⟨_, z2⟩
          · have := lt_get z2
            omega
          · rw [z, z2, upd_ne npD]
            exact ep
      · rcases snoc_get h1 with z | ⟨e, z⟩
        · exact (((hk j x' k z h2).same s2).same s3).upd eD3
        · rw [e, lX, List.getElem?_zipWith, hW', hT'] at h2
          cases h2
          rw [z]
          exact kp.upd eD3
    · rintro D zs H' hD ⟨rs, X, rfl, lr, lX, s', eD, nD, hr', hk⟩
      have kf := keys_flat (by rw [lX, lm, lv]) hk
      have lb := marks_bound Ws Ts fun i W T h1 h2 => (fit i W T h1 h2).1
      have lf : X.flatten.length ≤ 900 := by
        rw [kf.1]
        show (marksAll Ws Ts).length ≤ 900
        omega
      refine ⟨_, rfl, D, X, rfl, ⟨rs, eD, by rw [lr, lX], hr'⟩, lf, fun D2 H2 s2 n2 e2 => ?_⟩
      have k2 := kf.same s2
      refine ⟨D2, X.flatten, marksAll Ws Ts, rfl, SqL.of e2, k2.1, by omega, k2.2, fun p H3 s3 n3 e3 => ?_⟩
      exact q p H3 ((s'.trans s2).trans s3) ((s'.trans s2).free n3) e3
    · rintro σ H' Q1 Q2 hq ⟨v, e, v', e', x, ta, n, W, T, e1, e2, e3, e4, e5, g⟩
      exact ⟨v, e, v', e', x, ta, n, W, T, e1, e2, e3, e4, e5, fun D ys H3 s3 n3 e6 k => hq _ _ (g D ys H3 s3 n3 e6 k)⟩
def sizeW (Ws : List WebD) (i : Nat) : Nat := ((Ws[i]?).map fun W => W.1.length).getD 0
def offs (Ws : List WebD) (i : Nat) : Nat := ((Ws.take i).map fun W => W.1.length * W.1.length).sum
def squareI (xs : List Int) (n : Nat) : List (List Int) := (List.range n).map fun i => (xs.drop (n * i)).take n
def tabAt (ns : List Int) (Ws : List WebD) (i : Nat) : List (List Int) := squareI ((ns.drop (offs Ws i)).take (sizeW Ws i * sizeW Ws i)) (sizeW Ws i)
def tabsOf (ns : List Int) (Ws : List WebD) : List (List (List Int)) := (List.range Ws.length).map (tabAt ns Ws)
theorem square_gI (xs : List Int) (n : Nat) : squareV (xs.map V.int) n = gI (squareI xs n) := by
  unfold squareV squareI gI
  rw [List.map_map]
  refine List.map_congr_left fun i _ => ?_
  show _ = ((xs.drop (n * i)).take n).map V.int
  rw [List.map_take, List.map_drop]
theorem square_sq {xs : List Int} {n : Nat} (h : xs.length = n * n) : SqI n (squareI xs n) := by
  refine ⟨by unfold squareI; rw [List.length_map, List.length_range], fun r hr => ?_⟩
  obtain ⟨i, hi, rfl⟩ := List.mem_map.mp hr
  have hi := List.mem_range.mp hi
  have h1 : n * (i + 1) ≤ n * n := Nat.mul_le_mul_left n hi
  rw [Nat.mul_succ] at h1
  rw [List.length_take, List.length_drop, h]
  omega
theorem offs_snoc {Ws : List WebD} {i : Nat} {W : WebD} (h : Ws[i]? = some W) : offs Ws (i + 1) = offs Ws i + W.1.length * W.1.length := by
  unfold offs
  rw [take_snoc h, List.map_append, List.sum_append]
  simp
theorem offs_le (Ws : List WebD) (i : Nat) : offs Ws i ≤ offs Ws Ws.length := by
  unfold offs
  rw [List.take_length]
  have := congrArg (fun l => (List.map (fun (W : WebD) => W.1.length * W.1.length) l).sum) (List.take_append_drop i Ws)
  simp only [List.map_append, List.sum_append] at this
  omega
theorem sizeW_at {Ws : List WebD} {i : Nat} {W : WebD} (h : Ws[i]? = some W) : sizeW Ws i = W.1.length := by unfold sizeW; rw [h]; rfl
theorem tab_len {ns : List Int} {Ws : List WebD} (hl : ns.length = offs Ws Ws.length) {i : Nat} {W : WebD} (h : Ws[i]? = some W) : ((ns.drop (offs Ws i)).take (sizeW Ws i * sizeW Ws i)).length = W.1.length * W.1.length := by
  have h1 := offs_snoc h
  have h2 := offs_le Ws (i + 1)
  rw [sizeW_at h, List.length_take, List.length_drop]
  omega
theorem tab_sq {ns : List Int} {Ws : List WebD} (hl : ns.length = offs Ws Ws.length) {i : Nat} {W : WebD} (h : Ws[i]? = some W) : SqI W.1.length (tabAt ns Ws i) := by
  have := tab_len hl h
  unfold tabAt
  rw [sizeW_at h] at this ⊢
  exact square_sq this
theorem tabs_len (ns : List Int) (Ws : List WebD) : (tabsOf ns Ws).length = Ws.length := by unfold tabsOf; rw [List.length_map, List.length_range]
theorem tabs_get {ns : List Int} {Ws : List WebD} {i : Nat} {T : List (List Int)} (h : (tabsOf ns Ws)[i]? = some T) : i < Ws.length ∧ T = tabAt ns Ws i := by
  have hi : i < Ws.length := by rw [← tabs_len ns Ws]; exact lt_get h
  unfold tabsOf at h
  rw [List.getElem?_map, List.getElem?_range hi] at h
  exact ⟨hi, (Option.some.inj h).symm⟩
theorem tabs_fit {ns : List Int} {Ws : List WebD} (hl : ns.length = offs Ws Ws.length) (l8 : Ws.length ≤ 8) (h6 : ∀ W ∈ Ws, W.1.length ≤ 8) : Fit Ws (tabsOf ns Ws) := by
  refine ⟨tabs_len _ _, l8, fun i W T h1 h2 => ⟨h6 W (List.mem_of_getElem? h1), ?_⟩⟩
  obtain ⟨_, rfl⟩ := tabs_get h2
  exact tab_sq hl h1
def spInTabs (K : PySem.W.Frag) : Sp := fun vs H Q _ => ∃ (a b : Addr) (ns : List Int) (Ws : List WebD), vs = [.ref a, .ref b] ∧ SqL K H a (ns.map V.int) ∧ WsAt K H b Ws ∧ ns.length = offs Ws Ws.length ∧ Ws.length ≤ 8 ∧ (∀ W ∈ Ws, W.1.length ≤ 8) ∧
  ∀ D H', Same H H' → TsN H H' D (tabsOf ns Ws) → Q (.ref D) H'
abbrev nInTabs : List Str := ["kinds", "webs", "tables", "first", "web", "size"]
theorem scInTabs : FnScope nInTabs ["kinds", "webs"] (defScope sInTabs) := ⟨rfl, rfl, rfl, by decide +kernel, rfl, by decide +kernel, by decide +kernel⟩
theorem cut_mid {xs : List V} {f m : Nat} (h : f + m ≤ xs.length) : cutV xs (some (f : Int)) (some ((f + m : Nat) : Int)) = (xs.drop f).take m := by
  unfold cutV
  rw [HT.sIx_nat, HT.sIx_nat, Nat.min_eq_left h, Nat.min_eq_left (show f ≤ xs.length by omega)]
  congr 1
  omega
theorem ref_int {x : List Int} {ts : List Addr} (h : x.map V.int = ts.map V.ref) : x = [] := by
  cases x with
  | nil => rfl
  | cons a x => cases ts with
    | nil => cases h
    | cons t ts => cases h
theorem ok_inTabs {f fQ : Addr} {fd fdQ : FuncData} (B : BltK mg) (F : Fun K "in_tables" "in_tables" sInTabs f fd) (DQ : Dn K mg "in_square" sInSq ["things", "size"] fQ fdQ) (GQ : FnOk P w K mg base CX0 1 fQ fdQ ["things", "size"] (spInSq K)) : FnOk P w K mg base CX0 2 f fd ["kinds", "webs"] (spInTabs K) := by
  refine F.ok scInTabs (fun vs H Q E h => ?_) (fun cdv A outer s H vs Q E hr h => ?_)
  · obtain ⟨a, b, ns, Ws, rfl, _⟩ := h
    rfl
  · obtain ⟨a, b, ns, Ws, rfl, ha, ⟨vs, hb, lv, hW⟩, hl, l8, h6, q⟩ := h
    refine ⟨_, pss_cons (ps_set (i := 2) scInTabs.nd rfl (Or.inl rfl) (pe_lst pa_nil))
      (pss_cons (ps_set (i := 3) scInTabs.nd rfl (Or.inl rfl) pe_int)
      (pss_cons (ps_for PassesOwn.never rfl (pi_list (pv 1)) (pg_name (i := 4) scInTabs.nd rfl (Or.inl rfl))
        (pss_cons (ps_set (i := 5) scInTabs.nd rfl (Or.inl rfl) (pe_callB call_len_seq (by rfl) B.len PySem.boot_len (pa_cons (pe_ix ix_tup (pv 4) pe_int (fun _ _ => rfl)) pa_nil)))
        (pss_cons (ps_expr (pe_bm PySem.F.plainAttrs_list PySem.F.slot_list_append PySem.F.type_list_append mt_append (pv 2)
          (pa_cons (pe_fn DQ GQ hr rfl (pa_cons (pe_slice sl_list (pv 0) (po_some (pv 3)) (po_some (pe_op op_add (pv 3) (pe_op op_mul (pv 5) (pv 5))))) (pa_cons (pv 5) pa_nil))) pa_nil)))
        (pss_one (ps_aug (i := 3) scInTabs.nd rfl (Or.inl rfl) (pe_op op_mul (pv 5) (pv 5)) ip_add)))))
      (pss_one (ps_ret (pv 2))))), ?_⟩
    refine ⟨Nat.zero_le _, fun D hD => ?_⟩
    refine ⟨_, rfl, b, rfl, ⟨_, SqL.of (Same.upd hD _ _ hb)⟩, for_list (K := K) (xs := vs) (fun i σ H' => ∃ (o4 o5 : Option V) (ts : List Addr), σ = [some (.ref a), some (.ref b), some (.ref D), some (.int (offs Ws i : Int)), o4, o5] ∧ Same H H' ∧ H' D = some (.lst (ts.map V.ref)) ∧ ts.length = i ∧ ∀ (j : Nat) (t : Addr), ts[j]? = some t → t ≠ D ∧ ∃ rs, H' t = some (.lst (rs.map V.ref)) ∧ GrdV H' rs (gI (tabAt ns Ws j)) ∧ (∀ r ∈ rs, r ≠ D) ∧ H t = none ∧ ∀ r ∈ rs, r ≠ t ∧ H r = none) ?_ ?_ ?_ ?_⟩
    · exact ⟨none, none, [], rfl, Same.upd hD, upd_same, rfl, fun j t h => by simp at h⟩
    · rintro i σ H' _ ⟨o4, o5, ts, rfl, s', _⟩
      exact SqL.of (s' _ _ hb)
    · rintro i x σ H1 hx ⟨o4, o5, ts, rfl, s1, eD, lt, hT⟩
      obtain ⟨W, hW'⟩ := get_lt (l := Ws) (i := i) (by rw [← lv]; exact lt_get hx)
      have hi : i < vs.length := lt_get hx
      obtain ⟨⟨p, hA, rA, rs, rfl, hp, hh, hR, lR, hrow⟩, _, _⟩ := hW i x W hx hW'
      have hn6 := h6 W (List.mem_of_getElem? hW')
      have o1 := offs_snoc hW'
      have o2 := offs_le Ws (i + 1)
      refine ⟨_, rfl, p, _, _, _, rfl, rfl, s1.seqT hp, rfl, hA, _, rfl, .inl (s1.seq hh), ?_⟩
      rw [List.length_map]
      refine ⟨_, rfl, .inl ⟨rfl, _, SqL.of eD⟩, ?_⟩
      have en : (W.1.length : Int) * (W.1.length : Int) = ((W.1.length * W.1.length : Nat) : Int) := by push_cast; rfl
      refine ⟨_, rfl, _, rfl, _, rfl, _, rfl, _, rfl, _, rfl, _, _, rfl, rfl, cmul_l (by omega) (by omega), _, _, rfl, rfl, ?_⟩
      refine ⟨_, rfl, a, _, rfl, s1.seq ha, fun c hc => ?_⟩
      have ec : cutV (ns.map V.int) (some (offs Ws i : Int)) (some ((offs Ws i : Int) + (W.1.length : Int) * (W.1.length : Int))) = ((ns.drop (offs Ws i)).take (W.1.length * W.1.length)).map V.int := by
        rw [en, ← Int.natCast_add, cut_mid (by rw [List.length_map]; omega), List.map_take, List.map_drop]
      rw [ec]
      have s2 : Same H1 (L2.upd H1 c (.lst (((ns.drop (offs Ws i)).take (W.1.length * W.1.length)).map V.int))) := Same.upd hc
      have e2 : L2.upd H1 c (.lst (((ns.drop (offs Ws i)).take (W.1.length * W.1.length)).map V.int)) c = some (.lst (((ns.drop (offs Ws i)).take (W.1.length * W.1.length)).map V.int)) := upd_same
      generalize L2.upd H1 c (.lst (((ns.drop (offs Ws i)).take (W.1.length * W.1.length)).map V.int)) = H2 at s2 e2 ⊢
      have tl := tab_len hl hW'
      rw [sizeW_at hW'] at tl
      refine ⟨_, rfl, c, _, W.1.length, rfl, SqL.of e2, by rw [List.length_map]; exact tl, by omega, fun t H3 s3 gt => ?_⟩
      rw [square_gI] at gt
      obtain ⟨rs', et, gr, nt, nr⟩ := gt
      have eD3 := s3 _ _ (s2 _ _ eD)
      have ntD : t ≠ D := fun z => by rw [z, s2 _ _ eD] at nt; cases nt
      have s02 := s1.trans s2
      have nrD : ∀ r ∈ rs', r ≠ D := fun r hr' z => by
        subst z
        obtain ⟨j, hj⟩ := List.mem_iff_getElem?.mp hr'
        have lj : j < (squareI ((ns.drop (offs Ws i)).take (W.1.length * W.1.length)) W.1.length).length := by rw [← gI_len, ← gr.len]; exact lt_get hj
        obtain ⟨y, hy⟩ := get_lt lj
        have er := gr.row j r _ hj (gI_get hy)
        rw [eD3] at er
        have ey := ref_int (HO.lst.inj (Option.some.inj er)).symm
        have ly := (square_sq tl).2 y (List.mem_of_getElem? hy)
        rw [(square_sq tl).1] at lj
        rw [ey] at ly
        simp at ly
        omega
      refine ⟨D, _, _, rfl, rfl, eD3, small1000 (by rw [List.length_map]; omega), ?_⟩
      refine ⟨_, rfl, _, rfl, _, rfl, _, _, rfl, rfl, cmul_l (by omega) (by omega), _, _, rfl, rfl, ?_⟩
      refine ⟨some (.ref p), some (.int (W.1.length : Int)), ts ++ [t], ?_, fun b' o e => ?_, by rw [upd_same, List.map_append]; rfl, by rw [List.length_append, lt]; rfl, fun j t' h => ?_⟩
      · rw [en, o1]
        rfl
      · rw [upd_ne (ne_of_none e hD)]
        exact s3 _ _ (s2 _ _ (s1 _ _ e))
      · rcases snoc_get h with z | ⟨e, z⟩
        · obtain ⟨n1, rs2, e3, g3, n3, n4⟩ := hT j t' z
          refine ⟨n1, rs2, by rw [upd_ne n1]; exact s3 _ _ (s2 _ _ e3), ⟨g3.len, fun k r y h1 h2 => ?_⟩, n3, n4⟩
          rw [upd_ne (n3 r (List.mem_of_getElem? h1))]
          exact s3 _ _ (s2 _ _ (g3.row k r y h1 h2))
        · subst z
          rw [e, lt]
          refine ⟨ntD, rs', by rw [upd_ne ntD]; exact et, ?_, nrD, s02.free nt, fun r hr' => ⟨(nr r hr').1, s02.free (nr r hr').2⟩⟩
          unfold tabAt
          rw [sizeW_at hW']
          exact ⟨gr.len, fun k r y h1 h2 => by rw [upd_ne (nrD r (List.mem_of_getElem? h1))]; exact gr.row k r y h1 h2⟩
    · rintro σ H1 ⟨o4, o5, ts, rfl, s1, eD, lt, hT⟩
      refine ⟨_, rfl, q D H1 s1 ⟨hD, ts, eD, by rw [tabs_len, lt, lv], fun i t T h1 h2 => ?_⟩⟩
      obtain ⟨_, rfl⟩ := tabs_get h2
      obtain ⟨_, rs, e1, g, _, n1, n2⟩ := hT i t h1
      exact ⟨rs, e1, g, n1, n2⟩
end
section
variable {P : Program} {w : World} {K : PySem.W.Frag} {mg : Str → Option Value} {base : Heap}
def stepK (Ws : List WebD) (ns : List Int) : List Int := nI (numb (marksAll Ws (tabsOf ns Ws)))
def totW (Ws : List WebD) : Nat := offs Ws Ws.length
theorem marks_len : ∀ {Ws : List WebD} {Ts : List (List (List Int))}, Ts.length = Ws.length → (marksAll Ws Ts).length = (Ws.map fun W => W.1.length * W.1.length).sum
  | [], [], _ => rfl
  | [], _ :: _, h => by simp at h
  | _ :: _, [], h => by simp at h
  | W :: Ws, T :: Ts, h => by
    have e : marksAll (W :: Ws) (T :: Ts) = marksT W.1 W.2 T ++ marksAll Ws Ts := rfl
    rw [e, List.length_append, marksT_len, marks_len (by simpa using h), List.map_cons, List.sum_cons]
theorem stepK_len (Ws : List WebD) (ns : List Int) : (stepK Ws ns).length = totW Ws := by
  unfold stepK totW offs
  rw [nI, List.length_map, numb_len, marks_len (tabs_len _ _), List.take_length]
theorem preK_kinds {us : List Int} {M T : List (List Int)} {n : Nat} (h : SqI n T) : ∀ m, m ≤ n → (preK us M T n m).map (·.a) = (T.take m).flatten
  | 0, _ => by simp [preK]
  | m + 1, hm => by
    rw [preK_snoc, List.map_append, preK_kinds h m (by omega)]
    obtain ⟨h1, h2⟩ := h.row (i := m) (by omega)
    rw [take_snoc h1, List.flatten_append]
    congr 1
    show (rowK us M T m n).map (·.a) = [rowI T m].flatten
    rw [List.flatten_cons, List.flatten_nil, List.append_nil]
    unfold rowK
    rw [List.map_map]
    apply List.ext_getElem?
    intro j
    rw [List.getElem?_map]
    by_cases hj : j < n
    · rw [List.getElem?_range hj, h.ent (by omega) hj]
      rfl
    · rw [List.getElem?_eq_none (by rw [List.length_range]; omega), List.getElem?_eq_none (by omega)]
      rfl
theorem marksT_kinds {us : List Int} {M T : List (List Int)} (h : SqI us.length T) : (marksT us M T).map (·.a) = T.flatten := by
  unfold marksT
  rw [preK_kinds h _ (Nat.le_refl _), ← h.1, List.take_length]
theorem marks_kinds : ∀ {Ws : List WebD} {Ts : List (List (List Int))}, Ts.length = Ws.length → (∀ (i : Nat) (W : WebD) (T : List (List Int)), Ws[i]? = some W → Ts[i]? = some T → SqI W.1.length T) → (marksAll Ws Ts).map (·.a) = kindsAll Ts
  | [], [], _, _ => rfl
  | [], _ :: _, h, _ => by simp at h
  | _ :: _, [], h, _ => by simp at h
  | W :: Ws, T :: Ts, h, hh => by
    have e : marksAll (W :: Ws) (T :: Ts) = marksT W.1 W.2 T ++ marksAll Ws Ts := rfl
    have e' : kindsAll (T :: Ts) = T.flatten ++ kindsAll Ts := rfl
    rw [e, e', List.map_append, marksT_kinds (hh 0 W T rfl rfl), marks_kinds (by simpa using h) fun i W' T' h1 h2 => hh (i + 1) W' T' h1 h2]
theorem square_flat : ∀ {n m : Nat} {xs : List Int}, xs.length = n * m → ((List.range m).map fun i => (xs.drop (n * i)).take n).flatten = xs
  | n, 0, xs, h => by
    have : xs = [] := List.eq_nil_of_length_eq_zero (by rw [h, Nat.mul_zero])
    rw [this]
    rfl
  | n, m + 1, xs, h => by
    rw [Nat.mul_succ] at h
    rw [List.range_succ, List.map_append, List.flatten_append]
    have e : ((List.range m).map fun i => (xs.drop (n * i)).take n) = (List.range m).map fun i => ((xs.take (n * m)).drop (n * i)).take n := by
      refine List.map_congr_left fun i hi => ?_
      have hi := List.mem_range.mp hi
      have : n * (i + 1) ≤ n * m := Nat.mul_le_mul_left n hi
      rw [Nat.mul_succ] at this
      rw [List.drop_take, List.take_take, Nat.min_eq_left (by omega)]
    rw [e, square_flat (by rw [List.length_take]; omega)]
    show xs.take (n * m) ++ [(xs.drop (n * m)).take n].flatten = xs
    rw [List.flatten_cons, List.flatten_nil, List.append_nil, List.take_of_length_le (l := xs.drop (n * m)) (by rw [List.length_drop]; omega), List.take_append_drop]
theorem tabs_flat {ns : List Int} {Ws : List WebD} (hl : ns.length = totW Ws) : ∀ m, m ≤ Ws.length → kindsAll ((List.range m).map (tabAt ns Ws)) = ns.take (offs Ws m)
  | 0, _ => by simp [kindsAll, offs]
  | m + 1, hm => by
    obtain ⟨W, hW⟩ := get_lt (l := Ws) (i := m) (by omega)
    have ih := tabs_flat hl m (by omega)
    have tl := tab_len hl hW
    rw [List.range_succ, List.map_append]
    have e : ∀ (a : List (List (List Int))) (T : List (List Int)), kindsAll (a ++ [T]) = kindsAll a ++ T.flatten := fun a T => by
      unfold kindsAll
      rw [List.map_append, List.flatten_append]
      simp
    show kindsAll (_ ++ [tabAt ns Ws m]) = _
    rw [e, ih, offs_snoc hW, List.take_add]
    congr 1
    unfold tabAt squareI
    rw [sizeW_at hW] at tl ⊢
    exact square_flat tl
theorem kinds_tabs {ns : List Int} {Ws : List WebD} (hl : ns.length = totW Ws) : kindsAll (tabsOf ns Ws) = ns := by
  unfold tabsOf
  rw [tabs_flat hl _ (Nat.le_refl _)]
  exact List.take_of_length_le (by rw [hl]; exact Nat.le_refl _)
theorem stepK_within {Ws : List WebD} {ns : List Int} (hl : ns.length = totW Ws) : Finer (stepK Ws ns) ns := by
  have hk : (marksAll Ws (tabsOf ns Ws)).map (·.a) = ns := by
    rw [marks_kinds (tabs_len _ _) fun i W T h1 h2 => ?_, kinds_tabs hl]
    obtain ⟨_, rfl⟩ := tabs_get h2
    exact tab_sq hl h1
  intro i j l x y e1 e2 e3 e4
  unfold stepK at e1 e2
  rw [nI_get] at e1 e2
  obtain ⟨a, ha, rfl⟩ := Option.map_eq_some_iff.mp e1
  obtain ⟨b, hb, eb⟩ := Option.map_eq_some_iff.mp e2
  rw [← hk] at e3 e4
  obtain ⟨k, hk1, rfl⟩ := map_get e3
  obtain ⟨k', hk2, rfl⟩ := map_get e4
  rw [(numb_get hk1 hk2 ha hb).mp (Int.ofNat.inj eb).symm]
inductive StepsK (Ws : List WebD) : List Int → Prop where
  | zero : StepsK Ws (List.replicate (totW Ws) 0)
  | step {ns : List Int} : StepsK Ws ns → StepsK Ws (stepK Ws ns)
def EndK (Ws : List WebD) (ns : List Int) : Prop := StepsK Ws ns ∧ stepK Ws ns = ns
theorem StepsK.len {Ws : List WebD} {ns : List Int} (h : StepsK Ws ns) : ns.length = totW Ws := by
  cases h with
  | zero => exact List.length_replicate
  | step => exact stepK_len _ _
theorem StepsK.norm {Ws : List WebD} {ns : List Int} (h : StepsK Ws ns) : Norm ns := by
  cases h with
  | zero => exact norm_zeros _
  | step => exact norm_numb _
def spCoarseT (K : PySem.W.Frag) : Sp := fun vs H Q _ => ∃ (a : Addr) (Ws : List WebD), vs = [.ref a] ∧ WsAt K H a Ws ∧ Ws.length ≤ 8 ∧ (∀ W ∈ Ws, W.1.length ≤ 8) ∧
  ∀ D ns H', Same H H' → EndK Ws ns → TsN H H' D (tabsOf ns Ws) → Q (.ref D) H'
abbrev nCoarseT : List Str := ["webs", "kinds", "finer"]
theorem scCoarseT : FnScope nCoarseT ["webs"] (defScope sCoarse) := ⟨rfl, rfl, rfl, by decide +kernel, rfl, by decide +kernel, by decide +kernel⟩
def opR (e : Expr) : Expr := match e with
  | .BinOp _ _ r _ => r
  | _ => .Constant .none 0 ⟨0, 0, 0, 0⟩
theorem lcCoarseT : LcScopes (defScope sCoarse) nCoarseT (lcScope (argAt (opR (asgVal (bodyAt sCoarse 0))) 0)) ["web"] := ⟨by decide +kernel, rfl, by decide +kernel, by decide +kernel, by decide +kernel, by decide +kernel, by decide +kernel, by decide +kernel, by decide +kernel, by decide +kernel⟩
theorem boot_sum : bootBuiltins "sum" = some (.builtin "sum") := by decide +kernel
theorem totW_le : ∀ {Ws : List WebD}, (∀ W ∈ Ws, W.1.length ≤ 8) → totW Ws ≤ 64 * Ws.length := by
  intro Ws h
  unfold totW offs
  rw [List.take_length]
  induction Ws with
  | nil => simp
  | cons W Ws ih =>
    have := ih fun W' h' => h W' (List.mem_cons_of_mem _ h')
    have h0 := h W List.mem_cons_self
    have : W.1.length * W.1.length ≤ 8 * 8 := Nat.mul_le_mul h0 h0
    rw [List.map_cons, List.sum_cons, List.length_cons]
    omega
theorem sum_cast : ∀ l : List Nat, (l.map fun (n : Nat) => (n : Int)).sum = (l.sum : Int)
  | [] => rfl
  | n :: l => by rw [List.map_cons, List.sum_cons, List.sum_cons, sum_cast l]; push_cast; rfl
theorem ok_coarseT {f fS fT : Addr} {fd fdS fdT : FuncData} (B : BltK mg) (F : Fun K "coarsest_tables" "coarsest_tables" sCoarse f fd) (DS : Dn K mg "split_kinds" sSplit ["webs", "tables"] fS fdS) (GS : FnOk P w K mg base CX0 4 fS fdS ["webs", "tables"] (spSplitK K))
    (DT : Dn K mg "in_tables" sInTabs ["kinds", "webs"] fT fdT) (GT : FnOk P w K mg base CX0 2 fT fdT ["kinds", "webs"] (spInTabs K)) : FnOk P w K mg base CX0 5 f fd ["webs"] (spCoarseT K) := by
  refine F.ok scCoarseT (fun vs H Q E h => ?_) (fun cdv A outer s H vs Q E hr h => ?_)
  · obtain ⟨a, Ws, rfl, _⟩ := h
    rfl
  · obtain ⟨a, Ws, rfl, hWs, l8, h6, q⟩ := h
    have hWs0 := hWs
    obtain ⟨vs, ha, lv, hW⟩ := hWs
    have tb := totW_le h6
    refine ⟨_, pss_cons (ps_set (i := 1) scCoarseT.nd rfl (Or.inl rfl) (pe_op op_rep (pe_lst (pa_cons pe_int pa_nil)) (pe_callB (call_sum rfl) (by rfl) B.sum boot_sum (pa_cons (pe_lc1 rfl lcCoarseT rfl (pi_list (pv 0)) (fun _ _ _ => pe_op op_mul (pe_callB (call_lenK (K := K)) (by rfl) B.len PySem.boot_len (pa_cons (pe_ix (ix_tupK (K := K)) (pv 3) pe_int (fun _ _ => rfl)) pa_nil)) (pe_callB (call_lenK (K := K)) (by rfl) B.len PySem.boot_len (pa_cons (pe_ix (ix_tupK (K := K)) (pv 3) pe_int (fun _ _ => rfl)) pa_nil)))) pa_nil))))
      (pss_cons (ps_set (i := 2) scCoarseT.nd rfl (Or.inl rfl) (pe_fn DS GS hr rfl (pa_cons (pv 0) (pa_cons (pe_fn DT GT (hr.mono (by decide)) rfl (pa_cons (pv 1) (pa_cons (pv 0) pa_nil))) pa_nil))))
      (pss_cons (ps_while PassesOwn.never (pt_cmpR (op_neD hr.units) (pv 2) (pv 1) (nomark _))
        (pss_cons (ps_set (i := 1) scCoarseT.nd rfl (Or.inl rfl) (pv 2))
        (pss_one (ps_set (i := 2) scCoarseT.nd rfl (Or.inl rfl) (pe_fn DS GS hr rfl (pa_cons (pv 0) (pa_cons (pe_fn DT GT (hr.mono (by decide)) rfl (pa_cons (pv 1) (pa_cons (pv 0) pa_nil))) pa_nil)))))))
      (pss_one (ps_ret (pe_fn DT GT (hr.mono (by decide)) rfl (pa_cons (pv 1) (pa_cons (pv 0) pa_nil))))))), ?_⟩
    refine ⟨(by show 1 ≤ sizeLine; decide), fun l1 hl1 => ?_⟩
    have s0 : Same H (L2.upd H l1 (.lst [.int 0])) := Same.upd hl1
    have e0 : L2.upd H l1 (.lst [.int 0]) l1 = some (.lst [.int 0]) := upd_same
    generalize L2.upd H l1 (.lst [.int 0]) = H0 at s0 e0 ⊢
    refine ⟨_, rfl, a, rfl, ⟨_, SqL.of (s0 _ _ ha)⟩, fun D hD => ?_⟩
    refine lc_vals (K := K) (xs := vs) (Ws.map fun W => V.int ((W.1.length * W.1.length : Nat) : Int)) (by rw [List.length_map, lv]) (by omega) hD (SqL.of (s0 _ _ ha)) ?_ ?_ ?_
    · intro i x v H' hx hv s'
      obtain ⟨W, hW', rfl⟩ := map_get hv
      obtain ⟨⟨p, hA, rA, rs, rfl, hp, hh, hR, lR, hrow⟩, _, _⟩ := hW i x W hx hW'
      have hn6 := h6 W (List.mem_of_getElem? hW')
      have s2 := s0.trans s'
      refine ⟨_, rfl, p, _, _, _, rfl, rfl, s2.seqT hp, rfl, hA, _, rfl, .inl (s2.seq hh), _, rfl, p, _, _, _, rfl, rfl, s2.seqT hp, rfl, hA, _, rfl, .inl (s2.seq hh), ?_⟩
      rw [List.length_map]
      refine ⟨_, _, rfl, rfl, cmul_l (by omega) (by omega), ?_, Same.refl _⟩
      push_cast
      rfl
    · intro H1 s1 eD
      have em : (Ws.map fun W => V.int ((W.1.length * W.1.length : Nat) : Int)) = ((Ws.map fun W => W.1.length * W.1.length).map fun (n : Nat) => (n : Int)).map V.int := by rw [List.map_map, List.map_map]; rfl
      rw [em] at eD
      refine ⟨D, _, rfl, SqL.of eD, ?_⟩
      have et : ((Ws.map fun W => W.1.length * W.1.length).map fun (n : Nat) => (n : Int)).sum = (totW Ws : Int) := by
        rw [sum_cast]
        unfold totW offs
        rw [List.take_length]
      rw [et]
      refine ⟨l1, (totW Ws : Int), _, rfl, rfl, s1 _ _ e0, by omega, by omega, Nat.le_of_lt (small1000 (by show 1 * (totW Ws : Int).toNat ≤ 1000; omega)), fun L hL => ?_⟩
      rw [Int.toNat_natCast, zeros_map]
      have c1 := s0.trans s1
      have s2 : Same H (L2.upd H1 L (.lst ((List.replicate (totW Ws) (0 : Int)).map V.int))) := c1.trans (Same.upd hL)
      have e2 : L2.upd H1 L (.lst ((List.replicate (totW Ws) (0 : Int)).map V.int)) L = some (.lst ((List.replicate (totW Ws) (0 : Int)).map V.int)) := upd_same
      generalize L2.upd H1 L (.lst ((List.replicate (totW Ws) (0 : Int)).map V.int)) = H2 at s2 e2 ⊢
      refine ⟨_, rfl, _, rfl, _, rfl, L, a, _, Ws, rfl, SqL.of e2, hWs0.same s2, List.length_replicate, l8, h6, fun t H3 s3 g3 => ?_⟩
      have s03 := s2.trans s3
      refine ⟨a, t, Ws, _, rfl, hWs0.same s03, g3.at, tabs_fit List.length_replicate l8 h6, fun F H4 s4 n4 e4 => ?_⟩
      rw [nI_V] at e4
      have s04 := s03.trans s4
      refine ⟨fun m σ H' => ∃ (L F : Addr) (ns : List Int), σ = [some (.ref a), some (.ref L), some (.ref F)] ∧ Same H H' ∧ H' L = some (.lst (ns.map V.int)) ∧ H' F = some (.lst ((stepK Ws ns).map V.int)) ∧ StepsK Ws ns ∧ m = shar (totW Ws) ns, ⟨_, L, F, _, rfl, s04, s4 _ _ (s3 _ _ e2), e4, .zero, rfl⟩, ?_⟩
      rintro m σ H5 ⟨L', F', ns, rfl, s5, eL, eF, st, rfl⟩
      refine ⟨_, rfl, _, rfl, _, _, daI (K := K) (ok := any) trivial (SqL.of eF), daI (K := K) (ok := any) trivial (SqL.of eL), ⟨(lay_dI _).1, (lay_dI _).1, Nat.le_trans (lay_dI _).2 (by decide)⟩, _, rfl, ?_⟩
      rw [eqv_dI]
      by_cases e : stepK Ws ns = ns
      · refine iteNS e ?_
        refine ⟨_, rfl, _, rfl, L', a, ns, Ws, rfl, SqL.of eL, hWs0.same s5, st.len, l8, h6, fun D' H6 s6 g6 => ?_⟩
        exact q D' ns H6 (s5.trans s6) ⟨st, e⟩ (g6.back s5)
      · refine iteNP e ?_
        refine ⟨_, fun σ' H' z => z, ?_⟩
        refine ⟨_, rfl, _, rfl, _, rfl, _, rfl, F', a, _, Ws, rfl, SqL.of eF, hWs0.same s5, stepK_len _ _, l8, h6, fun t' H6 s6 g6 => ?_⟩
        have s06 := s5.trans s6
        refine ⟨a, t', Ws, _, rfl, hWs0.same s06, g6.at, tabs_fit (stepK_len _ _) l8 h6, fun F2 H7 s7 n7 e7 => ?_⟩
        rw [nI_V] at e7
        exact ⟨_, shar_lt (stepK_len _ _) st.len (norm_numb _) st.norm (stepK_within st.len) e, F', F2, _, rfl, s06.trans s7, s7 _ _ (s6 _ _ eF), e7, .step st, rfl⟩
    · rintro σ H' Q1 Q2 hq ⟨v1, e1, a1, a2, a3, a4, b1, b2, b3, b4, p1, y1, c1, c2, v2, e2, a5, a6, a7, a8, b5, b6, b7, b8, p2, y2, c3, c4, i1, i2, f1, f2, f3, g⟩
      exact ⟨v1, e1, a1, a2, a3, a4, b1, b2, b3, b4, p1, y1, c1, c2, v2, e2, a5, a6, a7, a8, b5, b6, b7, b8, p2, y2, c3, c4, i1, i2, f1, f2, f3, hq _ _ g⟩
theorem wsAt1 {H : Hp} {l : Addr} {v : V} {W : WebD} (h : WbN K H v W.1.length W) (e : H l = some (.lst [v])) : WsAt K H l [W] := ⟨[v], e, rfl, fun i v' W' h1 h2 => by
  cases i with
  | zero => cases h1; cases h2; exact h
  | succ i => simp at h1⟩
def spCoarseK (K : PySem.W.Frag) : Sp := fun vs H Q _ => ∃ (v : V) (W : WebD), vs = [v] ∧ WbN K H v W.1.length W ∧ W.1.length ≤ 8 ∧ ∀ D ns H', Same H H' → EndK [W] ns → GrdN H H' D (gI (tabAt ns [W] 0)) → Q (.ref D) H'
theorem scCoarseK : FnScope ["web"] ["web"] (defScope sCoarseK) := ⟨rfl, rfl, rfl, by decide +kernel, rfl, by decide +kernel, by decide +kernel⟩
theorem ok_coarseK {f fA : Addr} {fd fdA : FuncData} (F : Fun K "coarsest_kinds" "coarsest_kinds" sCoarseK f fd) (DA : Dn K mg "coarsest_tables" sCoarse ["webs"] fA fdA) (GA : FnOk P w K mg base CX0 5 fA fdA ["webs"] (spCoarseT K)) : FnOk P w K mg base CX0 6 f fd ["web"] (spCoarseK K) := by
  refine F.ok scCoarseK (fun vs H Q E h => ?_) (fun cdv A outer s H vs Q E hr h => ?_)
  · obtain ⟨v, W, rfl, _⟩ := h
    rfl
  · obtain ⟨v, W, rfl, hW, h6, q⟩ := h
    refine ⟨_, pss_one (ps_ret (pe_ix ix_list (pe_fn DA GA hr rfl (pa_cons (pe_lst (pa_cons (pv 0) pa_nil)) pa_nil)) pe_int (fun _ _ => rfl))), ?_⟩
    refine ⟨_, rfl, (by show 1 ≤ sizeLine; decide), fun l1 h1 => ?_⟩
    have s1 : Same H (L2.upd H l1 (.lst [v])) := Same.upd h1
    refine ⟨l1, [W], rfl, wsAt1 (hW.same s1) upd_same, (by show 1 ≤ 8; decide), fun W' h' => by rw [List.mem_singleton.mp h']; exact h6, fun D ns H2 s2 en g2 => ?_⟩
    obtain ⟨_, ts, e1, lt, gt⟩ := g2
    match ts, lt with
    | [t], _ =>
      exact ⟨D, _, _, .ref t, rfl, rfl, SqL.of e1, at_hd _ _, q t ns H2 (s1.trans s2) en ((gt 0 t _ rfl rfl).back s1)⟩
end
section
variable {P : Program} {w : World} {K : PySem.W.Frag} {mg : Str → Option Value} {base : Heap}
theorem das_snoc {ok : Addr → Prop} {H : Hp} {v : V} {d : PyData} (h : DA K ok H v d) : ∀ {vs : List V} {ds : List PyData}, DAs K ok H vs ds → DAs K ok H (vs ++ [v]) (ds ++ [d])
  | _, _, .nil => .cons h .nil
  | _, _, .cons a r => .cons a (das_snoc h r)
theorem das_get {ok : Addr → Prop} {H : Hp} : ∀ {vs : List V} {ds : List PyData} {i : Nat} {v : V}, DAs K ok H vs ds → vs[i]? = some v → ∃ d, ds[i]? = some d ∧ DA K ok H v d
  | _, _, _, _, .nil, e => by simp at e
  | _, _, 0, _, .cons a r, e => by
    simp only [List.getElem?_cons_zero, Option.some.injEq] at e
    subst e
    exact ⟨_, rfl, a⟩
  | _, _, i + 1, _, .cons a r, e => by
    rw [List.getElem?_cons_succ] at e
    rw [List.getElem?_cons_succ]
    exact das_get r e
theorem das_len {ok : Addr → Prop} {H : Hp} : ∀ {vs : List V} {ds : List PyData}, DAs K ok H vs ds → vs.length = ds.length
  | _, _, .nil => rfl
  | _, _, .cons a r => by rw [List.length_cons, List.length_cons, das_len r]
structure KD {κ : Type} [DecidableEq κ] (D : κ → PyData) : Prop where
  lay : ∀ k, (D k).canLay0 = true
  dep : ∀ k, (D k).depth ≤ 32
  eqv : ∀ k k', PyData.eqv (D k) (D k') = decide (k = k')
theorem KD.layAll {κ : Type} [DecidableEq κ] {D : κ → PyData} (h : KD D) : ∀ ks : List κ, PyData.canLayAll0 (ks.map D) = true
  | [] => rfl
  | k :: ks => by
    rw [List.map_cons]
    simp only [PyData.canLayAll0, h.lay k, h.layAll ks, Bool.and_self]
theorem KD.any {κ : Type} [DecidableEq κ] {D : κ → PyData} (h : KD D) (k : κ) (ks : List κ) : ((ks.map D).any fun e => PyData.eqv e (D k)) = decide (k ∈ ks) := by
  induction ks with
  | nil => simp
  | cons x ks ih =>
    rw [List.map_cons, List.any_cons, ih, h.eqv]
    by_cases e : x = k
    · subst e; simp
    · by_cases m : k ∈ ks
      · simp [m]
      · simp [e, m, Ne.symm e]
theorem KD.idx {κ : Type} [DecidableEq κ] {D : κ → PyData} (h : KD D) (k : κ) (ks : List κ) : ((ks.map D).findIdx fun e => PyData.eqv e (D k)) = ks.idxOf k := by
  induction ks with
  | nil => rfl
  | cons x ks ih =>
    rw [List.map_cons, List.findIdx_cons, ih, h.eqv, List.idxOf_cons]
    by_cases e : x = k
    · subst e; simp
    · rw [(by simpa using e : (x == k) = false)]; simp [e]
def spLNum (K : PySem.W.Frag) {κ : Type} [DecidableEq κ] (D : κ → PyData) : Sp := fun vs H Q _ => ∃ (a : Addr) (xs : List V) (ks : List κ), vs = [.ref a] ∧ SqL K H a xs ∧ DAs K any H xs (ks.map D) ∧ ks.length ≤ 1000 ∧
  ∀ p H', Same H H' → H p = none → H' p = some (.lst ((numb ks).map fun (n : Nat) => V.int (n : Int))) → Q (.ref p) H'
abbrev nLNum : List Str := ["_law_things", "_law_seen", "_law_found", "_law_thing"]
theorem scLNum : FnScope nLNum ["_law_things"] (defScope sLNum) := ⟨rfl, rfl, rfl, by decide +kernel, rfl, by decide +kernel, by decide +kernel⟩
theorem seenAdd_mem {κ : Type} [DecidableEq κ] (s : List κ) (k : κ) : k ∈ seenAdd s k := by
  unfold seenAdd
  split
  · assumption
  · simp
theorem seenAdd_idx {κ : Type} [DecidableEq κ] (s : List κ) (k : κ) : (seenAdd s k).idxOf k = s.idxOf k := by
  unfold seenAdd
  split
  · rfl
  · rename_i m
    rw [List.idxOf_append, if_neg m, List.idxOf_eq_length m]
    simp
theorem ok_lnum {κ : Type} [DecidableEq κ] {D : κ → PyData} (KDD : KD D) {f : Addr} {fd : FuncData} (F : Fun K "_law_numbered" "_law_numbered" sLNum f fd) : FnOk P w K mg base CX0 1 f fd ["_law_things"] (spLNum K D) := by
  refine F.ok scLNum (fun vs H Q E h => ?_) (fun cdv A outer s H vs Q E hr h => ?_)
  · obtain ⟨a, xs, ks, rfl, _⟩ := h
    rfl
  · obtain ⟨a, xs, ks, rfl, hS, hD, hz, q⟩ := h
    refine ⟨_, pss_cons (ps_set (i := 1) scLNum.nd rfl (Or.inl rfl) (pe_lst pa_nil))
      (pss_cons (ps_set (i := 2) scLNum.nd rfl (Or.inl rfl) (pe_lst pa_nil))
      (pss_cons (ps_for PassesOwn.never rfl (pi_list (pv 0)) (pg_name (i := 3) scLNum.nd rfl (Or.inl rfl))
        (pss_mid (ps_if (pt_cmpR (op_notInD hr.units) (pv 3) (pv 1) rfl) (pss_one (ps_expr (pe_bm PySem.F.plainAttrs_list PySem.F.slot_list_append PySem.F.type_list_append mt_append (pv 1) (pa_cons (pv 3) pa_nil)))) pss_nil)
        (pss_one (ps_expr (pe_bm PySem.F.plainAttrs_list PySem.F.slot_list_append PySem.F.type_list_append mt_append (pv 2) (pa_cons (pe_bm PySem.F.plainAttrs_list PySem.F.slot_list_index PySem.F.type_list_index (mt_indexD hr.units) (pv 1) (pa_cons (pv 3) pa_nil)) pa_nil))))))
      (pss_one (ps_ret (pv 2))))), ?_⟩
    have lx : xs.length = ks.length := by rw [das_len hD, List.length_map]
    refine ⟨Nat.zero_le _, fun S hSn => ⟨Nat.zero_le _, fun R hR => ?_⟩⟩
    have nSR : S ≠ R := ne_of_none upd_same hR
    have hR0 : H R = none := by rw [upd_ne nSR.symm] at hR; exact hR
    have sH : Same H (upd (upd H S (.lst [])) R (.lst [])) := (Same.upd hSn).trans (Same.upd hR)
    refine ⟨_, rfl, a, rfl, ⟨_, sH.seq hS⟩, for_list (K := K) (a := a) (xs := xs) (fun i σ H' => ∃ (o : Option V) (ys : List V), σ = [some (.ref a), some (.ref S), some (.ref R), o] ∧ Same H H' ∧ H' S = some (.lst ys) ∧ DAs K any H ys (((ks.take i).foldl seenAdd []).map D) ∧ H' R = some (.lst ((numsFrom [] (ks.take i)).map fun (n : Nat) => V.int (n : Int)))) ?_ ?_ ?_ ?_⟩
    · exact ⟨none, [], rfl, sH, by rw [upd_ne nSR]; exact upd_same, .nil, upd_same⟩
    · rintro i σ H' _ ⟨o, ys, rfl, s1, _⟩
      exact s1.seq hS
    · rintro i v σ H' hi ⟨o, ys, rfl, s1, eS, dS, eR⟩
      have li : i < ks.length := by rw [← lx]; exact (List.getElem?_eq_some_iff.mp hi).1
      have hki : ks[i]? = some (ks[i]'li) := List.getElem?_eq_getElem li
      obtain ⟨d, ed, dv⟩ := das_get hD hi
      rw [List.getElem?_map, hki] at ed
      obtain rfl : D (ks[i]'li) = d := by simpa using ed
      have tk : ks.take (i + 1) = ks.take i ++ [ks[i]'li] := by rw [List.take_succ, hki]; rfl
      have dv1 : DA K any H' v (D (ks[i]'li)) := dv.mono s1.keep fun _ h => h
      have ly : ys.length ≤ 1000 := by
        have := seen_le (ks.take i) []
        rw [das_len dS, List.length_map]
        rw [List.length_take] at this
        simp at this
        omega
      have lr : ((numsFrom [] (ks.take i)).map fun (n : Nat) => V.int (n : Int)).length ≤ 1000 := by
        rw [List.length_map, numsFrom_len, List.length_take]
        omega
      have la := KDD.layAll ((ks.take i).foldl seenAdd [])
      refine ⟨fun σ' H'' => ∃ ys', σ' = [some (.ref a), some (.ref S), some (.ref R), some v] ∧ Same H H'' ∧ H'' S = some (.lst ys') ∧ DAs K any H ys' ((seenAdd ((ks.take i).foldl seenAdd []) (ks[i]'li)).map D) ∧ H'' R = some (.lst ((numsFrom [] (ks.take i)).map fun (n : Nat) => V.int (n : Int))), ?_, ?_⟩
      · refine ⟨_, rfl, _, rfl, S, ys, _, _, rfl, SqL.of eS, dS.mono s1.keep (fun _ h => h), dv1, ⟨la, KDD.lay _, KDD.dep _⟩, _, rfl, ?_⟩
        rw [KDD.any]
        by_cases m : (ks[i]'li) ∈ (ks.take i).foldl seenAdd []
        · refine iteNS m ?_
          refine ⟨ys, rfl, s1, eS, ?_, eR⟩
          rw [seenAdd, if_pos m]
          exact dS
        · refine iteNP m ?_
          refine ⟨_, rfl, .inl ⟨rfl, _, SqL.of eS⟩, _, rfl, S, ys, v, rfl, rfl, eS, small1000 ly, ?_⟩
          have s2 : Same H (upd H' S (.lst (ys ++ [v]))) := fun b o e => by rw [upd_ne (ne_of_none e hSn)]; exact s1 _ _ e
          refine ⟨ys ++ [v], rfl, s2, upd_same, ?_, by rw [upd_ne nSR.symm]; exact eR⟩
          rw [seenAdd, if_neg m, List.map_append]
          exact das_snoc dv dS
      · rintro σ' H2 ⟨ys', rfl, s2, eS2, dS2, eR2⟩
        have dv2 : DA K any H2 v (D (ks[i]'li)) := dv.mono s2.keep fun _ h => h
        refine ⟨_, rfl, .inl ⟨rfl, _, SqL.of eR2⟩, _, rfl, .inl ⟨rfl, _, SqL.of eS2⟩, _, rfl, S, ys', v, _, _, rfl, rfl, eS2, dS2.mono s2.keep (fun _ h => h), dv2, ⟨KDD.layAll _, KDD.lay _, KDD.dep _⟩, ?_, ?_⟩
        · rw [KDD.idx, List.length_map]
          exact List.idxOf_lt_length_iff.mpr (seenAdd_mem _ _)
        · rw [KDD.idx, seenAdd_idx]
          refine ⟨R, _, _, rfl, rfl, eR2, small1000 lr, ?_⟩
          refine ⟨_, ys', rfl, fun b o e => by rw [upd_ne (ne_of_none e hR0)]; exact s2 _ _ e, by rw [upd_ne nSR]; exact eS2, ?_, ?_⟩
          · rw [tk, List.foldl_append]
            exact dS2
          · rw [upd_same, tk, numsFrom_snoc, List.map_append]
            rfl
    · rintro σ H' ⟨o, ys, rfl, s1, eS, dS, eR⟩
      refine ⟨_, rfl, q R H' s1 hR0 ?_⟩
      rw [eR, lx, List.take_length]
      rfl
end
section
variable {P : Program} {w : World} {K : PySem.W.Frag} {mg : Str → Option Value} {base : Heap}
def spLRows (K : PySem.W.Frag) : Sp := fun vs H Q _ => ∃ (a : Addr) (ns : List Int) (n : Nat), vs = [.ref a, .int (n : Int)] ∧ SqL K H a (ns.map V.int) ∧ ns.length = n * n ∧ n ≤ 16 ∧ ∀ D H', Same H H' → GrdN H H' D (gI (squareI ns n)) → Q (.ref D) H'
theorem scLRows : FnScope ["_law_numbers", "_law_many"] ["_law_numbers", "_law_many"] (defScope sLRows) := ⟨rfl, rfl, rfl, by decide +kernel, rfl, by decide +kernel, by decide +kernel⟩
theorem lcLRows : LcScopes (defScope sLRows) ["_law_numbers", "_law_many"] (lcScope (asgVal (bodyAt sLRows 0))) ["_law_u"] := ⟨by decide +kernel, rfl, by decide +kernel, by decide +kernel, by decide +kernel, by decide +kernel, by decide +kernel, by decide +kernel, by decide +kernel, by decide +kernel⟩
theorem ok_lrows {f : Addr} {fd : FuncData} (B : BltL mg) (F : Fun K "_law_rows" "_law_rows" sLRows f fd) : FnOk P w K mg base CX0 1 f fd ["_law_numbers", "_law_many"] (spLRows K) := by
  refine F.ok scLRows (fun vs H Q E h => ?_) (fun cdv A outer s H vs Q E hr h => ?_)
  · obtain ⟨a, xs, n, rfl, _⟩ := h
    rfl
  · obtain ⟨a, ns, n, rfl, ha, hx, hn, q⟩ := h
    refine ⟨_, pss_one (ps_ret (pe_lc1 rfl lcLRows rfl (pi_range1 rfl B.range (pa_cons (pv 1) pa_nil)) (fun _ _ _ => pe_slice (sl_listK (K := K)) (pv 0) (po_some (pe_op op_mul (pv 2) (pv 1))) (po_some (pe_op op_add (pe_op op_mul (pv 2) (pv 1)) (pv 1)))))), ?_⟩
    refine ⟨_, rfl, (n : Int), rfl, by omega, by omega, fun D hD => ?_⟩
    rw [Int.toNat_natCast]
    have lc : (gI (squareI ns n)).length = n := by rw [gI_len]; unfold squareI; rw [List.length_map, List.length_range]
    refine lc_range (n := n) (GrdI H D (gI (squareI ns n))) (GrdI.start hD) (fun i ys H' _ ⟨_, _, _, _, eD, _⟩ => eD) ?_ ?_ ?_
    · rintro i ys H' hi g
      have e0 : ((0 : Int) + (i : Nat)) = (i : Int) := by omega
      rw [e0]
      have s' : Same H H' := let ⟨_, _, _, z, _⟩ := g; z
      have h1 : n * (i + 1) ≤ n * n := Nat.mul_le_mul_left n hi
      rw [Nat.mul_succ] at h1
      refine ⟨_, rfl, _, rfl, _, rfl, _, _, rfl, rfl, cmul_l (by omega) (by omega), _, rfl, _, rfl, _, rfl, _, _, rfl, rfl, cmul_l (by omega) (by omega), _, rfl, _, _, rfl, rfl, _, rfl, a, _, rfl, s'.seq ha, fun p hp => ?_⟩
      have st := g.step (u := .ref p) (x := ((ns.drop (n * i)).take n).map V.int) hD (gI_get (by unfold squareI; rw [List.getElem?_map, List.getElem?_range hi]; rfl)) ⟨p, rfl, upd_same, hp⟩ (Same.upd hp) (by omega)
      have ec : cutV (ns.map V.int) (some ((i : Int) * (n : Int))) (some ((i : Int) * (n : Int) + (n : Int))) = ((ns.drop (n * i)).take n).map V.int := by
        have e1 : (i : Int) * (n : Int) = ((n * i : Nat) : Int) := by rw [Nat.mul_comm]; push_cast; rfl
        rw [e1, ← Int.natCast_add, cut_mid (by rw [List.length_map]; omega), List.map_take, List.map_drop]
      rw [← ec] at st
      exact st
    · intro ys H' g
      obtain ⟨s', gg⟩ := GrdI.doneN (X := gI (squareI ns n)) hD (by rw [lc]; exact g)
      exact q D H' s' gg
    · rintro σ H' Q1 Q2 hq ⟨v1, e1, v2, e2, v3, e3, i1, j1, f1, f2, c1, l1, e4, v5, e5, v6, e6, i2, j2, f3, f4, c2, v7, e7, i3, j3, f5, f6, h1, e8, a1, x1, e9, q1, g⟩
      exact ⟨v1, e1, v2, e2, v3, e3, i1, j1, f1, f2, c1, l1, e4, v5, e5, v6, e6, i2, j2, f3, f4, c2, v7, e7, i3, j3, f5, f6, h1, e8, a1, x1, e9, q1, fun p hp => hq _ _ (g p hp)⟩
theorem _root_.L2.PsV.same {H H' : Hp} {vs : List V} {ps : List (Int × Int)} (h : PsV K H vs ps) (s : Same H H') : PsV K H' vs ps := ⟨h.1, fun i v p h1 h2 => by
  obtain ⟨a, e, ha⟩ := h.2 i v p h1 h2
  exact ⟨a, e, s _ _ ha⟩⟩
theorem _root_.L2.PsV.upd {H : Hp} {D : Addr} {l l' : List V} {vs : List V} {ps : List (Int × Int)} (e : H D = some (.lst l)) (h : PsV K H vs ps) : PsV K (L2.upd H D (.lst l')) vs ps := ⟨h.1, fun i v p h1 h2 => by
  obtain ⟨a, ea, ha⟩ := h.2 i v p h1 h2
  exact ⟨a, ea, by rw [upd_ne (fun z => by subst z; rw [e] at ha; cases ha)]; exact ha⟩⟩
theorem _root_.L2.PsV.nil {H : Hp} : PsV K H [] [] := ⟨rfl, fun i v p h => by simp at h⟩
theorem _root_.L2.PsV.app {H : Hp} {vs vs' : List V} {ps ps' : List (Int × Int)} (h : PsV K H vs ps) (h' : PsV K H vs' ps') : PsV K H (vs ++ vs') (ps ++ ps') := by
  refine ⟨by rw [List.length_append, List.length_append, h.1, h'.1], fun j y k h1 h2 => ?_⟩
  by_cases hj : j < vs.length
  · rw [List.getElem?_append_left hj] at h1
    rw [List.getElem?_append_left (by rw [← h.1]; exact hj)] at h2
    exact h.2 j y k h1 h2
  · rw [List.getElem?_append_right (by omega)] at h1
    rw [List.getElem?_append_right (by rw [← h.1]; omega), ← h.1] at h2
    exact h'.2 _ y k h1 h2
theorem _root_.L2.PsV.one {H : Hp} {t : Addr} {p : Int × Int} (h : H t = some (.tup [.int p.1, .int p.2])) : PsV K H [.ref t] [p] := ⟨rfl, fun i v q h1 h2 => by
  cases i with
  | zero => cases h1; cases h2; exact ⟨t, rfl, h⟩
  | succ i => simp at h1⟩
def prRow (u m : Nat) : List (Int × Int) := (List.range m).map fun (v : Nat) => ((u : Int), (v : Int))
def prPre (n m : Nat) : List (Int × Int) := (List.range m).flatMap fun u => prRow u n
theorem prRow_snoc (u m : Nat) : prRow u (m + 1) = prRow u m ++ [((u : Int), (m : Int))] := by
  unfold prRow
  rw [List.range_succ, List.map_append]
  rfl
theorem prPre_snoc (n m : Nat) : prPre n (m + 1) = prPre n m ++ prRow m n := by
  unfold prPre
  rw [List.range_succ, List.flatMap_append]
  simp
theorem prRow_len (u m : Nat) : (prRow u m).length = m := by unfold prRow; rw [List.length_map, List.length_range]
theorem prPre_len (n : Nat) : ∀ m, (prPre n m).length = m * n
  | 0 => by simp [prPre]
  | m + 1 => by rw [prPre_snoc, List.length_append, prPre_len n m, prRow_len, Nat.succ_mul]
theorem prPre_mem {n m : Nat} {p : Int × Int} : p ∈ prPre n m ↔ ∃ u v : Nat, u < m ∧ v < n ∧ p = ((u : Int), (v : Int)) := by
  unfold prPre prRow
  rw [List.mem_flatMap]
  constructor
  · rintro ⟨u, hu, hp⟩
    obtain ⟨v, hv, rfl⟩ := List.mem_map.mp hp
    exact ⟨u, v, List.mem_range.mp hu, List.mem_range.mp hv, rfl⟩
  · rintro ⟨u, v, hu, hv, rfl⟩
    exact ⟨u, List.mem_range.mpr hu, List.mem_map.mpr ⟨v, List.mem_range.mpr hv, rfl⟩⟩
def spPairs (K : PySem.W.Frag) : Sp := fun vs H Q _ => ∃ n : Nat, vs = [.int (n : Int)] ∧ n ≤ 16 ∧ ∀ D L H', Same H H' → H D = none → H' D = some (.lst L) → PsV K H' L (prPre n n) → Q (.ref D) H'
abbrev nPairs : List Str := ["_law_many", "_law_found", "_law_u"]
theorem scPairs : FnScope nPairs ["_law_many"] (defScope sPairs) := ⟨rfl, rfl, rfl, by decide +kernel, rfl, by decide +kernel, by decide +kernel⟩
theorem lcPairs : LcScopes (defScope sPairs) nPairs (lcScope (opR (asgVal (forBody (bodyAt sPairs 1) 0)))) ["_law_v"] := ⟨by decide +kernel, rfl, by decide +kernel, by decide +kernel, by decide +kernel, by decide +kernel, by decide +kernel, by decide +kernel, by decide +kernel, by decide +kernel⟩
theorem ok_pairs {f : Addr} {fd : FuncData} (B : BltL mg) (F : Fun K "_law_pairs" "_law_pairs" sPairs f fd) : FnOk P w K mg base CX0 1 f fd ["_law_many"] (spPairs K) := by
  refine F.ok scPairs (fun vs H Q E h => ?_) (fun cdv A outer s H vs Q E hr h => ?_)
  · obtain ⟨n, rfl, _⟩ := h
    rfl
  · obtain ⟨n, rfl, hn, q⟩ := h
    refine ⟨_, pss_cons (ps_set (i := 1) scPairs.nd rfl (Or.inl rfl) (pe_lst pa_nil))
      (pss_cons (ps_for PassesOwn.never rfl (pi_range1 rfl B.range (pa_cons (pv 0) pa_nil)) (pg_name (i := 2) scPairs.nd rfl (Or.inr rfl))
        (pss_one (ps_set (i := 1) scPairs.nd rfl (Or.inl rfl) (pe_op op_cat (pv 1) (pe_lc1 rfl lcPairs rfl (pi_range1 rfl B.range (pa_cons (pv 0) pa_nil)) (fun _ _ _ => pe_tup (pa_cons (pv 2) (pa_cons (pv 3) pa_nil))))))))
      (pss_one (ps_ret (pv 1)))), ?_⟩
    refine ⟨Nat.zero_le _, fun D0 hD0 => ?_⟩
    refine ⟨_, rfl, (n : Int), rfl, by omega, by omega, for_range (n := n) (fun i σ H' => ∃ (o2 : Option V) (D : Addr) (L : List V), σ = [some (.int (n : Int)), some (.ref D), o2] ∧ Same H H' ∧ H D = none ∧ H' D = some (.lst L) ∧ PsV K H' L (prPre n i)) ?_ ?_ ?_⟩
    · exact ⟨none, D0, [], rfl, Same.upd hD0, hD0, upd_same, .nil⟩
    · rintro i σ H1 hi ⟨o2, D, L, rfl, s1, nD, eD, pL⟩
      have e0 : ((0 : Int) + (i : Nat)) = (i : Int) := by omega
      rw [e0]
      refine ⟨_, rfl, _, rfl, (n : Int), rfl, by omega, by omega, fun C hC => ?_⟩
      rw [Int.toNat_natCast]
      refine lc_range (n := n) (fun j ys H' => Same H1 H' ∧ H' C = some (.lst ys) ∧ PsV K H' ys (prRow i j)) ⟨Same.upd hC, upd_same, .nil⟩ (fun j ys H' _ h => h.2.1) ?_ ?_ ?_
      · rintro j ys H2 hj ⟨s2, eC, pC⟩
        have e1 : ((0 : Int) + (j : Nat)) = (j : Int) := by omega
        rw [e1]
        refine ⟨_, rfl, _, rfl, (by show 2 ≤ sizeLine; decide), fun t ht => ?_⟩
        have s3 : Same H2 (L2.upd H2 t (.tup [.int (i : Int), .int (j : Int)])) := Same.upd ht
        have e3 : L2.upd H2 t (.tup [.int (i : Int), .int (j : Int)]) t = some (.tup [.int (i : Int), .int (j : Int)]) := upd_same
        generalize L2.upd H2 t (.tup [.int (i : Int), .int (j : Int)]) = H3 at s3 e3 ⊢
        have ly : ys.length = j := by rw [pC.1, prRow_len]
        refine ⟨s3 _ _ eC, small1000 (by omega), fun b o e => ?_, upd_same, ?_⟩
        · rw [upd_ne (ne_of_none e hC)]
          exact s3 _ _ (s2 _ _ e)
        · rw [prRow_snoc]
          exact ((pC.same s3).app (L2.PsV.one (p := ((i : Int), (j : Int))) e3)).upd (s3 _ _ eC)
      · rintro ys H2 ⟨s2, eC, pC⟩
        have lL : L.length = i * n := by rw [pL.1, prPre_len]
        have ly : ys.length = n := by rw [pC.1, prRow_len]
        have : i * n ≤ 16 * 16 := Nat.mul_le_mul (by omega) hn
        refine ⟨D, C, _, _, rfl, rfl, s2 _ _ eD, eC, Nat.le_of_lt (small1000 (by omega)), fun R hR => ?_⟩
        have s3 : Same H2 (L2.upd H2 R (.lst (L ++ ys))) := Same.upd hR
        refine ⟨_, R, L ++ ys, rfl, (s1.trans s2).trans s3, (s1.trans s2).free hR, upd_same, ?_⟩
        rw [prPre_snoc]
        exact ((pL.same s2).app pC).same s3
      · rintro σ H' Q1 Q2 hq ⟨v1, e1, v2, e2, z, g⟩
        exact ⟨v1, e1, v2, e2, z, fun t ht => hq _ _ (g t ht)⟩
    · rintro σ H1 ⟨o2, D, L, rfl, s1, nD, eD, pL⟩
      exact ⟨_, rfl, q D L H1 s1 nD eD pL⟩
end
section
variable {P : Program} {w : World} {K : PySem.W.Frag} {mg : Str → Option Value} {base : Heap}
theorem WebAt.wbn {H : Hp} {p hA rA : Addr} {rs : List Addr} {n : Nat} {hs : List Int} {M : List (List Int)} (W : WebAt H p hA rA rs n hs M) : WbN K H (.ref p) n (hs, M) :=
  ⟨⟨p, hA, rA, rs, rfl, SqT.of W.tup, SqL.of W.hue, SqL.of W.rws, W.row.len, fun j t ws e1 e2 => SqL.of (W.row.row j t ws e1 e2)⟩, W.len, W.sq.len, fun r hr => by
    obtain ⟨j, hj⟩ := List.mem_iff_getElem?.mp hr
    exact (W.sq.row j r hj).1⟩
theorem WebAt.hue_at {H : Hp} {p hA rA : Addr} {rs : List Addr} {n : Nat} {hs : List Int} {M : List (List Int)} (W : WebAt H p hA rA rs n hs M) {u : Nat} (hu : u < n) : atI (hs.map V.int) (u : Int) = some (.int (hs[u]?.getD 0)) := by
  obtain ⟨z, hz⟩ := get_lt (l := hs) (i := u) (by rw [W.len]; exact hu)
  rw [hz]
  exact atI_nat (by rw [List.getElem?_map, hz]; rfl)
theorem WebAt.row_at {H : Hp} {p hA rA : Addr} {rs : List Addr} {n : Nat} {hs : List Int} {M : List (List Int)} (W : WebAt H p hA rA rs n hs M) {u v : Nat} (hu : u < n) (hv : v < n) : ∃ r, atI (rs.map V.ref) (u : Int) = some (.ref r) ∧ H r = some (.lst ((rowI M u).map V.int)) ∧ atI ((rowI M u).map V.int) (v : Int) = some (.int (ent M u v)) := by
  have sq := (show SqI n M from ⟨W.sq.len, fun r hr => by
    obtain ⟨j, hj⟩ := List.mem_iff_getElem?.mp hr
    exact (W.sq.row j r hj).1⟩)
  obtain ⟨r, x, h1, h2, h3⟩ := W.row.get (i := u) (by rw [W.row.len, W.sq.len]; exact hu)
  have e := (sq.row hu).1
  rw [h2] at e
  cases e
  exact ⟨r, at_ref h1, h3, at_rowI sq hu hv⟩
def dP (a b : Int) : PyData := .tuple [.int a, .int b]
structure Lk where
  b : Bool
  c : Int
  d : Int
  e : Int
  f : Int
  ps : List (Int × Int)
  deriving DecidableEq
def lkAt (us : List Int) (M T : List (List Int)) (u v : Nat) : Lk := ⟨decide (u = v), ent M u v, us[u]?.getD 0, us[v]?.getD 0, ent T v u, srtP ((rowI T u).zip (colI T v))⟩
def dPr (p : Int × Int) : PyData := dP p.1 p.2
def dLk (k : Lk) : PyData := .tuple [.bool k.b, .int k.c, .int k.d, .int k.e, .int k.f, .list (k.ps.map dPr)]
theorem lay_prs : ∀ ps : List (Int × Int), PyData.canLayAll0 (ps.map dPr) = true ∧ PyData.depthAll (ps.map dPr) ≤ 1
  | [] => ⟨rfl, Nat.zero_le _⟩
  | p :: ps => by
    obtain ⟨h1, h2⟩ := lay_prs ps
    rw [List.map_cons]
    have d1 : (dPr p).depth ≤ 1 := by simp [dPr, dP, PyData.depth, PyData.depthAll]
    have l1 : (dPr p).canLay0 = true := rfl
    simp only [PyData.canLayAll0, PyData.depthAll, h1, l1, Bool.and_self, true_and]
    omega
theorem eqv_prs : ∀ a b : List (Int × Int), PyData.eqvAll (a.map dPr) (b.map dPr) = decide (a = b)
  | [], [] => rfl
  | [], b :: bs => rfl
  | a :: as, [] => rfl
  | (a1, a2) :: as, (b1, b2) :: bs => by
    rw [List.map_cons, List.map_cons]
    have e : PyData.eqv (dPr (a1, a2)) (dPr (b1, b2)) = decide ((a1, a2) = (b1, b2)) := by
      simp only [dPr, dP, PyData.eqv, PyData.eqvAll]
      by_cases h1 : a1 = b1
      · by_cases h2 : a2 = b2
        · subst h1 h2; simp
        · simp [h2]
      · simp [h1]
    simp only [PyData.eqvAll, eqv_prs as bs, e]
    by_cases h : (a1, a2) = (b1, b2)
    · rw [h]
      by_cases h2 : as = bs
      · subst h2; simp
      · simp [h2]
    · rw [decide_eq_false h, Bool.false_and, decide_eq_false]
      intro z
      exact h (List.cons.inj z).1
theorem kdLk : KD dLk := by
  refine ⟨fun k => ?_, fun k => ?_, fun a b => ?_⟩
  · obtain ⟨h1, _⟩ := lay_prs k.ps
    simp only [dLk, PyData.canLay0, PyData.canLayAll0, h1, Bool.and_self]
  · obtain ⟨_, h2⟩ := lay_prs k.ps
    simp only [dLk, PyData.depth, PyData.depthAll]
    omega
  · obtain ⟨a1, a2, a3, a4, a5, a6⟩ := a
    obtain ⟨b1, b2, b3, b4, b5, b6⟩ := b
    simp only [dLk, PyData.eqv, PyData.eqvAll, eqv_prs]
    simp only [Lk.mk.injEq, Bool.decide_and]
    cases a1 <;> cases b1 <;> simp <;> rfl
theorem zip_rc {n : Nat} {T : List (List Int)} (h : SqI n T) {u v : Nat} (hu : u < n) (hv : v < n) : (rowI T u).zip (colI T v) = (List.range n).map fun w => (ent T u w, ent T w v) := by
  apply List.ext_getElem?
  intro w
  by_cases hw : w < n
  · rw [List.getElem?_map, List.getElem?_range hw]
    refine List.getElem?_zip_eq_some.mpr ⟨h.ent hu hw, ?_⟩
    unfold colI
    rw [List.getElem?_map, (h.row hw).1]
    show some (((rowI T w)[v]?).getD 0) = _
    rw [h.ent hw hv]
    rfl
  · rw [List.getElem?_eq_none (by rw [List.length_zip, (h.row hu).2]; omega), List.getElem?_eq_none (by rw [List.length_map, List.length_range]; omega)]
theorem psv_da {H : Hp} {ok : Addr → Prop} : ∀ {L : List V} {ps : List (Int × Int)}, PsV K H L ps → (∀ a, (∃ p : Int × Int, H a = some (.tup [.int p.1, .int p.2])) → V.ref a ∈ L → ok a) → DAs K ok H L (ps.map dPr)
  | [], [], _, _ => .nil
  | [], _ :: _, h, _ => absurd h.1 (by simp)
  | _ :: _, [], h, _ => absurd h.1 (by simp)
  | v :: L, p :: ps, h, ho => by
    obtain ⟨a, rfl, ha⟩ := h.2 0 v p rfl rfl
    exact .cons (.tup (ho a ⟨p, ha⟩ List.mem_cons_self) (SqT.of ha) (.cons (.int _) (.cons (.int _) .nil))) (psv_da ⟨by simpa using h.1, fun i v' p' h1 h2 => h.2 (i + 1) v' p' h1 h2⟩ fun a' e m => ho a' e (List.mem_cons_of_mem _ m))
theorem putK_le (kvs : List (Key × V)) (k : Key) (v : V) : (putK kvs k v).length ≤ kvs.length + 1 := by
  unfold putK
  split
  · rw [List.length_map]; omega
  · rw [List.length_append]; exact Nat.le_refl _
def lkF (n : Nat) (h : Nat → Int) (w : Nat → Nat → Int) (t : Nat → Nat → Int) (u v : Nat) : Lk := ⟨decide (u = v), w u v, h u, h v, t v u, srtP ((List.range n).map fun x => (t u x, t x v))⟩
def KinF (n : Nat) (h : Nat → Int) (w : Nat → Nat → Int) (t : Nat → Nat → Int) : Prop := ∀ u v u' v' : Nat, u < n → v < n → u' < n → v' < n → t u v = t u' v' → lkF n h w t u v = lkF n h w t u' v'
def WithinF (n : Nat) (p t : Nat → Nat → Int) : Prop := ∀ u v u' v' : Nat, u < n → v < n → u' < n → v' < n → p u v = p u' v' → t u v = t u' v'
def CoarseF (n : Nat) (h : Nat → Int) (w : Nat → Nat → Int) (t : Nat → Nat → Int) : Prop := KinF n h w t ∧ ∀ p, KinF n h w p → WithinF n p t
def hueF (us : List Int) (u : Nat) : Int := us[u]?.getD 0
theorem lk_F {n : Nat} {us : List Int} {M T : List (List Int)} (h : SqI n T) {u v : Nat} (hu : u < n) (hv : v < n) : lkAt us M T u v = lkF n (hueF us) (ent M) (ent T) u v := by
  unfold lkAt lkF hueF
  rw [zip_rc h hu hv]
theorem lk_map {n : Nat} {h : Nat → Int} {w : Nat → Nat → Int} {p t : Nat → Nat → Int} (wi : WithinF n p t) {u v u' v' : Nat} (hu : u < n) (hv : v < n) (hu' : u' < n) (hv' : v' < n) (e : lkF n h w p u v = lkF n h w p u' v') : lkF n h w t u v = lkF n h w t u' v' := by
  have nz : 0 < n := by omega
  classical
  let φ : Int → Int := fun z => if hz : ∃ x y, x < n ∧ y < n ∧ p x y = z then t hz.choose hz.choose_spec.choose else 0
  have hφ : ∀ x y, x < n → y < n → φ (p x y) = t x y := fun x y hx hy => by
    have hz : ∃ a b, a < n ∧ b < n ∧ p a b = p x y := ⟨x, y, hx, hy, rfl⟩
    show (if hz : ∃ a b, a < n ∧ b < n ∧ p a b = p x y then t hz.choose hz.choose_spec.choose else 0) = _
    rw [dif_pos hz]
    obtain ⟨h1, h2, h3⟩ := hz.choose_spec.choose_spec
    exact wi _ _ x y h1 h2 hx hy h3
  unfold lkF at e ⊢
  rw [Lk.mk.injEq] at e ⊢
  obtain ⟨e1, e2, e3, e4, e5, e6⟩ := e
  refine ⟨e1, e2, e3, e4, wi v u v' u' hv hu hv' hu' e5, ?_⟩
  rw [srtP_iff] at e6 ⊢
  have m : ∀ a b, a < n → b < n → ((List.range n).map fun x => (t a x, t x b)) = ((List.range n).map fun x => (p a x, p x b)).map fun q => (φ q.1, φ q.2) := fun a b ha hb => by
    rw [List.map_map]
    refine List.map_congr_left fun x hx => ?_
    have hx := List.mem_range.mp hx
    show _ = (φ (p a x), φ (p x b))
    rw [hφ a x ha hx, hφ x b hx hb]
  rw [m u v hu hv, m u' v' hu' hv']
  exact e6.map _
theorem lk_ren {n : Nat} {h : Nat → Int} {w t : Nat → Nat → Int} {σ : Nat → Nat} (perm : ((List.range n).map σ).Perm (List.range n)) {u v : Nat} (hu : u < n) (hv : v < n) : lkF n (fun u => h (σ u)) (fun u v => w (σ u) (σ v)) (fun u v => t (σ u) (σ v)) u v = lkF n h w t (σ u) (σ v) := by
  have inj : ∀ a b, a < n → b < n → σ a = σ b → a = b := by
    have nd : ((List.range n).map σ).Nodup := perm.nodup_iff.mpr List.nodup_range
    intro a b ha hb e
    have e1 : ((List.range n).map σ)[a]? = some (σ a) := by rw [List.getElem?_map, List.getElem?_range ha]; rfl
    have e2 : ((List.range n).map σ)[b]? = some (σ b) := by rw [List.getElem?_map, List.getElem?_range hb]; rfl
    obtain ⟨p1, q1⟩ := List.getElem?_eq_some_iff.mp e1
    obtain ⟨p2, q2⟩ := List.getElem?_eq_some_iff.mp e2
    exact (List.getElem_inj nd).mp (q1.trans (e.trans q2.symm))
  unfold lkF
  rw [Lk.mk.injEq]
  refine ⟨decide_eq_decide.mpr ⟨fun e => by rw [e], inj u v hu hv⟩, rfl, rfl, rfl, rfl, ?_⟩
  rw [srtP_iff]
  have : ((List.range n).map fun x => (t (σ u) (σ x), t (σ x) (σ v))) = ((List.range n).map σ).map fun y => (t (σ u) y, t y (σ v)) := by rw [List.map_map]; rfl
  rw [this]
  exact perm.map _
theorem perm_lt {n : Nat} {σ : Nat → Nat} (perm : ((List.range n).map σ).Perm (List.range n)) {u : Nat} (hu : u < n) : σ u < n := List.mem_range.mp (perm.mem_iff.mp (List.mem_map.mpr ⟨u, List.mem_range.mpr hu, rfl⟩))
theorem perm_onto {n : Nat} {σ : Nat → Nat} (perm : ((List.range n).map σ).Perm (List.range n)) : ∃ τ : Nat → Nat, (∀ y, y < n → τ y < n ∧ σ (τ y) = y) ∧ ((List.range n).map τ).Perm (List.range n) := by
  classical
  have onto : ∀ y, y < n → ∃ x, x < n ∧ σ x = y := fun y hy => by
    obtain ⟨x, hx, e⟩ := List.mem_map.mp (perm.mem_iff.mpr (List.mem_range.mpr hy))
    exact ⟨x, List.mem_range.mp hx, e⟩
  let τ : Nat → Nat := fun y => if h : y < n then (onto y h).choose else 0
  have hτ : ∀ y, y < n → τ y < n ∧ σ (τ y) = y := fun y hy => by
    show (if h : y < n then (onto y h).choose else 0) < n ∧ σ (if h : y < n then (onto y h).choose else 0) = y
    rw [dif_pos hy]
    exact (onto y hy).choose_spec
  refine ⟨τ, hτ, ?_⟩
  have inj : ∀ a b, a < n → b < n → σ a = σ b → a = b := by
    have nd : ((List.range n).map σ).Nodup := perm.nodup_iff.mpr List.nodup_range
    intro a b ha hb e
    have e1 : ((List.range n).map σ)[a]? = some (σ a) := by rw [List.getElem?_map, List.getElem?_range ha]; rfl
    have e2 : ((List.range n).map σ)[b]? = some (σ b) := by rw [List.getElem?_map, List.getElem?_range hb]; rfl
    obtain ⟨p1, q1⟩ := List.getElem?_eq_some_iff.mp e1
    obtain ⟨p2, q2⟩ := List.getElem?_eq_some_iff.mp e2
    exact (List.getElem_inj nd).mp (q1.trans (e.trans q2.symm))
  have p2 := perm.map τ
  rw [List.map_map] at p2
  have e : (List.range n).map (τ ∘ σ) = List.range n := by
    have : (List.range n).map (τ ∘ σ) = (List.range n).map id := List.map_congr_left fun x hx => by
      have hx := List.mem_range.mp hx
      have sx := perm_lt perm hx
      exact inj _ _ (hτ _ sx).1 hx (hτ _ sx).2
    rw [this, List.map_id]
  rw [e] at p2
  exact p2.symm
theorem coarse_ren {n : Nat} {h : Nat → Int} {w t t' : Nat → Nat → Int} {σ : Nat → Nat} (perm : ((List.range n).map σ).Perm (List.range n)) (c : CoarseF n h w t) (c' : CoarseF n (fun u => h (σ u)) (fun u v => w (σ u) (σ v)) t') :
    WithinF n t' (fun u v => t (σ u) (σ v)) ∧ WithinF n (fun u v => t (σ u) (σ v)) t' := by
  obtain ⟨τ, hτ, pτ⟩ := perm_onto perm
  refine ⟨?_, c'.2 _ fun u v u' v' hu hv hu' hv' e => ?_⟩
  · have inj : ∀ a, a < n → τ (σ a) = a := by
      have nd : ((List.range n).map σ).Nodup := perm.nodup_iff.mpr List.nodup_range
      intro a ha
      obtain ⟨h1, h2⟩ := hτ _ (perm_lt perm ha)
      have e1 : ((List.range n).map σ)[τ (σ a)]? = some (σ (τ (σ a))) := by rw [List.getElem?_map, List.getElem?_range h1]; rfl
      have e2 : ((List.range n).map σ)[a]? = some (σ a) := by rw [List.getElem?_map, List.getElem?_range ha]; rfl
      obtain ⟨p1, q1⟩ := List.getElem?_eq_some_iff.mp e1
      obtain ⟨p2, q2⟩ := List.getElem?_eq_some_iff.mp e2
      exact (List.getElem_inj nd).mp (q1.trans (h2.trans q2.symm))
    have kin : KinF n h w fun u v => t' (τ u) (τ v) := by
      intro u v u' v' hu hv hu' hv' e
      have g : ∀ a b, a < n → b < n → lkF n h w (fun u v => t' (τ u) (τ v)) a b = lkF n (fun u => h (σ u)) (fun u v => w (σ u) (σ v)) t' (τ a) (τ b) := fun a b ha hb => by
        rw [← lk_ren (h := fun u => h (σ u)) (w := fun u v => w (σ u) (σ v)) (t := t') pτ ha hb]
        have ea := (hτ a ha).2
        have eb := (hτ b hb).2
        unfold lkF
        rw [Lk.mk.injEq]
        refine ⟨rfl, ?_, ?_, ?_, rfl, rfl⟩
        · show w a b = w (σ (τ a)) (σ (τ b))
          rw [ea, eb]
        · show h a = h (σ (τ a))
          rw [ea]
        · show h b = h (σ (τ b))
          rw [eb]
      rw [g u v hu hv, g u' v' hu' hv']
      exact c'.1 _ _ _ _ (hτ u hu).1 (hτ v hv).1 (hτ u' hu').1 (hτ v' hv').1 e
    have wi := c.2 _ kin
    intro u v u' v' hu hv hu' hv' e
    refine wi _ _ _ _ (perm_lt perm hu) (perm_lt perm hv) (perm_lt perm hu') (perm_lt perm hv') ?_
    show t' (τ (σ u)) (τ (σ v)) = t' (τ (σ u')) (τ (σ v'))
    rw [inj u hu, inj v hv, inj u' hu', inj v' hv']
    exact e
  · rw [lk_ren perm hu hv, lk_ren perm hu' hv']
    exact c.1 _ _ _ _ (perm_lt perm hu) (perm_lt perm hv) (perm_lt perm hu') (perm_lt perm hv') e
theorem marks_prs (us : List Int) (M T : List (List Int)) : marksT us M T = (prs us.length).map fun p => mkAt us M T p.1 p.2 := by
  unfold marksT preK rowK prs
  rw [List.map_flatMap]
  congr 1
  funext u
  rw [List.map_map]
  rfl
theorem flat_prs {n : Nat} {T : List (List Int)} (h : SqI n T) : T.flatten = (prs n).map fun p => ent T p.1 p.2 := by
  have us : (List.replicate n (0 : Int)).length = n := List.length_replicate
  have h' : SqI (List.replicate n (0 : Int)).length T := by rw [us]; exact h
  rw [← marksT_kinds (us := List.replicate n 0) (M := []) h', marks_prs, List.map_map, us]
  rfl
theorem map_numb {α κ : Type} [DecidableEq κ] {L : List α} {e : α → Int} {m : α → κ} (h : L.map e = nI (numb (L.map m))) {p q : α} (hp : p ∈ L) (hq : q ∈ L) : e p = e q ↔ m p = m q := by
  obtain ⟨i, hi⟩ := List.mem_iff_getElem?.mp hp
  obtain ⟨j, hj⟩ := List.mem_iff_getElem?.mp hq
  have a1 : (L.map e)[i]? = some (e p) := by rw [List.getElem?_map, hi]; rfl
  have a2 : (L.map e)[j]? = some (e q) := by rw [List.getElem?_map, hj]; rfl
  have b1 : (L.map m)[i]? = some (m p) := by rw [List.getElem?_map, hi]; rfl
  have b2 : (L.map m)[j]? = some (m q) := by rw [List.getElem?_map, hj]; rfl
  rw [h, nI_get] at a1 a2
  obtain ⟨x, hx, ex⟩ := Option.map_eq_some_iff.mp a1
  obtain ⟨y, hy, ey⟩ := Option.map_eq_some_iff.mp a2
  rw [← ex, ← ey, Int.ofNat_inj]
  exact numb_get b1 b2 hx hy
theorem mk_iff {us : List Int} {M T : List (List Int)} (h : SqI us.length T) {u v u' v' : Nat} (hu : u < us.length) (hv : v < us.length) (hu' : u' < us.length) (hv' : v' < us.length) :
    mkAt us M T u v = mkAt us M T u' v' ↔ ent T u v = ent T u' v' ∧ lkF us.length (hueF us) (ent M) (ent T) u v = lkF us.length (hueF us) (ent M) (ent T) u' v' := by
  rw [← lk_F h hu hv, ← lk_F h hu' hv']
  unfold mkAt lkAt waysOf
  rw [KM.mk.injEq, Lk.mk.injEq]
  have e : ∀ a b : List (Int × Int), (a.map fun p => [p.1, p.2]) = (b.map fun p => [p.1, p.2]) ↔ a = b := fun a b =>
    List.map_inj_right fun x y q => by
      obtain ⟨x1, x2⟩ := x
      obtain ⟨y1, y2⟩ := y
      simp only [List.cons.injEq, and_true] at q
      rw [q.1, q.2]
  rw [e]
section
variable {us : List Int} {M : List (List Int)}
theorem tab_one {ns : List Int} (hl : ns.length = totW [(us, M)]) : SqI us.length (tabAt ns [(us, M)] 0) ∧ ns = (prs us.length).map fun p => ent (tabAt ns [(us, M)] 0) p.1 p.2 := by
  have sq : SqI us.length (tabAt ns [(us, M)] 0) := tab_sq (Ws := [(us, M)]) (i := 0) (W := (us, M)) hl rfl
  refine ⟨sq, ?_⟩
  rw [← flat_prs sq]
  have := kinds_tabs hl
  have e : tabsOf ns [(us, M)] = [tabAt ns [(us, M)] 0] := rfl
  rw [e] at this
  simp only [kindsAll, List.map_cons, List.map_nil, List.flatten_cons, List.flatten_nil, List.append_nil] at this
  exact this.symm
theorem step_one (ns : List Int) : stepK [(us, M)] ns = nI (numb ((prs us.length).map fun p => mkAt us M (tabAt ns [(us, M)] 0) p.1 p.2)) := by
  unfold stepK
  have e : tabsOf ns [(us, M)] = [tabAt ns [(us, M)] 0] := rfl
  rw [e]
  simp only [marksAll, List.zipWith_cons_cons, List.zipWith_nil_left, List.flatten_cons, List.flatten_nil, List.append_nil]
  rw [marks_prs]
theorem steps_top {ns : List Int} (st : StepsK [(us, M)] ns) {p : Nat → Nat → Int} (kp : KinF us.length (hueF us) (ent M) p) : WithinF us.length p (ent (tabAt ns [(us, M)] 0)) := by
  induction st with
  | zero =>
    obtain ⟨sq, e⟩ := tab_one (us := us) (M := M) (ns := List.replicate (totW [(us, M)]) 0) List.length_replicate
    have z : ∀ u v, u < us.length → v < us.length → ent (tabAt (List.replicate (totW [(us, M)]) 0) [(us, M)] 0) u v = 0 := fun u v hu hv => by
      have : ent (tabAt (List.replicate (totW [(us, M)]) 0) [(us, M)] 0) u v ∈ List.replicate (totW [(us, M)]) (0 : Int) := by
        rw [show List.replicate (totW [(us, M)]) (0 : Int) = _ from e]
        exact List.mem_map.mpr ⟨(u, v), prs_mem.mpr ⟨hu, hv⟩, by rw [← e]⟩
      exact List.eq_of_mem_replicate this
    intro u v u' v' hu hv hu' hv' _
    rw [z u v hu hv, z u' v' hu' hv']
  | @step ns st ih =>
    obtain ⟨sq, e⟩ := tab_one (us := us) (M := M) (ns := stepK [(us, M)] ns) (stepK_len _ _)
    obtain ⟨sq0, e0⟩ := tab_one (us := us) (M := M) (ns := ns) st.len
    have e' := e.symm.trans (step_one ns)
    intro u v u' v' hu hv hu' hv' q
    refine (map_numb (p := (u, v)) (q := (u', v')) e' (prs_mem.mpr ⟨hu, hv⟩) (prs_mem.mpr ⟨hu', hv'⟩)).mpr ?_
    exact (mk_iff sq0 hu hv hu' hv').mpr ⟨ih u v u' v' hu hv hu' hv' q, lk_map ih hu hv hu' hv' (kp u v u' v' hu hv hu' hv' q)⟩
theorem end_coarse {ns : List Int} (en : EndK [(us, M)] ns) : CoarseF us.length (hueF us) (ent M) (ent (tabAt ns [(us, M)] 0)) := by
  obtain ⟨st, e⟩ := en
  obtain ⟨sq, e0⟩ := tab_one (us := us) (M := M) (ns := ns) st.len
  refine ⟨fun u v u' v' hu hv hu' hv' q => ?_, fun p kp => steps_top st kp⟩
  have e1 := e0.symm.trans (e.symm.trans (step_one ns))
  have := (map_numb (p := (u, v)) (q := (u', v')) e1 (prs_mem.mpr ⟨hu, hv⟩) (prs_mem.mpr ⟨hu', hv'⟩)).mp q
  exact ((mk_iff sq hu hv hu' hv').mp this).2
end
theorem within_eq {n : Nat} {s t : Nat → Nat → Int} {a b : List Int} (ha : a = (prs n).map fun p => s p.1 p.2) (hb : b = (prs n).map fun p => t p.1 p.2) (na : Norm a) (nb : Norm b) (w1 : WithinF n s t) (w2 : WithinF n t s) : a = b := by
  have fin : ∀ {a b : List Int} {s t : Nat → Nat → Int}, a = ((prs n).map fun p => s p.1 p.2) → b = ((prs n).map fun p => t p.1 p.2) → WithinF n s t → Finer a b := by
    intro a b s t ha hb w1 i j l x y e1 e2 e3 e4
    rw [ha] at e1 e2
    rw [hb] at e3 e4
    obtain ⟨p, hp, rfl⟩ := map_get e1
    obtain ⟨q, hq, eq⟩ := map_get e2
    obtain ⟨p', hp', rfl⟩ := map_get e3
    obtain ⟨q', hq', rfl⟩ := map_get e4
    rw [hp] at hp'
    rw [hq] at hq'
    cases hp'
    cases hq'
    obtain ⟨p1, p2⟩ := prs_mem.mp (List.mem_of_getElem? hp)
    obtain ⟨q1, q2⟩ := prs_mem.mp (List.mem_of_getElem? hq)
    exact w1 _ _ _ _ p1 p2 q1 q2 eq
  exact norm_eq na nb (by rw [ha, hb, List.length_map, List.length_map]) (fin ha hb w1) (fin hb ha w2)
end
section
variable {P : Program} {w : World} {K : PySem.W.Frag} {mg : Str → Option Value} {base : Heap}
def rI (k : Nat) : List Int := (List.range k).map fun (i : Nat) => (i : Int)
theorem rI_len (k : Nat) : (rI k).length = k := by unfold rI; rw [List.length_map, List.length_range]
theorem rI_map (k : Nat) : ((List.range k).map fun (i : Nat) => V.int (i : Int)) = (rI k).map V.int := by unfold rI; rw [List.map_map]; rfl
structure WR (H : Hp) (p : Addr) (hs : List Int) (M : List (List Int)) : Prop where
  ex : ∃ hA rA rs, H p = some (.tup [.ref hA, .ref rA]) ∧ H hA = some (.lst (hs.map V.int)) ∧ H rA = some (.lst (rs.map V.ref)) ∧ RowsAt H rs M
structure WN (H H' : Hp) (p : Addr) (hs : List Int) (M : List (List Int)) : Prop where
  ex : ∃ hA rA rs, H' p = some (.tup [.ref hA, .ref rA]) ∧ H' hA = some (.lst (hs.map V.int)) ∧ H' rA = some (.lst (rs.map V.ref)) ∧ RowsAt H' rs M ∧ (∀ a ∈ p :: hA :: rA :: rs, H a = none) ∧ hA ≠ rA ∧ hA ∉ rs ∧ rA ∉ rs
def renH (hs : List Int) (os : List Int) : List Int := os.map fun o => hs.getD o.toNat 0
def renM (M : List (List Int)) (os : List Int) : List (List Int) := os.map fun u => renH (M.getD u.toNat []) os
def spPicked : Sp := fun vs H Q _ => ∃ (tA oA : Addr) (xs os : List Int), vs = [.ref tA, .ref oA] ∧ H tA = some (.lst (xs.map V.int)) ∧ H oA = some (.lst (os.map V.int)) ∧ (∀ o ∈ os, 0 ≤ o ∧ o < (xs.length : Int)) ∧ os.length ≤ 100 ∧
  ∀ p, H p = none → Q (.ref p) (upd H p (.lst ((renH xs os).map V.int)))
abbrev nPicked : List Str := ["things", "order"]
theorem scPicked : FnScope nPicked ["things", "order"] (defScope sPicked) := ⟨rfl, rfl, rfl, by decide +kernel, rfl, by decide +kernel, by decide +kernel⟩
theorem lcPicked : LcScope (defScope sPicked) nPicked (lcScope (asgVal (bodyAt sPicked 0))) "place" := ⟨by decide +kernel, rfl, by decide +kernel, by decide +kernel, by decide +kernel, by decide +kernel, by decide +kernel, by decide +kernel, by decide +kernel, by decide +kernel⟩
theorem at_int {xs : List Int} {o : Int} (h0 : 0 ≤ o) (h1 : o < (xs.length : Int)) : atI (xs.map V.int) o = some (.int (xs.getD o.toNat 0)) := by
  obtain ⟨j, rfl⟩ := Int.eq_ofNat_of_zero_le h0
  have hj : j < xs.length := by omega
  refine atI_nat ?_
  rw [List.getElem?_map, List.getElem?_eq_getElem hj]
  show some (V.int xs[j]) = some (V.int (xs.getD (Int.toNat (j : Int)) 0))
  rw [Int.toNat_natCast, List.getD_eq_getElem?_getD, List.getElem?_eq_getElem hj]
  rfl
theorem ok_picked {f : Addr} {fd : FuncData} (F : Fun K "picked" "picked" sPicked f fd) : FnOk P w K mg base CX0 1 f fd ["things", "order"] spPicked := by
  refine F.ok scPicked (fun vs H Q E h => ?_) (fun cdv A outer s H vs Q E hr h => ?_)
  · obtain ⟨tA, oA, xs, os, rfl, _⟩ := h
    rfl
  · obtain ⟨tA, oA, xs, os, rfl, ht, ho, hb, hl, q⟩ := h
    refine ⟨_, pss_one (ps_ret (pe_lc rfl lcPicked rfl (pi_list (pv 1)) (fun _ _ _ => pe_ix (ix_listK (K := K)) (pv 0) (pv 2) (fun _ _ => rfl)))), ?_⟩
    refine ⟨_, rfl, oA, rfl, ⟨_, SqL.of ho⟩, fun D hD => ?_⟩
    have nt : tA ≠ D := ne_of_none ht hD
    have no : oA ≠ D := ne_of_none ho hD
    refine lc_list (xs := os.map V.int) (fun i ys H' => ys = (renH xs (os.take i)).map V.int ∧ H' = upd H D (.lst ys)) ⟨rfl, rfl⟩ (fun i ys H' _ ⟨_, e⟩ => ?_) ?_ ?_ ?_
    · subst e
      exact ⟨SqL.of (by rw [upd_ne no]; exact ho), upd_same⟩
    · rintro i x ys H' hx ⟨rfl, rfl⟩
      rw [List.getElem?_map] at hx
      obtain ⟨o, ho', ex⟩ := Option.map_eq_some_iff.mp hx
      subst ex
      have hm := hb o (List.mem_of_getElem? ho')
      refine ⟨_, rfl, _, rfl, tA, _, _, _, rfl, rfl, SqL.of (by rw [upd_ne nt]; exact ht), at_int hm.1 hm.2, upd_same, small1000 (by unfold renH; rw [List.length_map, List.length_map, List.length_take]; omega), ?_, by rw [upd_upd]⟩
      rw [take_snoc ho']
      unfold renH
      rw [List.map_append, List.map_append]
      rfl
    · rintro ys H' ⟨rfl, rfl⟩
      have := q D hD
      rw [List.length_map, List.take_length]
      exact this
    · rintro σ H' Q1 Q2 hq ⟨v, e, v', e', p, xs', i, z, e1, e2, e3, e4, e5⟩
      exact ⟨v, e, v', e', p, xs', i, z, e1, e2, e3, e4, hq _ _ e5⟩
theorem rI_sorted (k : Nat) : (rI k).Pairwise (· ≤ ·) := by
  unfold rI
  rw [List.pairwise_map]
  exact List.Pairwise.imp (fun h => by omega) List.pairwise_lt_range
theorem rI_mem {k : Nat} {o : Int} (h : o ∈ rI k) : 0 ≤ o ∧ o < (k : Int) := by
  unfold rI at h
  obtain ⟨i, hi, rfl⟩ := List.mem_map.mp h
  have := List.mem_range.mp hi
  omega
def spRen : Sp := fun vs H Q _ => ∃ (wA oA : Addr) (n : Nat) (hs : List Int) (M : List (List Int)) (os : List Int), vs = [.ref wA, .ref oA] ∧ WR H wA hs M ∧ hs.length = n ∧ Sq n M ∧ n ≤ 8 ∧ H oA = some (.lst (os.map V.int)) ∧ os.length < 64 ∧
  os.Perm (rI n) ∧ (∀ p H', Same H H' → WN H H' p (renH hs os) (renM M os) → Q (.ref p) H')
abbrev nRen : List Str := ["web", "order", "hues", "rows"]
theorem scRen : FnScope nRen ["web", "order"] (defScope sRenamed) := ⟨rfl, rfl, rfl, by decide +kernel, rfl, by decide +kernel, by decide +kernel⟩
theorem lcRen : LcScope (defScope sRenamed) nRen (lcScope (tupAt (asgVal (bodyAt sRenamed 3)) 1)) "place" := ⟨by decide +kernel, rfl, by decide +kernel, by decide +kernel, by decide +kernel, by decide +kernel, by decide +kernel, by decide +kernel, by decide +kernel, by decide +kernel⟩
theorem ok_ren {f fP : Addr} {fd fdP : FuncData} (B : BltL mg) (F : Fun K "web_renamed" "web_renamed" sRenamed f fd) (DP : Dn K mg "picked" sPicked ["things", "order"] fP fdP) (GP : FnOk P w K mg base CX0 1 fP fdP ["things", "order"] spPicked) :
    FnOk P w K mg base CX0 2 f fd ["web", "order"] spRen := by
  refine F.ok scRen (fun vs H Q E h => ?_) (fun cdv A outer s H vs Q E hr h => ?_)
  · obtain ⟨wA, oA, n, hs, M, os, rfl, _⟩ := h
    rfl
  · obtain ⟨wA, oA, n, hs, M, os, rfl, hW, hl, hS, hn, ho, hlo, hp, q1⟩ := h
    obtain ⟨hA, rA, rs, w1, w2, w3, R⟩ := hW.ex
    refine ⟨_, pss_cons (ps_set (i := 2) scRen.nd rfl (Or.inl rfl) (pe_ix ix_tup (pv 0) pe_int (fun _ _ => rfl)))
      (pss_cons (ps_set (i := 3) scRen.nd rfl (Or.inr rfl) (pe_ix ix_tup (pv 0) pe_int (fun _ _ => rfl)))
      (pss_cons (ps_if (pt_cmpR (op_neD hr.units) (pe_callB call_sorted (by rfl) B.sorted boot_sorted (pa_cons (pv 1) pa_nil)) (pe_callTy (call_list_rng rfl) (by rfl) B.list boot_list (pa_cons (pe_callTy call_range1v (by rfl) B.range boot_range (pa_cons (pe_callB call_len_seq (by rfl) B.len PySem.boot_len (pa_cons (pv 2) pa_nil)) pa_nil)) pa_nil)) (nomark _))
        (pss_one ps_never) pss_nil)
      (pss_one (ps_ret (pe_tup (pa_cons (pe_fn DP GP hr rfl (pa_cons (pv 2) (pa_cons (pv 1) pa_nil))) (pa_cons (pe_lc rfl lcRen rfl (pi_list (pv 1)) (fun _ _ _ => pe_fn DP GP hr rfl (pa_cons (pe_ix (ix_listK (K := K)) (pv 3) (pv 4) (fun _ _ => rfl)) (pa_cons (pv 1) pa_nil)))) pa_nil))))))), ?_⟩
    refine ⟨_, rfl, wA, _, _, _, rfl, rfl, SqT.of w1, rfl, ?_⟩
    refine ⟨_, rfl, wA, _, _, _, rfl, rfl, SqT.of w1, rfl, ?_⟩
    refine ⟨_, rfl, oA, os, rfl, SqL.of ho, hlo, fun l1 ns hl1 pm so => ?_⟩
    have s1 : Same H (L2.upd H l1 (.lst (ns.map V.int))) := Same.upd hl1
    have e1 : L2.upd H l1 (.lst (ns.map V.int)) l1 = some (.lst (ns.map V.int)) := upd_same
    generalize L2.upd H l1 (.lst (ns.map V.int)) = H1 at s1 e1 ⊢
    refine ⟨_, rfl, hA, _, rfl, .inl (SqL.of (s1 _ _ w2)), _, rfl, fun gA hgA => ⟨gA, hs.length, rfl, by rw [List.length_map]; exact upd_same, by omega, fun l2 hl2 => ?_⟩⟩
    have s2 : Same H1 (L2.upd (L2.upd H1 gA (.rng 0 (((hs.map V.int).length : Nat) : Int))) l2 (.lst ((List.range hs.length).map fun (i : Nat) => V.int (i : Int)))) := (Same.upd hgA).trans (Same.upd hl2)
    have e2 : L2.upd (L2.upd H1 gA (.rng 0 (((hs.map V.int).length : Nat) : Int))) l2 (.lst ((List.range hs.length).map fun (i : Nat) => V.int (i : Int))) l2 = some (.lst ((rI hs.length).map V.int)) := by rw [upd_same, rI_map]
    generalize L2.upd (L2.upd H1 gA (.rng 0 (((hs.map V.int).length : Nat) : Int))) l2 (.lst ((List.range hs.length).map fun (i : Nat) => V.int (i : Int))) = H2 at s2 e2 ⊢
    have t2 := s1.trans s2
    refine ⟨dI ns, dI (rI hs.length), daI trivial (SqL.of (s2 _ _ e1)), daI trivial (SqL.of e2), ⟨(lay_dI _).1, (lay_dI _).1, Nat.le_trans (lay_dI _).2 (by decide)⟩, _, rfl, ?_⟩
    rw [eqv_dI, hl]
    · have en : ns = rI n := PySem.W.ksm_same (pm.trans hp) so (rI_sorted n)
      refine iteNS en ?_
      have hmem : ∀ o ∈ os, 0 ≤ o ∧ o < (n : Int) := fun o h => rI_mem (hp.mem_iff.mp h)
      have hlos : os.length = n := by rw [hp.length_eq, rI_len]
      refine ⟨_, rfl, _, rfl, hA, oA, hs, os, rfl, t2 _ _ w2, t2 _ _ ho, fun o h => by rw [hl]; exact hmem o h, by omega, fun pA hpA => ?_⟩
      have s3 : Same H2 (L2.upd H2 pA (.lst ((renH hs os).map V.int))) := Same.upd hpA
      have e3 : L2.upd H2 pA (.lst ((renH hs os).map V.int)) pA = some (.lst ((renH hs os).map V.int)) := upd_same
      generalize L2.upd H2 pA (.lst ((renH hs os).map V.int)) = H3 at s3 e3 ⊢
      have t3 := t2.trans s3
      have pA0 : H pA = none := t2.free hpA
      refine ⟨_, rfl, oA, rfl, ⟨_, SqL.of (t3 _ _ ho)⟩, fun D hD => ?_⟩
      have D0 : H D = none := t3.free hD
      have nDp : pA ≠ D := ne_of_none e3 hD
      refine lc_list (xs := os.map V.int) (fun i ys H' => ∃ rs' : List Addr, ys = rs'.map V.ref ∧ rs'.length = i ∧ Same H3 H' ∧ H' D = some (.lst ys) ∧ RowsAt H' rs' (renM M os |>.take i) ∧ ∀ r ∈ rs', H r = none ∧ r ≠ pA ∧ r ≠ D) ⟨[], rfl, rfl, Same.upd hD, upd_same, ⟨rfl, (fun i r x h _ => by cases h), List.nodup_nil⟩, (fun r hr => by cases hr)⟩ (fun i ys H' _ ⟨_, _, _, sm, eD, _⟩ => ⟨SqL.of (sm _ _ (t3 _ _ ho)), eD⟩) ?_ ?_ ?_
      · rintro i x ys H4 hx ⟨rs', rfl, l4, s4, eD, R4, o4⟩
        rw [List.getElem?_map] at hx
        obtain ⟨o, ho', ex⟩ := Option.map_eq_some_iff.mp hx
        subst ex
        have hm := hmem o (List.mem_of_getElem? ho')
        obtain ⟨j, rfl⟩ := Int.eq_ofNat_of_zero_le hm.1
        have hj : j < rs.length := by rw [R.len, hS.len]; omega
        obtain ⟨r, xr, g1, g2, g3⟩ := R.get hj
        have t4 := t3.trans s4
        have hlr := (hS.row j xr g2).1
        have hi := (List.getElem?_eq_some_iff.mp ho').1
        refine ⟨_, rfl, _, rfl, rA, _, _, _, rfl, rfl, SqL.of (t4 _ _ w3), at_ref g1, _, rfl, r, oA, xr, os, rfl, t4 _ _ g3, t4 _ _ ho, fun o h => by rw [hlr]; exact hmem o h, by omega, fun nA hnA => ?_⟩
        have nDn : nA ≠ D := (ne_of_none eD hnA).symm
        have nPn : nA ≠ pA := (ne_of_none (s4 _ _ e3) hnA).symm
        have nR : nA ∉ rs' := fun hmm => by
          obtain ⟨jj, hjj, ee⟩ := List.getElem_of_mem hmm
          obtain ⟨r', x', h1, h2, h3⟩ := R4.get hjj
          have : rs'[jj]? = some nA := by rw [List.getElem?_eq_getElem hjj, ee]
          rw [h1] at this
          cases this
          rw [h3] at hnA
          cases hnA
        have er : (renM M os).take (i + 1) = (renM M os).take i ++ [renH xr os] := by
          refine take_snoc ?_
          unfold renM
          rw [List.getElem?_map, ho']
          show some (renH (M.getD (Int.toNat (j : Int)) []) os) = _
          rw [Int.toNat_natCast, getD_some g2]
        have s5 : Same H4 (L2.upd H4 nA (.lst ((renH xr os).map V.int))) := Same.upd hnA
        have R5 : RowsAt (L2.upd H4 nA (.lst ((renH xr os).map V.int))) (rs' ++ [nA]) ((renM M os).take i ++ [renH xr os]) := R4.snoc (fun r' _ o' z => s5 r' o' z) upd_same nR
        refine ⟨s5 _ _ eD, small1000 (by rw [List.length_map]; omega), rs' ++ [nA], by rw [List.map_append]; rfl, by rw [List.length_append, l4]; rfl, fun b u e => ?_, upd_same, ?_, ?_⟩
        · have : b ≠ D := fun z => by subst z; rw [hD] at e; cases e
          rw [upd_ne this]
          exact s5 _ _ (s4 _ _ e)
        · rw [er]
          refine R5.keep fun r' hr' o' e => ?_
          have : r' ≠ D := by
            rcases List.mem_append.mp hr' with z | z
            · exact (o4 r' z).2.2
            · rw [List.mem_singleton.mp z]; exact nDn
          rw [upd_ne this]
          exact e
        · intro r' hr'
          rcases List.mem_append.mp hr' with z | z
          · exact o4 r' z
          · rw [List.mem_singleton.mp z]
            exact ⟨t4.free hnA, nPn, nDn⟩
      · rintro ys H4 ⟨rs', rfl, l4, s4, eD, R4, o4⟩
        refine ⟨(by show 2 ≤ sizeLine; decide), fun tA htA => ?_⟩
        have s5 : Same H4 (L2.upd H4 tA (.tup [.ref pA, .ref D])) := Same.upd htA
        have t4 := t3.trans s4
        have R5 := R4.keep (H' := L2.upd H4 tA (.tup [.ref pA, .ref D])) fun r' _ o' z => s5 r' o' z
        rw [List.length_map, List.take_of_length_le (by unfold renM; rw [List.length_map]; exact Nat.le_refl _)] at R5
        refine q1 tA _ (t4.trans s5) ⟨pA, D, rs', upd_same, s5 _ _ (s4 _ _ e3), s5 _ _ eD, R5, ?_, nDp, fun z => (o4 _ z).2.1 rfl, fun z => (o4 _ z).2.2 rfl⟩
        intro a ha
        rcases List.mem_cons.mp ha with rfl | ha
        · exact t4.free htA
        · rcases List.mem_cons.mp ha with rfl | ha
          · exact pA0
          · rcases List.mem_cons.mp ha with rfl | ha
            · exact D0
            · exact (o4 a ha).1
      · rintro σ H' Q1 Q2 hq ⟨v, x1, v2, x2, p1, x3, i1, z1, x4, x5, x6, x7, v3, x8, tA', oA', xs', os', y1, y2, y3, y4, y5, y6⟩
        exact ⟨v, x1, v2, x2, p1, x3, i1, z1, x4, x5, x6, x7, v3, x8, tA', oA', xs', os', y1, y2, y3, y4, y5, fun p hp => hq _ _ (y6 p hp)⟩
end
section
variable {P : Program} {w : World} {K : PySem.W.Frag} {mg : Str → Option Value} {base : Heap}
def spOrder : Sp := fun vs H Q _ => ∃ (c : Int) (n : Nat) (fr : Bool), vs = [.int c, .int (n : Int), .bl fr] ∧ n ≤ 8 ∧ ∀ (p : Addr) (os : List Int) (H' : Hp), Same H H' → H p = none → H' p = some (.lst (os.map V.int)) → os.Perm (rI n) → Q (.ref p) H'
abbrev nOrder : List Str := ["_law_cell", "_law_many", "_law_free", "_law_draws_here", "_law_found", "_law_k"]
abbrev aOrder : List Str := ["_law_cell", "_law_many", "_law_free"]
theorem scOrder : FnScope nOrder aOrder (defScope sOrder) := ⟨rfl, rfl, rfl, by decide +kernel, rfl, by decide +kernel, by decide +kernel⟩
theorem rI_succ (i : Nat) : rI (i + 1) = rI i ++ [(i : Int)] := by unfold rI; rw [List.range_succ, List.map_append]; rfl
theorem ok_order {f fD : Addr} {fd fdD : FuncData} (B : BltL mg) (F : Fun K "_law_order" "_law_order" sOrder f fd) (DD : Dn K mg "_law_draws" sDraws ["_law_cell", "_law_many", "_law_base", "_law_free"] fD fdD) (GD : FnOk P w K mg base CX0 1 fD fdD ["_law_cell", "_law_many", "_law_base", "_law_free"] spDraws) : FnOk P w K mg base CX0 2 f fd aOrder spOrder := by
  refine F.ok scOrder (fun vs H Q E h => ?_) (fun cdv A outer s H vs Q E hr h => ?_)
  · obtain ⟨c, n, fr, rfl, _⟩ := h
    rfl
  · obtain ⟨c, n, fr, rfl, hn, q⟩ := h
    refine ⟨_, pss_cons (ps_set (i := 3) scOrder.nd rfl (Or.inl rfl) (pe_fn DD GD hr rfl (pa_cons (pv 0) (pa_cons (pv 1) (pa_cons pe_int (pa_cons (pv 2) pa_nil))))))
      (pss_cons (ps_set (i := 4) scOrder.nd rfl (Or.inl rfl) (pe_lst pa_nil))
      (pss_cons (ps_for PassesOwn.never rfl (pi_range1 rfl B.range (pa_cons (pv 1) pa_nil)) (pg_name (i := 5) scOrder.nd rfl (Or.inl rfl))
        (pss_one (ps_expr (pe_bm PySem.F.plainAttrs_list PySem.F.slot_list_insert PySem.F.type_list_insert mt_insert (pv 4) (pa_cons (pe_op op_mod (pe_ix ix_list (pv 3) (pv 5) (fun _ _ => rfl)) (pe_op op_add (pv 5) pe_int)) (pa_cons (pv 5) pa_nil))))))
      (pss_one (ps_ret (pv 4))))), ?_⟩
    refine ⟨_, rfl, _, rfl, _, rfl, c, n, 5040, fr, rfl, by omega, by decide, .inl (by decide), fun d ds H1 hd s1 nd ed => ?_⟩
    obtain ⟨ld, bd⟩ := hd
    refine ⟨Nat.zero_le _, fun R hR => ?_⟩
    have nR : H R = none := s1.free hR
    refine ⟨_, rfl, (n : Int), rfl, by omega, by omega, for_range (n := n) (fun i σ H' => ∃ (o5 : Option V) (os : List Int), σ = [some (.int c), some (.int (n : Int)), some (.bl fr), some (.ref d), some (.ref R), o5] ∧ Same H1 H' ∧ H' R = some (.lst (os.map V.int)) ∧ os.Perm (rI i)) ⟨none, [], rfl, Same.upd hR, upd_same, List.Perm.refl _⟩ ?_ ?_⟩
    · rintro i σ H2 hi ⟨o5, os, rfl, s2, eR, pm⟩
      have li : i < ds.length := by omega
      have hat : atI (ds.map V.int) (0 + (i : Nat) : Int) = some (.int (ds[i]'li)) := by rw [Int.zero_add]; exact atI_nat (by rw [List.getElem?_map, List.getElem?_eq_getElem li]; rfl)
      have lo : os.length = i := by rw [pm.length_eq, rI_len]
      generalize ds[i]'li = x at hat
      obtain ⟨k, ek⟩ := Int.eq_ofNat_of_zero_le (Int.emod_nonneg x (by omega : (0 + (i : Nat) + 1 : Int) ≠ 0))
      have hk : k ≤ i := by
        have := Int.emod_lt_of_pos x (by omega : (0 : Int) < (0 + (i : Nat) + 1 : Int))
        omega
      refine ⟨_, rfl, .inl ⟨rfl, _, SqL.of eR⟩, _, rfl, _, rfl, d, _, _, _, rfl, rfl, SqL.of (s2 _ _ ed), hat, _, rfl, _, _, rfl, rfl, _, _, rfl, rfl, (by show (0 : Int) < 0 + (i : Nat) + 1; omega), _, rfl, ?_⟩
      refine ⟨R, _, k, .int (0 + (i : Nat) : Int), rfl, ?_, eR, by rw [List.length_map]; omega, small1000 (by rw [List.length_map]; omega), ?_⟩
      · show [V.int (x % (0 + (i : Nat) + 1)), V.int _] = _
        rw [ek]
      · refine ⟨_, os.take k ++ (i : Int) :: os.drop k, rfl, fun b o e => by rw [upd_ne (ne_of_none e hR)]; exact s2 _ _ e, ?_, ?_⟩
        · rw [upd_same, List.map_append, List.map_cons, List.map_take, List.map_drop, Int.zero_add]
        · rw [rI_succ]
          refine List.perm_middle.trans ?_
          rw [List.take_append_drop]
          exact (List.Perm.cons _ pm).trans (List.perm_append_singleton _ _).symm
    · rintro σ H2 ⟨o5, os, rfl, s2, eR, pm⟩
      exact ⟨_, rfl, q R os H2 (s1.trans s2) nR eR pm⟩
end
section
variable {P : Program} {w : World} {K : PySem.W.Frag} {mg : Str → Option Value} {base : Heap}
def spFlat : Sp := fun vs H Q _ => ∃ (a : Addr) (T : List (List Int)), vs = [.ref a] ∧ GrdAt H a (gI T) ∧ T.flatten.length ≤ 900 ∧ ∀ D H', Same H H' → H D = none → H' D = some (.lst (T.flatten.map V.int)) → Q (.ref D) H'
abbrev nFlat : List Str := ["_law_kinds", "_law_found", "_law_row"]
theorem scFlat : FnScope nFlat ["_law_kinds"] (defScope sFlat) := ⟨rfl, rfl, rfl, by decide +kernel, rfl, by decide +kernel, by decide +kernel⟩
theorem flatI_take {T : List (List Int)} {i : Nat} {x : List Int} (h : T[i]? = some x) : (T.take (i + 1)).flatten = (T.take i).flatten ++ x := by
  rw [take_snoc h, List.flatten_append]
  simp
theorem flatI_le (T : List (List Int)) (i : Nat) : (T.take i).flatten.length ≤ T.flatten.length := by
  have := congrArg (fun l => (List.flatten l).length) (List.take_append_drop i T)
  simp only [List.flatten_append, List.length_append] at this
  omega
theorem ok_flat {f : Addr} {fd : FuncData} (F : Fun K "_law_flat" "_law_flat" sFlat f fd) : FnOk P w K mg base CX0 1 f fd ["_law_kinds"] spFlat := by
  refine F.ok scFlat (fun vs H Q E h => ?_) (fun cdv A outer s H vs Q E hr h => ?_)
  · obtain ⟨a, T, rfl, _⟩ := h
    rfl
  · obtain ⟨a, T, rfl, ⟨rs, ha, R⟩, hT, q⟩ := h
    refine ⟨_, pss_cons (ps_set (i := 1) scFlat.nd rfl (Or.inl rfl) (pe_lst pa_nil))
      (pss_cons (ps_for PassesOwn.never rfl (pi_list (pv 0)) (pg_name (i := 2) scFlat.nd rfl (Or.inl rfl))
        (pss_one (ps_set (i := 1) scFlat.nd rfl (Or.inl rfl) (pe_op op_cat (pv 1) (pv 2)))))
      (pss_one (ps_ret (pv 1)))), ?_⟩
    refine ⟨Nat.zero_le _, fun D0 hD0 => ?_⟩
    have s0 : Same H (L2.upd H D0 (.lst [])) := Same.upd hD0
    refine ⟨_, rfl, a, rfl, ⟨_, SqL.of (s0 _ _ ha)⟩, for_list (K := K) (xs := rs.map V.ref) (fun i σ H' => ∃ (o2 : Option V) (D : Addr), σ = [some (.ref a), some (.ref D), o2] ∧ Same H H' ∧ H D = none ∧ H' D = some (.lst ((T.take i).flatten.map V.int))) ⟨none, D0, rfl, s0, hD0, upd_same⟩ (fun i σ H' _ ⟨_, _, _, s', _⟩ => SqL.of (s' _ _ ha)) ?_ ?_⟩
    · rintro i x σ H1 hx ⟨o2, D, rfl, s1, nD, e1⟩
      obtain ⟨r, hr, rfl⟩ := map_get hx
      obtain ⟨y, hy⟩ := get_lt (l := T) (i := i) (by rw [← gI_len, ← R.len]; exact lt_get hr)
      have er := s1 _ _ (R.row i r _ hr (gI_get hy))
      have fl := flatI_le T (i + 1)
      rw [flatI_take hy, List.length_append] at fl
      refine ⟨_, rfl, _, rfl, D, r, _, _, rfl, rfl, e1, er, Nat.le_of_lt (small1000 (by rw [List.length_map, List.length_map]; omega)), fun L hL => ?_⟩
      refine ⟨_, L, rfl, s1.trans (Same.upd hL), s1.free hL, ?_⟩
      rw [upd_same, flatI_take hy, List.map_append]
    · rintro σ H1 ⟨o2, D, rfl, s1, nD, e1⟩
      rw [List.length_map, R.len, gI_len, List.take_length] at e1
      exact ⟨_, rfl, q D H1 s1 nD e1⟩
theorem call_sortedPK {X : Cx} (h : X.K = K := by rfl) : CallR X (.builtin "sorted") (fun xs H Q => ∃ (p : Addr) (vs : List V) (ps : List (Int × Int)), xs = [.ref p] ∧ SqL K H p vs ∧ PsV K H vs ps ∧ ps.length ≤ 60 ∧ ∀ l, H l = none → Q (.ref l) (upd H l (.lst (srtL ps vs)))) := by subst h; exact call_sortedP
theorem srt_mem {ps : List (Int × Int)} {vs : List V} (hl : vs.length = ps.length) {v : V} (h : v ∈ srtL ps vs) : v ∈ vs := by
  unfold srtL at h
  split at h
  · exact h
  · obtain ⟨i, hi, rfl⟩ := List.mem_map.mp h
    have li := (ord_lt (ps := ps) (by omega)).1 i hi
    rw [List.getD_eq_getElem?_getD, List.getElem?_eq_getElem (by omega)]
    exact List.getElem_mem _
def spLKin (K : PySem.W.Frag) : Sp := fun vs H Q _ => ∃ (p hA rA : Addr) (rs : List Addr) (n : Nat) (hs : List Int) (M : List (List Int)) (b : Addr) (T : List (List Int)), vs = [.ref p, .ref b] ∧ n ≤ 8 ∧ WebAt H p hA rA rs n hs M ∧ GrdAt H b (gI T) ∧ SqI n T ∧
  ∀ (r : Bool) (H' : Hp), Same H H' → (r = true ↔ KinF n (hueF hs) (ent M) (ent T)) → Q (.bl r) H'
abbrev nLKin : List Str := ["_law_web_here", "_law_kinds", "_law_hues", "_law_rows_here", "_law_looks", "_law_u", "_law_v", "_law_thirds", "_law_look"]
theorem scLKin : FnScope nLKin ["_law_web_here", "_law_kinds"] (defScope sLKin) := ⟨rfl, rfl, rfl, by decide +kernel, rfl, by decide +kernel, by decide +kernel⟩
theorem lcLKin : LcScopes (defScope sLKin) nLKin (lcScope (argAt (asgVal (forBody (bodyAt sLKin 2) 0)) 0)) ["_law_w"] := ⟨by decide +kernel, rfl, by decide +kernel, by decide +kernel, by decide +kernel, by decide +kernel, by decide +kernel, by decide +kernel, by decide +kernel, by decide +kernel⟩
structure KinI (K : PySem.W.Frag) (n : Nat) (h : Nat → Int) (m t : Nat → Nat → Int) (N : Addr) (i : Nat) (kvs : List (Key × V)) (H' : Hp) : Prop where
  at' : H' N = some (.dK kvs)
  len : kvs.length ≤ i
  has : ∀ u v : Nat, u < n → v < n → ((u : Int), (v : Int)) ∈ (prPre n n).take i → ∃ x, valV kvs (Sum.inl (t u v)) = some x
  is : ∀ (k : Int) (x : V), valV kvs (Sum.inl k) = some x → ∃ u v : Nat, u < n ∧ v < n ∧ ((u : Int), (v : Int)) ∈ (prPre n n).take i ∧ t u v = k ∧ DA K (fun a => a ≠ N) H' x (dLk (lkF n h m t u v))
  kin : ∀ u v u' v' : Nat, u < n → v < n → u' < n → v' < n → ((u : Int), (v : Int)) ∈ (prPre n n).take i → ((u' : Int), (v' : Int)) ∈ (prPre n n).take i → t u v = t u' v' → lkF n h m t u v = lkF n h m t u' v'
theorem KinI.start {n : Nat} {h : Nat → Int} {m t : Nat → Nat → Int} {N : Addr} {H' : Hp} (e : H' N = some (.dK [])) : KinI K n h m t N 0 [] H' :=
  ⟨e, Nat.le_refl _, (fun u v _ _ z => by simp at z), (fun k x z => by cases z), fun u v u' v' _ _ _ _ z => by simp at z⟩
theorem KinI.step {n : Nat} {h : Nat → Int} {m t : Nat → Nat → Int} {N : Addr} {i u v : Nat} {kvs : List (Key × V)} {H2 H3 : Hp} {l : Addr} (I : KinI K n h m t N i kvs H2) (s3 : Same H2 H3) (hu : u < n) (hv : v < n) (hp : (prPre n n)[i]? = some ((u : Int), (v : Int)))
    (dl : DA K (fun a => a ≠ N) H3 (.ref l) (dLk (lkF n h m t u v))) (ha : ∀ u' v' : Nat, u' < n → v' < n → ((u' : Int), (v' : Int)) ∈ (prPre n n).take i → t u' v' = t u v → lkF n h m t u' v' = lkF n h m t u v) :
    KinI K n h m t N (i + 1) (putK kvs (Sum.inl (t u v)) (.ref l)) (L2.upd H3 N (.dK (putK kvs (Sum.inl (t u v)) (.ref l)))) := by
  have tk := take_snoc hp
  have mem : ∀ {u' v' : Nat}, ((u' : Int), (v' : Int)) ∈ (prPre n n).take (i + 1) → ((u' : Int), (v' : Int)) ∈ (prPre n n).take i ∨ (u' = u ∧ v' = v) := by
    intro u' v' h
    rw [tk] at h
    rcases List.mem_append.mp h with z | z
    · exact .inl z
    · have := List.mem_singleton.mp z
      simp only [Prod.mk.injEq] at this
      exact .inr ⟨Int.ofNat.inj this.1, Int.ofNat.inj this.2⟩
  refine ⟨upd_same, ?_, fun u' v' hu' hv' h => ?_, fun k x h => ?_, fun u1 v1 u2 v2 h1 h2 h3 h4 m1 m2 e => ?_⟩
  · have := putK_le kvs (Sum.inl (t u v) : Key) (.ref l)
    have := I.len
    omega
  · rw [valV_put]
    split
    · exact ⟨_, rfl⟩
    · rename_i ne
      rcases mem h with z | ⟨rfl, rfl⟩
      · exact I.has u' v' hu' hv' z
      · exact absurd rfl ne
  · rw [valV_put] at h
    split at h
    · rename_i e
      cases h
      exact ⟨u, v, hu, hv, by rw [tk]; simp, (Sum.inl.inj e).symm, dl.mono (fun a o h e => by rw [upd_ne h]; exact e) fun _ h => h⟩
    · obtain ⟨u', v', g1, g2, g3, g4, g5⟩ := I.is k x h
      exact ⟨u', v', g1, g2, by rw [tk]; exact List.mem_append_left _ g3, g4, (g5.mono s3.keep fun _ h => h).mono (fun a o h e => by rw [upd_ne h]; exact e) fun _ h => h⟩
  · rcases mem m1 with z1 | ⟨rfl, rfl⟩
    · rcases mem m2 with z2 | ⟨rfl, rfl⟩
      · exact I.kin u1 v1 u2 v2 h1 h2 h3 h4 z1 z2 e
      · exact ha u1 v1 h1 h2 z1 e
    · rcases mem m2 with z2 | ⟨rfl, rfl⟩
      · exact (ha u2 v2 h3 h4 z2 e.symm).symm
      · rfl
theorem ok_lkin {f fP : Addr} {fd fdP : FuncData} (B : BltL mg) (F : Fun K "_law_kin" "_law_kin" sLKin f fd) (DP : Dn K mg "_law_pairs" sPairs ["_law_many"] fP fdP) (GP : FnOk P w K mg base CX0 1 fP fdP ["_law_many"] (spPairs K)) : FnOk P w K mg base CX0 2 f fd ["_law_web_here", "_law_kinds"] (spLKin K) := by
  refine F.ok scLKin (fun vs H Q E h => ?_) (fun cdv A outer s H vs Q E hr h => ?_)
  · obtain ⟨p, hA, rA, rs, n, hs, M, b, T, rfl, _⟩ := h
    rfl
  · obtain ⟨p, hA, rA, rs, n, hs, M, b, T, rfl, hn, W, gT, sq, q⟩ := h
    refine ⟨_, pss_cons (ps_asg (pv 0) (pg_tup rfl (pgs_cons (pg_name (i := 2) scLKin.nd rfl (Or.inl rfl)) (pgs_cons (pg_name (i := 3) scLKin.nd rfl (Or.inl rfl)) pgs_nil))))
      (pss_cons (ps_set (i := 4) scLKin.nd rfl (Or.inl rfl) pe_dnewK)
      (pss_cons (ps_for PassesOwn.never rfl (pi_list (pe_fn DP GP hr rfl (pa_cons (pe_callB call_len_seq (by rfl) B.len PySem.boot_len (pa_cons (pv 2) pa_nil)) pa_nil))) (pg_tup rfl (pgs_cons (pg_name (i := 5) scLKin.nd rfl (Or.inr rfl)) (pgs_cons (pg_name (i := 6) scLKin.nd rfl (Or.inr rfl)) pgs_nil)))
        (pss_cons (ps_set (i := 7) scLKin.nd rfl (Or.inl rfl) (pe_callB (call_sortedPK (K := K)) (by rfl) B.sorted boot_srt (pa_cons (pe_lc1 rfl lcLKin rfl (pi_range1 rfl B.range (pa_cons (pe_callB call_len_seq (by rfl) B.len PySem.boot_len (pa_cons (pv 2) pa_nil)) pa_nil))
          (fun _ _ _ => pe_tup (pa_cons (pe_ix (ix_listK (K := K)) (pe_ix (ix_listK (K := K)) (pv 1) (pv 5) (fun _ _ => rfl)) (pv 9) (fun _ _ => rfl)) (pa_cons (pe_ix (ix_listK (K := K)) (pe_ix (ix_listK (K := K)) (pv 1) (pv 9) (fun _ _ => rfl)) (pv 6) (fun _ _ => rfl)) pa_nil)))) pa_nil)))
        (pss_cons (ps_set (i := 8) scLKin.nd rfl (Or.inl rfl) (pe_tup (pa_cons (pe_cmpR op_eq (pv 5) (pv 6) (nomark _)) (pa_cons (pe_ix ix_list (pe_ix ix_list (pv 3) (pv 5) (fun _ _ => rfl)) (pv 6) (fun _ _ => rfl)) (pa_cons (pe_ix ix_list (pv 2) (pv 5) (fun _ _ => rfl)) (pa_cons (pe_ix ix_list (pv 2) (pv 6) (fun _ _ => rfl))
          (pa_cons (pe_ix ix_list (pe_ix ix_list (pv 1) (pv 6) (fun _ _ => rfl)) (pv 5) (fun _ _ => rfl)) (pa_cons (pv 7) pa_nil))))))))
        (pss_cons (ps_if (pt_cmpR (op_neD hr.units) (pe_dget2 (hu_of hr) (pv 4) (pe_ix ix_list (pe_ix ix_list (pv 1) (pv 5) (fun _ _ => rfl)) (pv 6) (fun _ _ => rfl)) (pv 8) ⟨rfl, rfl, rfl, rfl⟩) (pv 8) (nomark _)) (pss_one (ps_ret pe_bl)) pss_nil)
        (pss_one (ps_dput (hu_of hr) (pv 4) (pe_ix ix_list (pe_ix ix_list (pv 1) (pv 5) (fun _ _ => rfl)) (pv 6) (fun _ _ => rfl)) (pv 8) rfl))))))
      (pss_one (ps_ret pe_bl)))), ?_⟩
    refine ⟨_, rfl, p, _, rfl, SqT.of W.tup, rfl, _, _, rfl, _, _, rfl, rfl, ?_⟩
    intro N hN
    have s0 : Same H (L2.upd H N (.dK [])) := Same.upd hN
    have e0 : L2.upd H N (.dK []) N = some (.dK []) := upd_same
    generalize L2.upd H N (.dK []) = H0 at s0 e0 ⊢
    refine ⟨_, rfl, hA, _, rfl, .inl (SqL.of (s0 _ _ W.hue)), ?_⟩
    rw [List.length_map, W.len]
    refine ⟨n, rfl, by omega, fun C L H1 s1 nC eC pC => ⟨C, rfl, ⟨_, SqL.of eC⟩, ?_⟩⟩
    have s01 := s0.trans s1
    have lL : L.length = n * n := by rw [pC.1, prPre_len]
    have CN : C ≠ N := fun z => by rw [z, e0] at nC; cases nC
    have n64 : n * n ≤ 8 * 8 := Nat.mul_le_mul hn hn
    refine for_list (K := K) (xs := L) (fun i σ H' => ∃ (o5 o6 o7 o8 : Option V) (kvs : List (Key × V)), σ = [some (.ref p), some (.ref b), some (.ref hA), some (.ref rA), some (.ref N), o5, o6, o7, o8] ∧ Same H H' ∧ (∀ a o, a ≠ N → H1 a = some o → H' a = some o) ∧ KinI K n (hueF hs) (ent M) (ent T) N i kvs H') ?_ ?_ ?_ ?_
    · exact ⟨none, none, none, none, [], rfl, s01, fun a o _ e => e, KinI.start (s1 _ _ e0)⟩
    · rintro i σ H' _ ⟨o5, o6, o7, o8, kvs, rfl, _, kp, _⟩
      exact SqL.of (kp _ _ CN eC)
    · rintro i x σ H2 hx ⟨o5, o6, o7, o8, kvs, rfl, s2, kp, KI⟩
      have hi : i < L.length := lt_get hx
      have hlen := KI.len
      obtain ⟨pr, hpr⟩ := get_lt (l := prPre n n) (i := i) (by rw [prPre_len, ← lL]; exact hi)
      obtain ⟨u, v, hu, hv, rfl⟩ := prPre_mem.mp (List.mem_of_getElem? hpr)
      obtain ⟨t, rfl, et⟩ := pC.2 i x _ hx hpr
      have et2 := kp _ _ (fun z => by rw [z, s1 _ _ e0] at et; cases et) et
      refine ⟨t, _, rfl, SqT.of et2, rfl, _, _, rfl, _, _, rfl, rfl, ?_⟩
      refine ⟨_, rfl, hA, _, rfl, .inl (SqL.of (s2 _ _ W.hue)), (n : Int), by rw [List.length_map, W.len], by omega, by omega, fun D hD => ?_⟩
      rw [Int.toNat_natCast]
      obtain ⟨ts, eb, GT⟩ := gT.mono s2
      obtain ⟨ru, hru, eru⟩ := gI_row GT sq hu
      obtain ⟨rv, hrv, erv⟩ := gI_row GT sq hv
      refine lc_range (n := n) (fun j ys H' => Same H2 H' ∧ H' D = some (.lst ys) ∧ PsV K H' ys ((List.range j).map fun w => (ent T u w, ent T w v)) ∧ ∀ a, V.ref a ∈ ys → H2 a = none) ⟨Same.upd hD, upd_same, .nil, fun a h => by cases h⟩ (fun j ys H' _ h => h.2.1) ?_ ?_ ?_
      · rintro j ys H3 hj ⟨s3, eD, pD, nD⟩
        have e0 : ((0 : Int) + (j : Nat)) = (j : Int) := by omega
        rw [e0]
        obtain ⟨ri, hri, eri⟩ := gI_row GT sq hj
        refine ⟨_, rfl, _, rfl, b, _, _, _, rfl, rfl, SqL.of (s3 _ _ eb), at_ref hru, _, rfl, ru, _, _, _, rfl, rfl, SqL.of (s3 _ _ eru), at_rowI sq hu hj, ?_⟩
        refine ⟨_, rfl, _, rfl, b, _, _, _, rfl, rfl, SqL.of (s3 _ _ eb), at_ref hri, _, rfl, ri, _, _, _, rfl, rfl, SqL.of (s3 _ _ eri), at_rowI sq hj hv, ?_⟩
        refine ⟨(by show 2 ≤ sizeLine; decide), fun t ht => ?_⟩
        have s4 : Same H3 (L2.upd H3 t (.tup [.int (ent T u j), .int (ent T j v)])) := Same.upd ht
        have e4 : L2.upd H3 t (.tup [.int (ent T u j), .int (ent T j v)]) t = some (.tup [.int (ent T u j), .int (ent T j v)]) := upd_same
        generalize L2.upd H3 t (.tup [.int (ent T u j), .int (ent T j v)]) = H4 at s4 e4 ⊢
        have ly : ys.length = j := by rw [pD.1, List.length_map, List.length_range]
        refine ⟨s4 _ _ eD, small1000 (by omega), fun b' o e => ?_, upd_same, ?_, fun a ha => ?_⟩
        · rw [upd_ne (ne_of_none e hD)]
          exact s4 _ _ (s3 _ _ e)
        · rw [List.range_succ, List.map_append]
          exact ((pD.same s4).app (L2.PsV.one (p := (ent T u j, ent T j v)) e4)).upd (s4 _ _ eD)
        · rcases List.mem_append.mp ha with z | z
          · exact nD a z
          · cases List.mem_singleton.mp z
            exact s3.free ht
      · rintro ys H3 ⟨s3, eD, pD, nD⟩
        have l6 : ((List.range n).map fun w => (ent T u w, ent T w v)).length ≤ 60 := by rw [List.length_map, List.length_range]; omega
        refine ⟨D, ys, _, rfl, SqL.of eD, pD, l6, fun l hl => ?_⟩
        have s4 : Same H3 (L2.upd H3 l (.lst (srtL ((List.range n).map fun w => (ent T u w, ent T w v)) ys))) := Same.upd hl
        have e4 : L2.upd H3 l (.lst (srtL ((List.range n).map fun w => (ent T u w, ent T w v)) ys)) l = some (.lst (srtL ((List.range n).map fun w => (ent T u w, ent T w v)) ys)) := upd_same
        have pS := (srt_get (K := K) pD).same s4
        generalize L2.upd H3 l (.lst (srtL ((List.range n).map fun w => (ent T u w, ent T w v)) ys)) = H4 at s4 e4 pS ⊢
        have s24 := s3.trans s4
        have s04 := s2.trans s24
        have W4 := W.same s04
        obtain ⟨mu, a1, a2, a3⟩ := W4.row_at hu hv
        refine ⟨_, rfl, _, rfl, rfl, ?_⟩
        refine ⟨_, rfl, _, rfl, rA, _, _, _, rfl, rfl, SqL.of W4.rws, a1, _, rfl, mu, _, _, _, rfl, rfl, SqL.of a2, a3, ?_⟩
        refine ⟨_, rfl, _, rfl, hA, _, _, _, rfl, rfl, SqL.of W4.hue, W4.hue_at hu, ?_⟩
        refine ⟨_, rfl, _, rfl, hA, _, _, _, rfl, rfl, SqL.of W4.hue, W4.hue_at hv, ?_⟩
        refine ⟨_, rfl, _, rfl, b, _, _, _, rfl, rfl, SqL.of (s24 _ _ eb), at_ref hrv, _, rfl, rv, _, _, _, rfl, rfl, SqL.of (s24 _ _ erv), at_rowI sq hv hu, ?_⟩
        refine ⟨_, rfl, (by show 6 ≤ sizeLine; decide), fun lt ht => ?_⟩
        rw [dec_nat]
        have s5 : Same H4 (L2.upd H4 lt (.tup [.bl (decide (u = v)), .int (ent M u v), .int (hs[u]?.getD 0), .int (hs[v]?.getD 0), .int (ent T v u), .ref l])) := Same.upd ht
        have e5 : L2.upd H4 lt (.tup [.bl (decide (u = v)), .int (ent M u v), .int (hs[u]?.getD 0), .int (hs[v]?.getD 0), .int (ent T v u), .ref l]) lt = some (.tup [.bl (decide (u = v)), .int (ent M u v), .int (hs[u]?.getD 0), .int (hs[v]?.getD 0), .int (ent T v u), .ref l]) := upd_same
        generalize L2.upd H4 lt (.tup [.bl (decide (u = v)), .int (ent M u v), .int (hs[u]?.getD 0), .int (hs[v]?.getD 0), .int (ent T v u), .ref l]) = H5 at s5 e5 ⊢
        have s25 := s24.trans s5
        have s05 := s2.trans s25
        have eN2 := KI.at'
        have neN : ∀ a, H2 a = none → a ≠ N := fun a h z => by rw [z, eN2] at h; cases h
        have dl : DA K (fun a => a ≠ N) H5 (.ref lt) (dLk (lkF n (hueF hs) (ent M) (ent T) u v)) :=
          .tup (neN _ (s24.free ht)) (SqT.of e5) (.cons (.bl _) (.cons (.int _) (.cons (.int _) (.cons (.int _) (.cons (.int _) (.cons (.lst (neN _ (s3.free hl)) (SqL.of (s5 _ _ e4)) (psv_da (pS.same s5) fun a _ m => neN a (nD a (srt_mem pD.1 m)))) .nil))))))
        have eN5 := s25 _ _ eN2
        have eb5 := s25 _ _ eb
        have eru5 := s25 _ _ eru
        have lz : kvs.length < sizeLine := small1000 (by omega)
        have fin : ∀ ha, _ := fun ha => KI.step (u := u) (v := v) (l := lt) s25 hu hv hpr dl ha
        refine ⟨_, rfl, N, rfl, .inl ⟨_, .inl eN5⟩, _, rfl, _, rfl, b, _, _, _, rfl, rfl, SqL.of eb5, at_ref hru, _, rfl, ru, _, _, _, rfl, rfl, SqL.of eru5, at_rowI sq hu hv, _, rfl, _, (show DGet _ N (V.int (ent T u v)) (valV kvs (Sum.inl (ent T u v))) from DGet.k (k := Sum.inl (ent T u v)) eN5), ?_⟩
        have tail : (∀ u' v' : Nat, u' < n → v' < n → ((u' : Int), (v' : Int)) ∈ (prPre n n).take i → ent T u' v' = ent T u v → lkF n (hueF hs) (ent M) (ent T) u' v' = lkF n (hueF hs) (ent M) (ent T) u v) →
            ∃ (o5 o6 o7 o8 : Option V) (kvs' : List (Key × V)), [some (.ref p), some (.ref b), some (.ref hA), some (.ref rA), some (.ref N), some (.int (u : Int)), some (.int (v : Int)), some (.ref l), some (.ref lt)] = [some (.ref p), some (.ref b), some (.ref hA), some (.ref rA), some (.ref N), o5, o6, o7, o8] ∧ Same H (L2.upd H5 N (.dK (putK kvs (Sum.inl (ent T u v)) (.ref lt)))) ∧ (∀ a o, a ≠ N → H1 a = some o → L2.upd H5 N (.dK (putK kvs (Sum.inl (ent T u v)) (.ref lt))) a = some o) ∧ KinI K n (hueF hs) (ent M) (ent T) N (i + 1) kvs' (L2.upd H5 N (.dK (putK kvs (Sum.inl (ent T u v)) (.ref lt)))) := fun ha =>
          ⟨_, _, _, _, _, rfl, (fun a o e => by rw [upd_ne (ne_of_none e hN)]; exact s05 _ _ e), (fun a o ne e => by rw [upd_ne ne]; exact s25 _ _ (kp _ _ ne e)), fin ha⟩
        cases hval : valV kvs (Sum.inl (ent T u v)) with
        | none =>
          refine ⟨_, rfl, _, _, dl.mono (Keep.refl _ _) (fun _ _ => trivial), dl.mono (Keep.refl _ _) (fun _ _ => trivial), ⟨kdLk.lay _, kdLk.lay _, Nat.le_trans (kdLk.dep _) (by decide)⟩, _, rfl, ?_⟩
          rw [kdLk.eqv, decide_eq_true rfl]
          refine iteF ?_
          refine ⟨_, rfl, _, rfl, _, rfl, _, rfl, b, _, _, _, rfl, rfl, SqL.of eb5, at_ref hru, _, rfl, ru, _, _, _, rfl, rfl, SqL.of eru5, at_rowI sq hu hv, N, _, rfl, (show DPut _ N (V.int (ent T u v)) _ _ from DPut.k (k := Sum.inl (ent T u v)) eN5 lz), ?_⟩
          refine tail fun u' v' hu' hv' m e => ?_
          obtain ⟨x, hx'⟩ := KI.has u' v' hu' hv' m
          rw [e, hval] at hx'
          cases hx'
        | some x =>
          obtain ⟨u', v', g1, g2, g3, g4, g5⟩ := KI.is _ _ hval
          refine ⟨_, rfl, _, _, (g5.mono s25.keep (fun _ _ => trivial)), dl.mono (Keep.refl _ _) (fun _ _ => trivial), ⟨kdLk.lay _, kdLk.lay _, Nat.le_trans (kdLk.dep _) (by decide)⟩, _, rfl, ?_⟩
          rw [kdLk.eqv]
          by_cases el : lkF n (hueF hs) (ent M) (ent T) u' v' = lkF n (hueF hs) (ent M) (ent T) u v
          · rw [decide_eq_true el]
            refine iteF ?_
            refine ⟨_, rfl, _, rfl, _, rfl, _, rfl, b, _, _, _, rfl, rfl, SqL.of eb5, at_ref hru, _, rfl, ru, _, _, _, rfl, rfl, SqL.of eru5, at_rowI sq hu hv, N, _, rfl, (show DPut _ N (V.int (ent T u v)) _ _ from DPut.k (k := Sum.inl (ent T u v)) eN5 lz), ?_⟩
            refine tail fun u2 v2 h2 h2' m e => ?_
            rw [← el]
            exact KI.kin u2 v2 u' v' h2 h2' g1 g2 m g3 (e.trans g4.symm)
          · rw [decide_eq_false el]
            refine iteT ?_
            refine q false H5 s05 ⟨(fun z => by cases z), fun z => absurd (z u' v' u v g1 g2 hu hv g4) el⟩
      · rintro σ H' Q1 Q2 hq ⟨v1, e1, v2, e2, a1, a2, a3, a4, b1, b2, b3, b4, v3, e3, c1, c2, c3, c4, d1, d2, d3, d4, v4, e4, v5, e5, f1, f2, f3, f4, g1, g2, g3, g4, v6, e6, h1, h2, h3, h4, i1, i2, i3, i4, z, g⟩
        exact ⟨v1, e1, v2, e2, a1, a2, a3, a4, b1, b2, b3, b4, v3, e3, c1, c2, c3, c4, d1, d2, d3, d4, v4, e4, v5, e5, f1, f2, f3, f4, g1, g2, g3, g4, v6, e6, h1, h2, h3, h4, i1, i2, i3, i4, z, fun t ht => hq _ _ (g t ht)⟩
    · rintro σ H2 ⟨o5, o6, o7, o8, kvs, rfl, s2, kp, KI⟩
      refine q true H2 s2 ⟨fun _ u v u' v' h1 h2 h3 h4 e => ?_, fun _ => rfl⟩
      have i3 := KI.kin
      rw [lL, List.take_of_length_le (by rw [prPre_len]; exact Nat.le_refl _)] at i3
      exact i3 u v u' v' h1 h2 h3 h4 (prPre_mem.mpr ⟨u, v, h1, h2, rfl⟩) (prPre_mem.mpr ⟨u', v', h3, h4, rfl⟩) e
end
section
variable {P : Program} {w : World} {K : PySem.W.Frag} {mg : Str → Option Value} {base : Heap}
theorem kitLL : PySem.W.kitOne K (.type "list") (.type "list") = some true := rfl
theorem kitII : PySem.W.kitOne K (.type "int") (.type "int") = some true := rfl
theorem kitIB : PySem.W.kitOne K (.type "int") (.type "bool") = some false := by
  with_unfolding_all rfl
theorem kdInt : KD (κ := Int) PyData.int := ⟨fun _ => rfl, fun _ => Nat.zero_le _, fun a b => rfl⟩
theorem flat_len {n : Nat} {T : List (List Int)} (h : SqI n T) : T.flatten.length = n * n := by
  rw [flat_prs h, List.length_map]
  unfold prs
  rw [List.length_flatMap]
  have : ((List.range n).map fun x => ((List.range n).map fun j => (x, j)).length) = (List.range n).map fun _ => n := List.map_congr_left fun x _ => by rw [List.length_map, List.length_range]
  rw [this]
  show (List.map (Function.const _ n) (List.range n)).sum = n * n
  rw [List.map_const, List.sum_replicate_nat, List.length_range]
def spTold : Sp := fun vs H Q _ => ∃ (a : Addr) (T : List (List Int)) (n : Nat), vs = [.ref a, .int (n : Int)] ∧ GrdAt H a (gI T) ∧ SqI n T ∧ n ≤ 8 ∧ Norm T.flatten ∧ ∀ H', Same H H' → Q (.bl true) H'
abbrev nTold : List Str := ["_law_kinds", "_law_many", "_law_row", "_law_kind"]
theorem scTold : FnScope nTold ["_law_kinds", "_law_many"] (defScope sTold) := ⟨rfl, rfl, rfl, by decide +kernel, rfl, by decide +kernel, by decide +kernel⟩
theorem ok_told {f fF fN : Addr} {fd fdF fdN : FuncData} (B : BltL mg) (F : Fun K "_law_told" "_law_told" sTold f fd) (DF : Dn K mg "_law_flat" sFlat ["_law_kinds"] fF fdF) (GF : FnOk P w K mg base CX0 1 fF fdF ["_law_kinds"] spFlat)
    (DN : Dn K mg "_law_numbered" sLNum ["_law_things"] fN fdN) (GN : FnOk P w K mg base CX0 1 fN fdN ["_law_things"] (spLNum K PyData.int)) : FnOk P w K mg base CX0 2 f fd ["_law_kinds", "_law_many"] spTold := by
  refine F.ok scTold (fun vs H Q E h => ?_) (fun cdv A outer s H vs Q E hr h => ?_)
  · obtain ⟨a, T, n, rfl, _⟩ := h
    rfl
  · obtain ⟨a, T, n, rfl, gT, sq, hn, nm, q⟩ := h
    have gT0 := gT
    obtain ⟨rs, ha, R⟩ := gT
    have lr : rs.length = n := by rw [R.len, gI_len, sq.1]
    refine ⟨_, pss_cons (ps_if (PW.pt (pw_or (pt_not (pt_val (pe_callB call_isinst (by rfl) B.isi boot_isinstance (pa_cons (pv 0) (pa_cons (pe_bltn (v := .ty "list") rfl B.list boot_list rfl) pa_nil))))) (pw_or1 (pt_cmpR op_ne (pe_callB call_len_seq (by rfl) B.len PySem.boot_len (pa_cons (pv 0) pa_nil)) (pv 1) (nomark _))))) (pss_one (ps_ret pe_bl)) pss_nil)
      (pss_cons (ps_for PassesOwn.never rfl (pi_list (pv 0)) (pg_name (i := 2) scTold.nd rfl (Or.inl rfl))
        (pss_cons (ps_if (PW.pt (pw_or (pt_not (pt_val (pe_callB call_isinst (by rfl) B.isi boot_isinstance (pa_cons (pv 2) (pa_cons (pe_bltn (v := .ty "list") rfl B.list boot_list rfl) pa_nil))))) (pw_or1 (pt_cmpR op_ne (pe_callB call_len_seq (by rfl) B.len PySem.boot_len (pa_cons (pv 2) pa_nil)) (pv 1) (nomark _))))) (pss_one (ps_ret pe_bl)) pss_nil)
        (pss_one (ps_for PassesOwn.never rfl (pi_list (pv 2)) (pg_name (i := 3) scTold.nd rfl (Or.inl rfl))
          (pss_one (ps_if (PW.pt (pw_or (pt_not (pt_val (pe_callB call_isinst (by rfl) B.isi boot_isinstance (pa_cons (pv 3) (pa_cons (pe_bltn (v := .ty "int") rfl B.int boot_int rfl) pa_nil))))) (pw_or1 (pt_val (pe_callB call_isinst (by rfl) B.isi boot_isinstance (pa_cons (pv 3) (pa_cons (pe_bltn (v := .ty "bool") rfl B.bool boot_bool rfl) pa_nil))))))) (pss_one (ps_ret pe_bl)) pss_nil))))))
      (pss_one (ps_ret (pe_cmpR (op_eqD hr.units) (pe_fn DF GF hr rfl (pa_cons (pv 0) pa_nil)) (pe_fn DN GN hr rfl (pa_cons (pe_fn DF GF hr rfl (pa_cons (pv 0) pa_nil)) pa_nil)) (nomark _))))), ?_⟩
    refine ⟨_, rfl, _, _, _, true, rfl, .lst ha, kitLL, _, rfl, iteF ?_⟩
    refine ⟨_, rfl, a, _, rfl, .inl (SqL.of ha), _, rfl, rfl, _, rfl, iteNS (by rw [List.length_map, lr]) ?_⟩
    refine ⟨_, rfl, a, rfl, ⟨_, SqL.of ha⟩, for_list (K := K) (xs := rs.map V.ref) (fun i σ H' => ∃ (o2 o3 : Option V), σ = [some (.ref a), some (.int (n : Int)), o2, o3] ∧ H' = H) ⟨none, none, rfl, rfl⟩ (fun i σ H' _ ⟨_, _, _, e⟩ => by rw [e]; exact SqL.of ha) ?_ ?_⟩
    · rintro i x σ H1 hx ⟨o2, o3, rfl, rfl⟩
      obtain ⟨r, hr', rfl⟩ := map_get hx
      obtain ⟨y, hy⟩ := get_lt (l := T) (i := i) (by rw [← gI_len, ← R.len]; exact lt_get hr')
      have er := R.row i r _ hr' (gI_get hy)
      refine ⟨_, rfl, _, _, _, true, rfl, .lst er, kitLL, _, rfl, iteF ?_⟩
      refine ⟨_, rfl, r, _, rfl, .inl (SqL.of er), _, rfl, rfl, _, rfl, iteNS (by rw [List.length_map, sq.2 y (List.mem_of_getElem? hy)]) ?_⟩
      refine ⟨_, rfl, r, rfl, ⟨_, SqL.of er⟩, for_list (K := K) (xs := y.map V.int) (fun j σ H' => ∃ (o3 : Option V), σ = [some (.ref a), some (.int (n : Int)), some (.ref r), o3] ∧ H' = H1) ⟨_, rfl, rfl⟩ (fun j σ H' _ ⟨_, _, e⟩ => by rw [e]; exact SqL.of er) ?_ ?_⟩
      · rintro j z σ H2 hz ⟨o3, rfl, rfl⟩
        obtain ⟨c, hc, rfl⟩ := map_get hz
        refine ⟨_, rfl, _, _, _, true, rfl, .int c, kitII, _, rfl, iteF ?_⟩
        refine ⟨_, rfl, _, _, _, false, rfl, .int c, kitIB, _, rfl, iteF ?_⟩
        exact ⟨_, rfl, rfl⟩
      · rintro σ H2 ⟨o3, rfl, rfl⟩
        exact ⟨_, _, rfl, rfl⟩
    · rintro σ H1 ⟨o2, o3, rfl, rfl⟩
      have lf := flat_len sq
      have n64 : n * n ≤ 8 * 8 := Nat.mul_le_mul hn hn
      refine ⟨_, rfl, a, T, rfl, gT0, by omega, fun D H2 s2 n2 e2 => ?_⟩
      refine ⟨_, rfl, a, T, rfl, gT0.mono s2, by omega, fun D2 H3 s3 n3 e3 => ?_⟩
      refine ⟨D2, _, T.flatten, rfl, SqL.of e3, das_ints _, by omega, fun D3 H4 s4 n4 e4 => ?_⟩
      rw [nI_V] at e4
      refine ⟨_, _, daI (K := K) (ok := any) trivial (SqL.of (s4 _ _ (s3 _ _ e2))), daI (K := K) (ok := any) trivial (SqL.of e4), ⟨(lay_dI _).1, (lay_dI _).1, Nat.le_trans (lay_dI _).2 (by decide)⟩, ?_⟩
      rw [eqv_dI, decide_eq_true (show T.flatten = nI (numb T.flatten) from nm)]
      exact q H4 ((s2.trans s3).trans s4)
theorem finer_of {n : Nat} {a b : List Int} {s t : Nat → Nat → Int} (ha : a = (prs n).map fun p => s p.1 p.2) (hb : b = (prs n).map fun p => t p.1 p.2) (w1 : WithinF n s t) : Finer a b := by
  intro i j l x y e1 e2 e3 e4
  rw [ha] at e1 e2
  rw [hb] at e3 e4
  obtain ⟨p, hp, rfl⟩ := map_get e1
  obtain ⟨q, hq, eq⟩ := map_get e2
  obtain ⟨p', hp', rfl⟩ := map_get e3
  obtain ⟨q', hq', rfl⟩ := map_get e4
  rw [hp] at hp'
  rw [hq] at hq'
  cases hp'
  cases hq'
  obtain ⟨p1, p2⟩ := prs_mem.mp (List.mem_of_getElem? hp)
  obtain ⟨q1, q2⟩ := prs_mem.mp (List.mem_of_getElem? hq)
  exact w1 _ _ _ _ p1 p2 q1 q2 eq
def spWithin : Sp := fun vs H Q _ => ∃ (a b : Addr) (n : Nat) (A C : List (List Int)), vs = [.ref a, .ref b] ∧ GrdAt H a (gI A) ∧ GrdAt H b (gI C) ∧ SqI n A ∧ SqI n C ∧ n ≤ 8 ∧ WithinF n (ent A) (ent C) ∧ ∀ H', Same H H' → Q (.bl true) H'
abbrev nWithin : List Str := ["_law_finer", "_law_coarser", "_law_there", "_law_kind", "_law_other"]
theorem scWithin : FnScope nWithin ["_law_finer", "_law_coarser"] (defScope sWithin) := ⟨rfl, rfl, rfl, by decide +kernel, rfl, by decide +kernel, by decide +kernel⟩
theorem ok_within {f fF : Addr} {fd fdF : FuncData} (B : BltL mg) (F : Fun K "_law_within" "_law_within" sWithin f fd) (DF : Dn K mg "_law_flat" sFlat ["_law_kinds"] fF fdF) (GF : FnOk P w K mg base CX0 1 fF fdF ["_law_kinds"] spFlat) : FnOk P w K mg base CX0 2 f fd ["_law_finer", "_law_coarser"] spWithin := by
  refine F.ok scWithin (fun vs H Q E h => ?_) (fun cdv A outer s H vs Q E hr h => ?_)
  · obtain ⟨a, b, n, A, C, rfl, _⟩ := h
    rfl
  · obtain ⟨a, b, n, A', C, rfl, gA, gC, sA, sC, hn, wi, q⟩ := h
    refine ⟨_, pss_cons (ps_set (i := 2) scWithin.nd rfl (Or.inl rfl) pe_dnewK)
      (pss_cons (ps_for PassesOwn.never rfl (pi_zip rfl B.zip (pa_cons (pe_fn DF GF hr rfl (pa_cons (pv 0) pa_nil)) (pa_cons (pe_fn DF GF hr rfl (pa_cons (pv 1) pa_nil)) pa_nil))) (pg_tup rfl (pgs_cons (pg_name (i := 3) scWithin.nd rfl (Or.inl rfl)) (pgs_cons (pg_name (i := 4) scWithin.nd rfl (Or.inl rfl)) pgs_nil)))
        (pss_cons (ps_if (pt_cmpR op_ne (pe_dget2 (hu_of hr) (pv 2) (pv 3) (pv 4) ⟨rfl, rfl, rfl, rfl⟩) (pv 4) (nomark _)) (pss_one (ps_ret pe_bl)) pss_nil)
        (pss_one (ps_dput (hu_of hr) (pv 2) (pv 3) (pv 4) rfl))))
      (pss_one (ps_ret pe_bl))), ?_⟩
    have n64 : n * n ≤ 8 * 8 := Nat.mul_le_mul hn hn
    have lA := flat_len sA
    have lC := flat_len sC
    have fin := finer_of (flat_prs sA) (flat_prs sC) wi
    intro N hN
    have s0 : Same H (L2.upd H N (.dK [])) := Same.upd hN
    have e0 : L2.upd H N (.dK []) N = some (.dK []) := upd_same
    generalize L2.upd H N (.dK []) = H0 at s0 e0 ⊢
    refine ⟨_, rfl, a, A', rfl, gA.mono s0, by omega, fun D H1 s1 n1 e1 => ?_⟩
    refine ⟨_, rfl, b, C, rfl, (gC.mono s0).mono s1, by omega, fun D' H2 s2 n2 e2 => ?_⟩
    have e1' := s2 _ _ e1
    have s02 := (s0.trans s1).trans s2
    have eN2 := s2 _ _ (s1 _ _ e0)
    have DN : D ≠ N := fun z => by rw [z, e0] at n1; cases n1
    have DN' : D' ≠ N := fun z => by rw [z, s1 _ _ e0] at n2; cases n2
    refine ⟨D, D', rfl, ⟨_, SqL.of e1'⟩, ⟨_, SqL.of e2⟩, ?_⟩
    refine for_zip (K := K) (xs := A'.flatten.map V.int) (ys := C.flatten.map V.int) (by rw [List.length_map, List.length_map, lA, lC]) (fun i σ H' => ∃ (o3 o4 : Option V) (kvs : List (Key × V)), σ = [some (.ref a), some (.ref b), some (.ref N), o3, o4] ∧ Same H H' ∧ (∀ c o, c ≠ N → H2 c = some o → H' c = some o) ∧ H' N = some (.dK kvs) ∧ kvs.length ≤ i ∧
      ∀ (k : Int) (x : V), valV kvs (Sum.inl k) = some x → ∃ (j : Nat) (c : Int), A'.flatten[j]? = some k ∧ C.flatten[j]? = some c ∧ x = .int c) ?_ ?_ ?_ ?_
    · exact ⟨none, none, [], rfl, s02, fun c o _ e => e, eN2, Nat.le_refl _, fun k x z => by cases z⟩
    · rintro i σ H' _ ⟨o3, o4, kvs, rfl, _, kp, _⟩
      exact ⟨SqL.of (kp _ _ DN e1'), SqL.of (kp _ _ DN' e2)⟩
    · rintro i x y t σ H3 hx hy ⟨o3, o4, kvs, rfl, s3, kp, eN, lk, iv⟩ ht
      have hi := lt_get hx
      rw [List.length_map, lA] at hi
      obtain ⟨k, hk, rfl⟩ := map_get hx
      obtain ⟨c, hc, rfl⟩ := map_get hy
      refine ⟨t, _, rfl, SqT.of upd_same, rfl, _, _, rfl, _, _, rfl, rfl, ?_⟩
      have s4 : Same H3 (L2.upd H3 t (.tup [.int k, .int c])) := Same.upd ht
      generalize L2.upd H3 t (.tup [.int k, .int c]) = H4 at s4 ⊢
      have eN4 := s4 _ _ eN
      have get : (valV kvs (Sum.inl k)).getD (V.int c) = V.int c := by
        cases e : valV kvs (Sum.inl k) with
        | none => rfl
        | some x =>
          obtain ⟨j, c', h1, h2, rfl⟩ := iv k x e
          rw [fin j i k c' c h1 hk h2 hc]
          rfl
      refine ⟨_, rfl, N, rfl, .inl ⟨_, .inl eN4⟩, _, rfl, _, rfl, _, (show DGet _ N (V.int k) (valV kvs (Sum.inl k)) from DGet.k (k := Sum.inl k) eN4), _, rfl, ?_⟩
      rw [get]
      refine ⟨rfl, _, rfl, iteNS rfl ?_⟩
      refine ⟨_, rfl, _, rfl, _, rfl, N, _, rfl, (show DPut _ N (V.int k) _ _ from DPut.k (k := Sum.inl k) eN4 (small1000 (by omega))), ?_⟩
      refine ⟨_, _, _, rfl, fun d o e => ?_, fun d o ne e => ?_, upd_same, ?_, fun k' x h => ?_⟩
      · rw [upd_ne (ne_of_none e hN)]
        exact s4 _ _ (s3 _ _ e)
      · rw [upd_ne ne]
        exact s4 _ _ (kp _ _ ne e)
      · have := putK_le kvs (Sum.inl k : Key) (.int c)
        omega
      · rw [valV_put] at h
        split at h
        · rename_i e
          cases h
          exact ⟨i, c, by rw [hk, Sum.inl.inj e], hc, rfl⟩
        · exact iv k' x h
    · rintro σ H3 ⟨o3, o4, kvs, rfl, s3, _⟩
      exact q H3 s3
end
section
variable {P : Program} {w : World} {K : PySem.W.Frag} {mg : Str → Option Value} {base : Heap}
def fac : Nat → Nat
  | 0 => 1
  | n + 1 => (n + 1) * fac n
theorem fac_le {i : Nat} (h : i ≤ 9) : fac i ≤ 362880 := by
  match i, h with
  | 0, _ => decide
  | 1, _ => decide
  | 2, _ => decide
  | 3, _ => decide
  | 4, _ => decide
  | 5, _ => decide
  | 6, _ => decide
  | 7, _ => decide
  | 8, _ => decide
  | 9, _ => decide
def L4 (H : Hp) (x : V) : Prop := ∃ (a : Addr) (b : Bool) (c d e : Int), x = .ref a ∧ H a = some (.tup [.bl b, .int c, .int d, .int e])
def d4 (b : Bool) (c d e : Int) : PyData := .tuple [.bool b, .int c, .int d, .int e]
theorem d4_lay (b : Bool) (c d e : Int) : (d4 b c d e).canLay0 = true ∧ (d4 b c d e).depth ≤ 64 := ⟨rfl, by simp [d4, PyData.depth, PyData.depthAll]⟩
theorem L4.same {H H' : Hp} {x : V} (h : L4 H x) (s : Same H H') : L4 H' x := by
  obtain ⟨a, b, c, d, e, h1, h2⟩ := h
  exact ⟨a, b, c, d, e, h1, s _ _ h2⟩
theorem L4.da {H : Hp} {x : V} (h : L4 H x) : ∃ b c d e, DA K any H x (d4 b c d e) := by
  obtain ⟨a, b, c, d, e, rfl, h2⟩ := h
  exact ⟨b, c, d, e, .tup trivial (SqT.of h2) (.cons (.bl _) (.cons (.int _) (.cons (.int _) (.cons (.int _) .nil))))⟩
def FIt (H : Hp) (D : Addr) (i : Nat) (v : V) : Prop := ∃ (t nA dA : Addr) (ns : List Int) (kvs : List (Key × V)), v = .ref t ∧ H t = some (.tup [.ref nA, .ref dA]) ∧ H nA = some (.lst (ns.map V.int)) ∧ nA ≠ D ∧ ns.length = i ∧ H dA = some (.dK kvs) ∧ kvs.length ≤ i ∧ ∀ (k : Int) (x : V), valV kvs (Sum.inl k) = some x → L4 H x
theorem FIt.same {H H' : Hp} {D : Addr} {i : Nat} {v : V} (h : FIt H D i v) (s : Same H H') : FIt H' D i v := by
  obtain ⟨t, nA, dA, ns, kvs, h1, h2, h3, h4, h5, h6, h7, h8⟩ := h
  exact ⟨t, nA, dA, ns, kvs, h1, s _ _ h2, s _ _ h3, h4, h5, s _ _ h6, h7, fun k x e => (h8 k x e).same s⟩
theorem FIt.upd {H : Hp} {D : Addr} {i : Nat} {v : V} {l l' : List V} (h : FIt H D i v) (e : H D = some (.lst l)) : FIt (L2.upd H D (.lst l')) D i v := by
  obtain ⟨t, nA, dA, ns, kvs, h1, h2, h3, h4, h5, h6, h7, h8⟩ := h
  have n1 : t ≠ D := fun z => by rw [z, e] at h2; cases h2
  have n2 : dA ≠ D := fun z => by rw [z, e] at h6; cases h6
  refine ⟨t, nA, dA, ns, kvs, h1, by rw [upd_ne n1]; exact h2, by rw [upd_ne h4]; exact h3, h4, h5, by rw [upd_ne n2]; exact h6, h7, fun k x q => ?_⟩
  obtain ⟨a, b, c, d, f, g1, g2⟩ := h8 k x q
  exact ⟨a, b, c, d, f, g1, by rw [upd_ne (fun z => by rw [z, e] at g2; cases g2)]; exact g2⟩
def TpV (H : Hp) (L : List V) (ps : List (V × V)) : Prop := L.length = ps.length ∧ ∀ (i : Nat) (v : V) (p : V × V), L[i]? = some v → ps[i]? = some p → ∃ a, v = .ref a ∧ H a = some (.tup [p.1, p.2])
theorem lc_tps {a : Addr} {L : List V} {ps : List (V × V)} {te : TE} {Q : VK} {σ : L2.St} {n : Nat} {H1 : Hp} (Pv : Addr → Nat → List V → Hp → Prop) (hn : σ.length = n) (h0 : ∀ D, H1 D = none → Pv D 0 [] (upd H1 D (.lst [])))
    (hl : ∀ D i zs H', H1 D = none → i ≤ ps.length → Pv D i zs H' → SqL K H' a L ∧ TpV H' L ps ∧ H' D = some (.lst zs))
    (hs : ∀ (D : Addr) (i : Nat) (p : V × V) zs H', H1 D = none → ps[i]? = some p → Pv D i zs H' → te (σ ++ [some p.1, some p.2]) H' fun u H3 => H3 D = some (.lst zs) ∧ zs.length < sizeLine ∧ Pv D (i + 1) (zs ++ [u]) (upd H3 D (.lst (zs ++ [u]))))
    (hd : ∀ D zs H', H1 D = none → Pv D ps.length zs H' → Q (.ref D) H')
    (mono : ∀ σ H Q Q', (∀ v H1, Q v H1 → Q' v H1) → te σ H Q → te σ H Q') : LcW 2 (Itl K a) (g2 K n) tYes te σ H1 Q := by
  subst hn
  intro D hD
  refine ⟨fun i m zs H' => m = ps.length - i ∧ i ≤ ps.length ∧ Pv D i zs H', ⟨ps.length, by simp, Nat.zero_le _, h0 D hD⟩, ?_⟩
  rintro i m zs H2 ⟨rfl, hi, pv⟩
  obtain ⟨hx, hp, eD⟩ := hl D i zs H2 hD hi pv
  refine ⟨eD, ?_⟩
  by_cases hlt : i < ps.length
  · have ep : ps[i]? = some ps[i] := List.getElem?_eq_getElem hlt
    have ex : L[i]? = some (L[i]'(by rw [hp.1]; exact hlt)) := List.getElem?_eq_getElem (by rw [hp.1]; exact hlt)
    obtain ⟨t, et, ht⟩ := hp.2 i _ _ ex ep
    refine .inr ⟨⟨L, _, hx, ex⟩, ?_⟩
    rintro z H3 ⟨rfl, hz⟩ os los
    have hz1 := hz L hx
    rw [ex] at hz1
    obtain rfl : L[i]'(by rw [hp.1]; exact hlt) = z := Option.some.inj hz1
    rw [et]
    match os, los with
    | [o1, o2], _ =>
      refine ⟨t, _, rfl, SqT.of ht, rfl, _, _, rfl, _, [], rfl, rfl, ⟨[some ps[i].1, some ps[i].2], set2 σ o1 o2 _ _, rfl⟩, ?_⟩
      dsimp only [tYes]
      rw [if_pos rfl, set2 σ o1 o2 _ _]
      refine mono _ _ _ _ ?_ (hs D i _ zs H3 hD ep pv)
      rintro u H5 ⟨e5, z5, p5⟩
      exact ⟨e5, z5, ps.length - (i + 1), by omega, rfl, hlt, p5⟩
  · have : i = ps.length := by omega
    subst this
    exact .inl ⟨⟨L, hx, by rw [hp.1]; exact Nat.le_refl _⟩, hd D zs H2 hD pv⟩
def spAll (K : PySem.W.Frag) : Sp := fun vs H Q _ => ∃ (p hA rA : Addr) (rs : List Addr) (n : Nat) (hs : List Int) (M : List (List Int)), vs = [.ref p] ∧ n ≤ 3 ∧ WebAt H p hA rA rs n hs M ∧
  ∀ (D : Addr) (Ts : List (List (List Int))) (H' : Hp), Same H H' → (∀ T ∈ Ts, SqI n T) → TsAt H' D Ts → Q (.ref D) H'
abbrev nAll : List Str := ["_law_web_here", "_law_hues", "_law_rows_here", "_law_found", "_law_u", "_law_v", "_law_look", "_law_more", "_law_numbers", "_law_looks", "_law_kind", "_law_seen"]
theorem scAll : FnScope nAll ["_law_web_here"] (defScope sAll) := ⟨rfl, rfl, rfl, by decide +kernel, rfl, by decide +kernel, by decide +kernel⟩
theorem lcAll : LcScopes (defScope sAll) nAll (lcScope (asgVal (bodyAt sAll 3))) ["_law_numbers", "_law_looks"] := ⟨by decide +kernel, rfl, by decide +kernel, by decide +kernel, by decide +kernel, by decide +kernel, by decide +kernel, by decide +kernel, by decide +kernel, by decide +kernel⟩
theorem ok_all {f fP fR : Addr} {fd fdP fdR : FuncData} (B : BltL mg) (bD : mg "dict" = none) (F : Fun K "_law_all" "_law_all" sAll f fd) (DP : Dn K mg "_law_pairs" sPairs ["_law_many"] fP fdP) (GP : FnOk P w K mg base CX0 1 fP fdP ["_law_many"] (spPairs K))
    (DR : Dn K mg "_law_rows" sLRows ["_law_numbers", "_law_many"] fR fdR) (GR : FnOk P w K mg base CX0 1 fR fdR ["_law_numbers", "_law_many"] (spLRows K)) : FnOk P w K mg base CX0 2 f fd ["_law_web_here"] (spAll K) := by
  refine F.ok scAll (fun vs H Q E h => ?_) (fun cdv A outer s H vs Q E hr h => ?_)
  · obtain ⟨p, hA, rA, rs, n, hs, M, rfl, _⟩ := h
    rfl
  · obtain ⟨p, hA, rA, rs, n, hs, M, rfl, hn, W, q⟩ := h
    refine ⟨_, pss_cons (ps_asg (pv 0) (pg_tup rfl (pgs_cons (pg_name (i := 1) scAll.nd rfl (Or.inr rfl)) (pgs_cons (pg_name (i := 2) scAll.nd rfl (Or.inl rfl)) pgs_nil))))
      (pss_cons (ps_set (i := 3) scAll.nd rfl (Or.inl rfl) (pe_lst (pa_cons (pe_tup (pa_cons (pe_lst pa_nil) (pa_cons pe_dnewK pa_nil))) pa_nil)))
      (pss_cons (ps_for PassesOwn.never rfl (pi_list (pe_fn DP GP hr rfl (pa_cons (pe_callB call_len_seq (by rfl) B.len PySem.boot_len (pa_cons (pv 1) pa_nil)) pa_nil))) (pg_tup rfl (pgs_cons (pg_name (i := 4) scAll.nd rfl (Or.inl rfl)) (pgs_cons (pg_name (i := 5) scAll.nd rfl (Or.inl rfl)) pgs_nil)))
        (pss_cons (ps_set (i := 6) scAll.nd rfl (Or.inl rfl) (pe_tup (pa_cons (pe_cmpR op_eq (pv 4) (pv 5) (nomark _)) (pa_cons (pe_ix ix_list (pe_ix ix_list (pv 2) (pv 4) (fun _ _ => rfl)) (pv 5) (fun _ _ => rfl)) (pa_cons (pe_ix ix_list (pv 1) (pv 4) (fun _ _ => rfl)) (pa_cons (pe_ix ix_list (pv 1) (pv 5) (fun _ _ => rfl)) pa_nil))))))
        (pss_cons (ps_set (i := 7) scAll.nd rfl (Or.inl rfl) (pe_lst pa_nil))
        (pss_cons (ps_for PassesOwn.never rfl (pi_list (pv 3)) (pg_tup rfl (pgs_cons (pg_name (i := 8) scAll.nd rfl (Or.inl rfl)) (pgs_cons (pg_name (i := 9) scAll.nd rfl (Or.inl rfl)) pgs_nil)))
          (pss_one (ps_for PassesOwn.never rfl (pi_range1 rfl B.range (pa_cons (pe_op op_add (pe_callB call_lenD (by rfl) B.len PySem.boot_len (pa_cons (pv 9) pa_nil)) pe_int) pa_nil)) (pg_name (i := 10) scAll.nd rfl (Or.inl rfl))
            (pss_one (ps_if (pt_cmpR (op_eqD hr.units) (pe_dget2 (hu_of hr) (pv 9) (pv 10) (pv 6) ⟨rfl, rfl, rfl, rfl⟩) (pv 6) (nomark _))
              (pss_cons (ps_set (i := 11) scAll.nd rfl (Or.inl rfl) (pe_callTy call_dictD (by rfl) bD boot_dict (pa_cons (pv 9) pa_nil)))
              (pss_cons (ps_dput (hu_of hr) (pv 11) (pv 10) (pv 6) rfl)
              (pss_one (ps_expr (pe_bm PySem.F.plainAttrs_list PySem.F.slot_list_append PySem.F.type_list_append mt_append (pv 7) (pa_cons (pe_tup (pa_cons (pe_op op_cat (pv 8) (pe_lst (pa_cons (pv 10) pa_nil))) (pa_cons (pv 11) pa_nil))) pa_nil))))))
              pss_nil)))))
        (pss_one (ps_set (i := 3) scAll.nd rfl (Or.inl rfl) (pv 7)))))))
      (pss_one (ps_ret (pe_lcs rfl lcAll rfl (pi_list (pv 3)) (pg_two rfl lcAll) (fun _ _ _ => pts_nil) (fun _ _ _ => pe_fn DR GR hr rfl (pa_cons (pv 12) (pa_cons (pe_callB (call_lenK (K := K)) (by rfl) B.len PySem.boot_len (pa_cons (pv 1) pa_nil)) pa_nil)))))))), ?_⟩
    have n9 : n * n ≤ 3 * 3 := Nat.mul_le_mul hn hn
    refine ⟨_, rfl, p, _, rfl, SqT.of W.tup, rfl, _, _, rfl, _, _, rfl, rfl, ?_⟩
    refine ⟨Nat.zero_le _, fun l0 h0 d0 g0 => ⟨(by show 2 ≤ sizeLine; decide), fun t0 k0 => ⟨(by show 1 ≤ sizeLine; decide), fun F0 f0 => ?_⟩⟩⟩
    have q0 : FIt (L2.upd (L2.upd (L2.upd H l0 (.lst [])) d0 (.dK [])) t0 (.tup [.ref l0, .ref d0])) F0 0 (.ref t0) := by
      have a1 : l0 ≠ d0 := ne_of_none upd_same g0
      have a2 : L2.upd (L2.upd H l0 (.lst [])) d0 (.dK []) l0 = some (.lst []) := by rw [upd_ne a1]; exact upd_same
      have a3 : l0 ≠ t0 := ne_of_none a2 k0
      have a4 : d0 ≠ t0 := ne_of_none upd_same k0
      have a5 : L2.upd (L2.upd (L2.upd H l0 (.lst [])) d0 (.dK [])) t0 (.tup [.ref l0, .ref d0]) l0 = some (.lst []) := by rw [upd_ne a3]; exact a2
      exact ⟨t0, l0, d0, [], [], rfl, upd_same, a5, ne_of_none a5 f0, rfl, by rw [upd_ne a4]; exact upd_same, Nat.le_refl _, fun k x z => by cases z⟩
    have s0 : Same H (L2.upd (L2.upd (L2.upd H l0 (.lst [])) d0 (.dK [])) t0 (.tup [.ref l0, .ref d0])) := ((Same.upd h0).trans (Same.upd g0)).trans (Same.upd k0)
    generalize L2.upd (L2.upd (L2.upd H l0 (.lst [])) d0 (.dK [])) t0 (.tup [.ref l0, .ref d0]) = H0 at q0 s0 f0 ⊢
    have s1 : Same H0 (L2.upd H0 F0 (.lst [.ref t0])) := Same.upd f0
    have e1 : L2.upd H0 F0 (.lst [.ref t0]) F0 = some (.lst [.ref t0]) := upd_same
    generalize L2.upd H0 F0 (.lst [.ref t0]) = H1 at s1 e1 ⊢
    have s01 := s0.trans s1
    refine ⟨_, rfl, hA, _, rfl, .inl (SqL.of (s01 _ _ W.hue)), ?_⟩
    rw [List.length_map, W.len]
    refine ⟨n, rfl, by omega, fun C L H2 s2 nC eC pC => ⟨C, rfl, ⟨_, SqL.of eC⟩, ?_⟩⟩
    have s02 := s01.trans s2
    have lL : L.length = n * n := by rw [pC.1, prPre_len]
    refine for_list (K := K) (xs := L) (fun i σ H' => ∃ (o4 o5 o6 o7 o8 o9 o10 o11 : Option V) (Fa : Addr) (L' : List V), σ = [some (.ref p), some (.ref hA), some (.ref rA), some (.ref Fa), o4, o5, o6, o7, o8, o9, o10, o11] ∧ Same H2 H' ∧ H' Fa = some (.lst L') ∧ L'.length ≤ fac i ∧ ∀ v ∈ L', FIt H' Fa i v) ?_ ?_ ?_ ?_
    · exact ⟨none, none, none, none, none, none, none, none, F0, [.ref t0], rfl, Same.refl _, s2 _ _ e1, Nat.le_refl _, fun v hv => by rw [List.mem_singleton.mp hv]; exact (q0.same s1).same s2⟩
    · rintro i σ H' _ ⟨o4, o5, o6, o7, o8, o9, o10, o11, Fa, L', rfl, s', _⟩
      exact SqL.of (s' _ _ eC)
    · rintro i x σ H3 hx ⟨o4, o5, o6, o7, o8, o9, o10, o11, Fa, L', rfl, s3, eF, lF, iF⟩
      have hi : i < n * n := by rw [← lL]; exact lt_get hx
      have i9 : i ≤ 8 := by omega
      obtain ⟨pr, hpr⟩ := get_lt (l := prPre n n) (i := i) (by rw [prPre_len]; exact hi)
      obtain ⟨u, v, hu, hv, rfl⟩ := prPre_mem.mp (List.mem_of_getElem? hpr)
      obtain ⟨t, rfl, et⟩ := pC.2 i x _ hx hpr
      refine ⟨t, _, rfl, SqT.of (s3 _ _ et), rfl, _, _, rfl, _, _, rfl, rfl, ?_⟩
      have W3 := W.same (s02.trans s3)
      obtain ⟨ru, a1, a2, a3⟩ := W3.row_at hu hv
      refine ⟨_, rfl, _, rfl, rfl, ?_⟩
      refine ⟨_, rfl, _, rfl, rA, _, _, _, rfl, rfl, SqL.of W3.rws, a1, _, rfl, ru, _, _, _, rfl, rfl, SqL.of a2, a3, ?_⟩
      refine ⟨_, rfl, _, rfl, hA, _, _, _, rfl, rfl, SqL.of W3.hue, W3.hue_at hu, ?_⟩
      refine ⟨_, rfl, _, rfl, hA, _, _, _, rfl, rfl, SqL.of W3.hue, W3.hue_at hv, (by show 4 ≤ sizeLine; decide), fun lk hlk => ?_⟩
      rw [dec_nat]
      have s4 : Same H3 (L2.upd H3 lk (.tup [.bl (decide (u = v)), .int (ent M u v), .int (hs[u]?.getD 0), .int (hs[v]?.getD 0)])) := Same.upd hlk
      have l4 : L4 (L2.upd H3 lk (.tup [.bl (decide (u = v)), .int (ent M u v), .int (hs[u]?.getD 0), .int (hs[v]?.getD 0)])) (.ref lk) := ⟨lk, _, _, _, _, rfl, upd_same⟩
      generalize L2.upd H3 lk (.tup [.bl (decide (u = v)), .int (ent M u v), .int (hs[u]?.getD 0), .int (hs[v]?.getD 0)]) = H4 at s4 l4 ⊢
      refine ⟨Nat.zero_le _, fun D hD => ?_⟩
      have nDF : Fa ≠ D := ne_of_none (s4 _ _ eF) hD
      have s5 : Same H4 (L2.upd H4 D (.lst [])) := Same.upd hD
      have e5 : L2.upd H4 D (.lst []) D = some (.lst []) := upd_same
      generalize L2.upd H4 D (.lst []) = H5 at s5 e5 ⊢
      refine ⟨_, rfl, Fa, rfl, ⟨_, SqL.of (s5 _ _ (s4 _ _ eF))⟩, for_list (K := K) (xs := L') (fun j σ H' => ∃ (o8 o9 o10 o11 : Option V) (zs : List V), σ = [some (.ref p), some (.ref hA), some (.ref rA), some (.ref Fa), some (.int (u : Int)), some (.int (v : Int)), some (.ref lk), some (.ref D), o8, o9, o10, o11] ∧ Same H4 H' ∧ H' D = some (.lst zs) ∧ zs.length ≤ j * (i + 1) ∧ ∀ v ∈ zs, FIt H' D (i + 1) v) ?_ ?_ ?_ ?_⟩
      · exact ⟨_, _, _, _, [], rfl, s5, e5, Nat.zero_le _, fun v hv => by cases hv⟩
      · rintro j σ H' _ ⟨o8, o9, o10, o11, zs, rfl, s', _⟩
        exact SqL.of (s' _ _ (s4 _ _ eF))
      · rintro j y σ H6 hy ⟨o8, o9, o10, o11, zs, rfl, s6, eD, lz, iz⟩
        have hj : j < L'.length := lt_get hy
        obtain ⟨ty, nA, dA, ns, kvs, rfl, g1, g2, g3, g4, g5, g6, g7⟩ := iF y (List.mem_of_getElem? hy)
        have s36 := s4.trans s6
        refine ⟨ty, _, rfl, SqT.of (s36 _ _ g1), rfl, _, _, rfl, _, _, rfl, rfl, ?_⟩
        refine ⟨_, rfl, dA, kvs, rfl, s36 _ _ g5, _, _, rfl, rfl, ?_⟩
        refine ⟨((kvs.length + 1 : Nat) : Int), by push_cast; rfl, by omega, by omega, ?_⟩
        rw [Int.toNat_natCast]
        have bnd : (j + 1) * (i + 1) ≤ fac (i + 1) := by
          show (j + 1) * (i + 1) ≤ (i + 1) * fac i
          rw [Nat.mul_comm]
          exact Nat.mul_le_mul_left _ (by omega)
        have bnd2 := fac_le (i := i + 1) (by omega)
        have bnd3 : (j + 1) * (i + 1) = j * (i + 1) + (i + 1) := Nat.succ_mul j (i + 1)
        refine for_range (n := kvs.length + 1) (fun k σ H' => ∃ (o10 o11 : Option V) (zs : List V), σ = [some (.ref p), some (.ref hA), some (.ref rA), some (.ref Fa), some (.int (u : Int)), some (.int (v : Int)), some (.ref lk), some (.ref D), some (.ref nA), some (.ref dA), o10, o11] ∧ Same H4 H' ∧ H' D = some (.lst zs) ∧ zs.length ≤ j * (i + 1) + k ∧ ∀ v ∈ zs, FIt H' D (i + 1) v) ⟨_, _, zs, rfl, s6, eD, by omega, iz⟩ ?_ ?_
        · rintro k σ H7 hk ⟨o10, o11, zs, rfl, s7, eD7, lz7, iz7⟩
          have e0 : ((0 : Int) + (k : Nat)) = (k : Int) := by omega
          rw [e0]
          have s37 := s4.trans s7
          have eA7 := s37 _ _ g5
          have l47 := l4.same s7
          have get : L4 H7 ((valV kvs (Sum.inl (k : Int))).getD (.ref lk)) := by
            cases e : valV kvs (Sum.inl (k : Int)) with
            | none => exact l47
            | some x => exact (g7 k x e).same s37
          obtain ⟨b1, c1, d1, f1, da1⟩ := get.da (K := K)
          obtain ⟨b2, c2, d2, f2, da2⟩ := l47.da (K := K)
          refine ⟨_, rfl, dA, rfl, .inl ⟨_, .inl eA7⟩, _, rfl, _, rfl, _, (show DGet _ dA (V.int (k : Int)) (valV kvs (Sum.inl (k : Int))) from DGet.k (k := Sum.inl (k : Int)) eA7), _, rfl, _, _, da1, da2, ⟨(d4_lay _ _ _ _).1, (d4_lay _ _ _ _).1, (d4_lay _ _ _ _).2⟩, _, rfl, ?_⟩
          cases PyData.eqv (d4 b1 c1 d1 f1) (d4 b2 c2 d2 f2) with
          | false => exact iteF ⟨_, _, zs, rfl, s7, eD7, by omega, iz7⟩
          | true =>
            refine iteT ?_
            refine ⟨_, rfl, dA, kvs, rfl, eA7, fun dN hdN => ?_⟩
            have s8 : Same H7 (L2.upd H7 dN (.dK kvs)) := Same.upd hdN
            have e8 : L2.upd H7 dN (.dK kvs) dN = some (.dK kvs) := upd_same
            refine ⟨_, rfl, _, rfl, _, rfl, dN, _, rfl, (show DPut _ dN (V.int (k : Int)) _ _ from DPut.k (k := Sum.inl (k : Int)) e8 (small1000 (by omega))), ?_⟩
            have s9 : Same H7 (L2.upd (L2.upd H7 dN (.dK kvs)) dN (.dK (putK kvs (Sum.inl (k : Int)) (.ref lk)))) := fun c o e => by rw [upd_ne (ne_of_none e hdN)]; exact s8 _ _ e
            have e9 : L2.upd (L2.upd H7 dN (.dK kvs)) dN (.dK (putK kvs (Sum.inl (k : Int)) (.ref lk))) dN = some (.dK (putK kvs (Sum.inl (k : Int)) (.ref lk))) := upd_same
            generalize L2.upd (L2.upd H7 dN (.dK kvs)) dN (.dK (putK kvs (Sum.inl (k : Int)) (.ref lk))) = H9 at s9 e9 ⊢
            refine ⟨_, rfl, .inl ⟨rfl, _, SqL.of (s9 _ _ eD7)⟩, ?_⟩
            refine ⟨_, rfl, _, rfl, (by show 1 ≤ sizeLine; decide), fun kl hkl => ?_⟩
            have sa : Same H9 (L2.upd H9 kl (.lst [.int (k : Int)])) := Same.upd hkl
            have ea : L2.upd H9 kl (.lst [.int (k : Int)]) kl = some (.lst [.int (k : Int)]) := upd_same
            generalize L2.upd H9 kl (.lst [.int (k : Int)]) = Ha at sa ea ⊢
            have s3a := (s37.trans s9).trans sa
            refine ⟨nA, kl, _, _, rfl, rfl, s3a _ _ g2, ea, Nat.le_of_lt (small1000 (by rw [List.length_map]; show ns.length + 1 ≤ 1000; omega)), fun cl hcl => ?_⟩
            have ec : ns.map V.int ++ [V.int (k : Int)] = (ns ++ [(k : Int)]).map V.int := by rw [List.map_append]; rfl
            rw [ec]
            have sb : Same Ha (L2.upd Ha cl (.lst ((ns ++ [(k : Int)]).map V.int))) := Same.upd hcl
            have eb : L2.upd Ha cl (.lst ((ns ++ [(k : Int)]).map V.int)) cl = some (.lst ((ns ++ [(k : Int)]).map V.int)) := upd_same
            have nclD : cl ≠ D := (ne_of_none (sa _ _ (s9 _ _ eD7)) hcl).symm
            generalize L2.upd Ha cl (.lst ((ns ++ [(k : Int)]).map V.int)) = Hb at sb eb ⊢
            refine ⟨_, rfl, (by show 2 ≤ sizeLine; decide), fun tN htN => ?_⟩
            have sc : Same Hb (L2.upd Hb tN (.tup [.ref cl, .ref dN])) := Same.upd htN
            have ecl : L2.upd Hb tN (.tup [.ref cl, .ref dN]) tN = some (.tup [.ref cl, .ref dN]) := upd_same
            generalize L2.upd Hb tN (.tup [.ref cl, .ref dN]) = Hc at sc ecl ⊢
            have s9c := (sa.trans sb).trans sc
            have s7c := s9.trans s9c
            have eDc := s7c _ _ eD7
            have it : FIt Hc D (i + 1) (.ref tN) := by
              refine ⟨tN, cl, dN, ns ++ [(k : Int)], _, rfl, ecl, sc _ _ eb, nclD, by rw [List.length_append, g4]; rfl, s9c _ _ e9, ?_, fun k' x h => ?_⟩
              · have := putK_le kvs (Sum.inl (k : Int) : Key) (.ref lk)
                omega
              · rw [valV_put] at h
                split at h
                · cases h
                  exact l47.same s7c
                · exact ((g7 k' x h).same s37).same s7c
            refine ⟨D, _, _, rfl, rfl, eDc, by rw [sizeLine_eq]; omega, ?_⟩
            refine ⟨_, _, zs ++ [.ref tN], rfl, fun c o e => ?_, upd_same, by rw [List.length_append]; show zs.length + 1 ≤ _; omega, fun v' hv' => ?_⟩
            · rw [upd_ne (ne_of_none e hD)]
              exact s7c _ _ (s7 _ _ e)
            · rcases List.mem_append.mp hv' with z | z
              · exact ((iz7 v' z).same s7c).upd eDc
              · rw [List.mem_singleton.mp z]
                exact it.upd eDc
        · rintro σ H7 ⟨o10, o11, zs, rfl, s7, eD7, lz7, iz7⟩
          exact ⟨_, _, _, _, zs, rfl, s7, eD7, by omega, iz7⟩
      · rintro σ H6 ⟨o8, o9, o10, o11, zs, rfl, s6, eD, lz, iz⟩
        refine ⟨_, rfl, ?_⟩
        refine ⟨_, _, _, _, _, _, _, _, D, zs, rfl, (s3.trans s4).trans s6, eD, ?_, iz⟩
        show zs.length ≤ (i + 1) * fac i
        rw [Nat.mul_comm]
        exact Nat.le_trans lz (Nat.mul_le_mul_right _ lF)
    · rintro σ H3 ⟨o4, o5, o6, o7, o8, o9, o10, o11, Fa, L', rfl, s3, eF, lF, iF⟩
      rw [lL] at lF iF
      have bnd2 := fac_le (i := n * n) (by omega)
      classical
      have tp : ∃ ps : List (V × V), TpV H3 L' ps ∧ ∀ p' ∈ ps, ∃ (nA : Addr) (ns : List Int), p'.1 = .ref nA ∧ H3 nA = some (.lst (ns.map V.int)) ∧ ns.length = n * n := by
        have key : ∀ l : List V, (∀ v ∈ l, FIt H3 Fa (n * n) v) → ∃ ps : List (V × V), TpV H3 l ps ∧ ∀ p' ∈ ps, ∃ (nA : Addr) (ns : List Int), p'.1 = .ref nA ∧ H3 nA = some (.lst (ns.map V.int)) ∧ ns.length = n * n := by
          intro l
          induction l with
          | nil => exact fun _ => ⟨[], ⟨rfl, fun i v p h => by simp at h⟩, fun p h => by cases h⟩
          | cons v l ih =>
            intro hl
            obtain ⟨ps, ⟨t1, t2⟩, h2⟩ := ih fun v' hv' => hl v' (List.mem_cons_of_mem _ hv')
            obtain ⟨t, nA, dA, ns, kvs, rfl, g1, g2, _, g4, _⟩ := hl v List.mem_cons_self
            refine ⟨(.ref nA, .ref dA) :: ps, ⟨by rw [List.length_cons, List.length_cons, t1], fun i v' p' e1 e2 => ?_⟩, fun p' hp' => ?_⟩
            · cases i with
              | zero => cases e1; cases e2; exact ⟨t, rfl, g1⟩
              | succ i => exact t2 i v' p' e1 e2
            · rcases List.mem_cons.mp hp' with rfl | z
              · exact ⟨nA, ns, rfl, g2, g4⟩
              · exact h2 p' z
        exact key L' iF
      obtain ⟨ps, tpv, hps⟩ := tp
      refine ⟨_, rfl, Fa, rfl, ⟨_, SqL.of eF⟩, ?_⟩
      refine lc_tps (K := K) (L := L') (ps := ps) (fun D i zs H' => ∃ (rs' : List Addr) (Ts : List (List (List Int))), zs = rs'.map V.ref ∧ rs'.length = i ∧ Ts.length = i ∧ Same H3 H' ∧ H' D = some (.lst zs) ∧ (∀ T ∈ Ts, SqI n T) ∧ ∀ (j : Nat) (r : Addr) (T : List (List Int)), rs'[j]? = some r → Ts[j]? = some T → r ≠ D ∧ ∃ rr : List Addr, H' r = some (.lst (rr.map V.ref)) ∧ GrdV H' rr (gI T) ∧ ∀ a ∈ rr, a ≠ D) rfl ?_ ?_ ?_ ?_ ?_
      · intro D hD
        exact ⟨[], [], rfl, rfl, rfl, Same.upd hD, upd_same, (fun T h => by cases h), fun j r T h => by simp at h⟩
      · rintro D i zs H' hD _ ⟨rs', Ts, _, _, _, s', eD, _⟩
        exact ⟨SqL.of (s' _ _ eF), ⟨tpv.1, fun i v p' h1 h2 => by obtain ⟨a, e, ha⟩ := tpv.2 i v p' h1 h2; exact ⟨a, e, s' _ _ ha⟩⟩, eD⟩
      · rintro D i p' zs H' hD hp' ⟨rs', Ts, rfl, lr, lT, s', eD, sT, hT⟩
        have hi := lt_get hp'
        rw [← tpv.1] at hi
        obtain ⟨nA, ns, en, g2, g4⟩ := hps p' (List.mem_of_getElem? hp')
        have W' := W.same ((s02.trans s3).trans s')
        refine ⟨_, rfl, _, rfl, hA, _, rfl, .inl (SqL.of W'.hue), ?_⟩
        have lh : (hs.map V.int).length = n := by rw [List.length_map, W.len]
        rw [lh, en]
        refine ⟨nA, ns, n, rfl, SqL.of (s' _ _ g2), g4, by omega, fun R H4 s4 gR => ?_⟩
        obtain ⟨rr, eR, vR, nR, nrr⟩ := gR
        have eD4 := s4 _ _ eD
        have nRD : R ≠ D := fun z => by rw [z, eD] at nR; cases nR
        have nrD : ∀ a ∈ rr, a ≠ D := fun a ha z => by have := (nrr a ha).2; rw [z, eD] at this; cases this
        refine ⟨eD4, by rw [sizeLine_eq, List.length_map]; omega, rs' ++ [R], Ts ++ [squareI ns n], by rw [List.map_append]; rfl, by rw [List.length_append, lr]; rfl, by rw [List.length_append, lT]; rfl, fun c o e => ?_, upd_same, fun T h => ?_, fun j r T h1 h2 => ?_⟩
        · rw [upd_ne (ne_of_none e hD)]
          exact s4 _ _ (s' _ _ e)
        · rcases List.mem_append.mp h with z | z
          · exact sT T z
          · rw [List.mem_singleton.mp z]; exact square_sq g4
        · rcases snoc_get h1 with z | ⟨e, z⟩
          · rcases snoc_get h2 with z2 | ⟨e2, _⟩
            · obtain ⟨n1, rr', x1, x2, x3⟩ := hT j r T z z2
              refine ⟨n1, rr', by rw [upd_ne n1]; exact s4 _ _ x1, ⟨x2.len, fun k a y h1 h2 => ?_⟩, x3⟩
              rw [upd_ne (x3 a (List.mem_of_getElem? h1))]
              exact s4 _ _ (x2.row k a y h1 h2)
            · have := lt_get z
              omega
          · rcases snoc_get h2 with z2 | ⟨_, z2⟩
            · have := lt_get z2
              omega
            · rw [z, z2]
              refine ⟨nRD, rr, by rw [upd_ne nRD]; exact eR, ⟨vR.len, fun k a y h1 h2 => ?_⟩, nrD⟩
              rw [upd_ne (nrD a (List.mem_of_getElem? h1))]
              exact vR.row k a y h1 h2
      · rintro D zs H' hD ⟨rs', Ts, rfl, lr, lT, s', eD, sT, hT⟩
        refine q D Ts H' ((s02.trans s3).trans s') sT ⟨rs', eD, by rw [lr, lT], fun i t T h1 h2 => ?_⟩
        obtain ⟨_, rr, x1, x2, _⟩ := hT i t T h1 h2
        exact ⟨rr, x1, x2⟩
      · rintro σ H' Q1 Q2 hq ⟨v1, e1, v2, e2, p1, y1, c1, c2, a1, n1, m1, f1, f2, f3, f4, g⟩
        exact ⟨v1, e1, v2, e2, p1, y1, c1, c2, a1, n1, m1, f1, f2, f3, f4, fun D H4 s4 g4 => hq _ _ (g D H4 s4 g4)⟩
end
section
variable {P : Program} {w : World} {K : PySem.W.Frag} {mg : Str → Option Value} {base : Heap}
theorem seen_nodup {κ : Type} [DecidableEq κ] : ∀ (ks s : List κ), s.Nodup → (ks.foldl seenAdd s).Nodup
  | [], _, h => h
  | k :: ks, s, h => by
    rw [List.foldl_cons]
    refine seen_nodup ks _ ?_
    unfold seenAdd
    split
    · exact h
    · rename_i m
      rw [List.nodup_append]
      refine ⟨h, by simp, fun x hx y hy e => ?_⟩
      rw [List.mem_singleton] at hy
      exact m (hy ▸ e ▸ hx)
theorem seen_mem {κ : Type} [DecidableEq κ] {x : κ} : ∀ (ks s : List κ), x ∈ ks.foldl seenAdd s ↔ x ∈ s ∨ x ∈ ks
  | [], s => by simp
  | k :: ks, s => by
    rw [List.foldl_cons, seen_mem ks, List.mem_cons]
    have : x ∈ seenAdd s k ↔ x ∈ s ∨ x = k := by
      unfold seenAdd
      split
      · rename_i m
        constructor
        · exact .inl
        · rintro (q | rfl)
          · exact q
          · exact m
      · rw [List.mem_append, List.mem_singleton]
    rw [this, or_assoc]
def dW (hs : List Int) (M : List (List Int)) : PyData := .tuple [dI hs, .list (M.map dI)]
theorem lay_rows : ∀ M : List (List Int), PyData.canLayAll0 (M.map dI) = true ∧ PyData.depthAll (M.map dI) ≤ 1
  | [] => ⟨rfl, Nat.zero_le _⟩
  | x :: M => by
    obtain ⟨h1, h2⟩ := lay_rows M
    obtain ⟨a1, a2⟩ := lay_dI x
    rw [List.map_cons]
    simp only [PyData.canLayAll0, PyData.depthAll, h1, a1, Bool.and_self, true_and]
    omega
theorem lay_dW (hs : List Int) (M : List (List Int)) : (dW hs M).canLay0 = true ∧ (dW hs M).depth ≤ 3 := by
  obtain ⟨h1, h2⟩ := lay_rows M
  obtain ⟨a1, a2⟩ := lay_dI hs
  unfold dW
  simp only [PyData.canLay0, PyData.canLayAll0, PyData.depth, PyData.depthAll, h1, a1, Bool.and_self, true_and]
  omega
theorem das_rows {H : Hp} : ∀ {rs : List Addr} {M : List (List Int)}, rs.length = M.length → (∀ (i : Nat) (r : Addr) (x : List Int), rs[i]? = some r → M[i]? = some x → H r = some (.lst (x.map V.int))) → DAs K any H (rs.map V.ref) (M.map dI)
  | [], [], _, _ => .nil
  | r :: rs, x :: M, l, h => .cons (daI trivial (SqL.of (h 0 r x rfl rfl))) (das_rows (by simpa using l) fun i r' x' h1 h2 => h (i + 1) r' x' h1 h2)
theorem WebAt.da {H : Hp} {p hA rA : Addr} {rs : List Addr} {n : Nat} {hs : List Int} {M : List (List Int)} (W : WebAt H p hA rA rs n hs M) : DA K any H (.ref p) (dW hs M) :=
  .tup trivial (SqT.of W.tup) (.cons (daI trivial (SqL.of W.hue)) (.cons (.lst trivial (SqL.of W.rws) (das_rows W.row.len W.row.row)) .nil))
theorem boot_strT : bootBuiltins "str" = some (.type "str") := by decide +kernel
theorem boot_max : bootBuiltins "max" = some (.builtin "max") := by decide +kernel
theorem rows_show {n : Nat} (hn : n ≤ 8) : ∀ M : List (List Int), (∀ x ∈ M, x.length = n ∧ ∀ z ∈ x, z.natAbs < 10 ^ 30) → PyData.showableAll (M.map dI) = true ∧ PyData.intsShortAll 31 (M.map dI) = true ∧ PyData.hasDictAll (M.map dI) = false ∧ PyData.weightAll (M.map dI) ≤ 817 * M.length
  | [], _ => ⟨rfl, rfl, rfl, Nat.le_refl _⟩
  | x :: M, h => by
    obtain ⟨a1, a2, a3, a4⟩ := rows_show hn M fun y hy => h y (List.mem_cons_of_mem _ hy)
    obtain ⟨lx, bx⟩ := h x List.mem_cons_self
    obtain ⟨b1, b2, b3, b4⟩ := ints_show x bx
    rw [List.map_cons]
    refine ⟨?_, ?_, ?_, ?_⟩
    · simp only [PyData.showableAll, dI, PyData.showable, a1, b1, Bool.and_self]
    · simp only [PyData.intsShortAll, dI, PyData.intsShort, a2, b2, Bool.and_self]
    · simp only [PyData.hasDictAll, dI, PyData.hasDict, a3, b3, Bool.or_self]
    · simp only [PyData.weightAll, dI, PyData.weight, List.length_cons]
      omega
theorem WebAt.show {H : Hp} {p hA rA : Addr} {rs : List Addr} {n : Nat} {hs : List Int} {M : List (List Int)} (W : WebAt H p hA rA rs n hs M) (hn : n ≤ 8) : (dW hs M).showable = true ∧ (dW hs M).hasDict = false ∧ (dW hs M).depth ≤ 32 ∧ (dW hs M).shown.length ≤ sizeLine := by
  have wm : wMax = 1000000000000000000000 := by decide
  obtain ⟨a1, a2, a3, a4⟩ := ints_show hs fun z hz => by
    have := W.pos z hz
    have e : (10 : Nat) ^ 30 = 1000000000000000000000000000000 := by decide
    rw [e]
    omega
  obtain ⟨b1, b2, b3, b4⟩ := rows_show hn M fun x hx => by
    obtain ⟨j, hj⟩ := List.mem_iff_getElem?.mp hx
    obtain ⟨r1, r2⟩ := W.sq.row j x hj
    exact ⟨r1, fun z hz => Nat.lt_of_le_of_lt (r2 z hz) (by rw [wm]; decide)⟩
  obtain ⟨c1, c2⟩ := lay_dW hs M
  have l1 := W.len
  have l2 := W.sq.len
  have is : (dW hs M).intsShort 31 = true := by simp only [dW, dI, PyData.intsShort, PyData.intsShortAll, a2, b2, Bool.and_self]
  have h := PyData.shown_le 31 (by decide) _ (PyData.leavesShort_of_canLay0 31 _ c1 is)
  have w : (dW hs M).weight ≤ 8000 := by
    simp only [dW, dI, PyData.weight, PyData.weightAll]
    have b4' : PyData.weightAll (M.map fun ns => PyData.list (ns.map PyData.int)) ≤ 817 * M.length := b4
    omega
  have e := sizeLine_eq
  refine ⟨?_, ?_, by omega, by omega⟩
  · simp only [dW, dI, PyData.showable, PyData.showableAll, a1, b1, Bool.and_self]
  · simp only [dW, dI, PyData.hasDict, PyData.hasDictAll, a3, b3, Bool.or_self]
theorem norm_occ {ls : List Int} (h : Norm ls) {k j : Int} (hk : k ∈ ls) (h0 : 0 ≤ j) (hj : j ≤ k) : j ∈ ls := by
  have hk' := hk
  rw [h, nI] at hk'
  obtain ⟨x, hx, rfl⟩ := List.mem_map.mp hk'
  obtain ⟨i, hi⟩ := List.mem_iff_getElem?.mp hx
  have li : i < ls.length := by rw [← numb_len ls]; exact lt_get hi
  obtain ⟨a, ha⟩ := get_lt li
  obtain ⟨a1, b1⟩ := nums_idx ls [] i ha
  have c1 : some ((ls.foldl seenAdd []).idxOf a) = some x := a1.symm.trans hi
  cases c1
  have lt := List.idxOf_lt_length_iff.mpr b1
  obtain ⟨m, rfl⟩ := Int.eq_ofNat_of_zero_le h0
  have lm : m < (ls.foldl seenAdd []).length := by omega
  have em : (ls.foldl seenAdd [])[m] ∈ ls := ((seen_mem ls []).mp (List.getElem_mem lm)).resolve_left (by simp)
  obtain ⟨i', hi'⟩ := List.mem_iff_getElem?.mp em
  obtain ⟨a2, _⟩ := nums_idx ls [] i' hi'
  have nd : (ls.foldl seenAdd []).Nodup := seen_nodup ls [] List.nodup_nil
  have e : (ls.foldl seenAdd []).idxOf (ls.foldl seenAdd [])[m] = m := List.Nodup.idxOf_getElem nd m lm
  rw [e] at a2
  have : (nI (numb ls))[i']? = some (m : Int) := by
    rw [nI_get]
    show Option.map _ (numsFrom [] ls)[i']? = _
    rw [a2]
    rfl
  rw [← h] at this
  exact List.mem_of_getElem? this
theorem kin_congr {n : Nat} {h h' : Nat → Int} {w w' t t' : Nat → Nat → Int} (eh : ∀ u, u < n → h u = h' u) (ew : ∀ u v, u < n → v < n → w u v = w' u v) (et : ∀ u v, u < n → v < n → t u v = t' u v) (k : KinF n h w t) : KinF n h' w' t' := by
  have e : ∀ u v, u < n → v < n → lkF n h w t u v = lkF n h' w' t' u v := fun u v hu hv => by
    unfold lkF
    rw [Lk.mk.injEq]
    refine ⟨rfl, ew u v hu hv, eh u hu, eh v hv, et v u hv hu, ?_⟩
    congr 1
    exact List.map_congr_left fun x hx => by
      have hx := List.mem_range.mp hx
      rw [et u x hu hx, et x v hx hv]
  intro u v u' v' hu hv hu' hv' q
  rw [← e u v hu hv, ← e u' v' hu' hv']
  refine k u v u' v' hu hv hu' hv' ?_
  rw [et u v hu hv, et u' v' hu' hv']
  exact q
theorem coarse_congr {n : Nat} {h h' : Nat → Int} {w w' t : Nat → Nat → Int} (eh : ∀ u, u < n → h u = h' u) (ew : ∀ u v, u < n → v < n → w u v = w' u v) (c : CoarseF n h w t) : CoarseF n h' w' t :=
  ⟨kin_congr eh ew (fun _ _ _ _ => rfl) c.1, fun p kp => c.2 p (kin_congr (fun u hu => (eh u hu).symm) (fun u v hu hv => (ew u v hu hv).symm) (fun _ _ _ _ => rfl) kp)⟩
def sg (os : List Int) (u : Nat) : Nat := (os[u]?.getD 0).toNat
theorem sg_perm {n : Nat} {os : List Int} (h : os.Perm (My.rI n)) : ((List.range n).map (sg os)).Perm (List.range n) := by
  have lo : os.length = n := by rw [h.length_eq, rI_len]
  have e : (List.range n).map (sg os) = os.map Int.toNat := by
    apply List.ext_getElem?
    intro i
    rw [List.getElem?_map, List.getElem?_map]
    by_cases hi : i < n
    · rw [List.getElem?_range hi]
      obtain ⟨o, ho⟩ := get_lt (l := os) (i := i) (by omega)
      unfold sg
      rw [ho]
      show some ((os[i]?.getD 0).toNat) = some o.toNat
      rw [ho]
      rfl
    · rw [List.getElem?_eq_none (by rw [List.length_range]; omega), List.getElem?_eq_none (by omega)]
      rfl
  rw [e]
  have := h.map Int.toNat
  have e2 : (My.rI n).map Int.toNat = List.range n := by
    unfold My.rI
    rw [List.map_map]
    have : (List.range n).map (Int.toNat ∘ fun (i : Nat) => (i : Int)) = (List.range n).map id := List.map_congr_left fun x _ => rfl
    rw [this, List.map_id]
  rw [e2] at this
  exact this
theorem sg_at {n : Nat} {os : List Int} (h : os.Perm (My.rI n)) {u : Nat} (hu : u < n) : os[u]? = some ((sg os u : Nat) : Int) := by
  have lo : os.length = n := by rw [h.length_eq, rI_len]
  obtain ⟨o, ho⟩ := get_lt (l := os) (i := u) (by omega)
  have := rI_mem (h.mem_iff.mp (List.mem_of_getElem? ho))
  unfold sg
  rw [ho]
  show some o = some ((o.toNat : Nat) : Int)
  rw [Int.toNat_of_nonneg this.1]
theorem hue_ren {n : Nat} {hs os : List Int} (h : os.Perm (My.rI n)) {u : Nat} (hu : u < n) : hueF (renH hs os) u = hueF hs (sg os u) := by
  unfold hueF renH
  rw [List.getElem?_map, sg_at h hu]
  show hs.getD (Int.toNat ((sg os u : Nat) : Int)) 0 = _
  rw [Int.toNat_natCast, List.getD_eq_getElem?_getD]
theorem ent_ren {n : Nat} {M : List (List Int)} {os : List Int} (h : os.Perm (My.rI n)) {u v : Nat} (hu : u < n) (hv : v < n) : ent (renM M os) u v = ent M (sg os u) (sg os v) := by
  unfold ent renM
  rw [List.getElem?_map, sg_at h hu]
  show ((renH (M.getD (Int.toNat ((sg os u : Nat) : Int)) []) os)[v]?).getD 0 = _
  rw [Int.toNat_natCast, List.getD_eq_getElem?_getD]
  exact hue_ren (hs := M[sg os u]?.getD []) h hv
theorem WN.wbn {H H' : Hp} {p : Addr} {n : Nat} {hs os : List Int} {M : List (List Int)} (h : os.Perm (My.rI n)) (W : WN H H' p (renH hs os) (renM M os)) : WbN K H' (.ref p) n (renH hs os, renM M os) := by
  have lo : os.length = n := by rw [h.length_eq, rI_len]
  obtain ⟨hA, rA, rs, h1, h2, h3, R, _⟩ := W.ex
  refine ⟨⟨p, hA, rA, rs, rfl, SqT.of h1, SqL.of h2, SqL.of h3, R.len, fun j t ws e1 e2 => SqL.of (R.row j t ws e1 e2)⟩, ?_, ?_, fun r hr => ?_⟩
  · show (renH hs os).length = n
    unfold renH
    rw [List.length_map, lo]
  · show (renM M os).length = n
    unfold renM
    rw [List.length_map, lo]
  · obtain ⟨o, _, rfl⟩ := List.mem_map.mp (show r ∈ os.map fun u => renH (M.getD u.toNat []) os from hr)
    unfold renH
    rw [List.length_map, lo]
theorem sq_prs {n : Nat} {xs : List Int} (h : xs.length = n * n) : xs = (prs n).map fun p => ent (squareI xs n) p.1 p.2 := by
  rw [← flat_prs (square_sq h)]
  exact (square_flat h).symm
theorem prPre_prs (n : Nat) : prPre n n = (prs n).map fun p => ((p.1 : Int), (p.2 : Int)) := by
  unfold prPre prRow prs
  rw [List.map_flatMap]
  congr 1
  funext u
  rw [List.map_map]
  rfl
theorem put_not {n : Nat} {h : Nat → Int} {w t : Nat → Nat → Int} {xs : List Int} (c : CoarseF n h w t) (ex : xs = (prs n).map fun p => t p.1 p.2) (nm : Norm xs) {one other m : Int} (hm : m ∈ xs) (h0 : 0 ≤ other) (h1 : other < one) (h2 : one ≤ m) :
    ¬ KinF n h w (ent (squareI (xs.map fun k => if k = one then other else k) n)) := by
  intro kin
  have lx : xs.length = n * n := by
    have e : (prs n).length = n * n := by
      unfold prs
      rw [List.length_flatMap]
      have : ((List.range n).map fun x => ((List.range n).map fun j => (x, j)).length) = (List.range n).map fun _ => n := List.map_congr_left fun x _ => by rw [List.length_map, List.length_range]
      rw [this]
      show (List.map (Function.const _ n) (List.range n)).sum = n * n
      rw [List.map_const, List.sum_replicate_nat, List.length_range]
    rw [ex, List.length_map, e]
  have l2 : (xs.map fun k => if k = one then other else k).length = n * n := by rw [List.length_map, lx]
  have e2 := sq_prs l2
  have e3 : (prs n).map (fun p => ent (squareI (xs.map fun k => if k = one then other else k) n) p.1 p.2) = (prs n).map fun p => if t p.1 p.2 = one then other else t p.1 p.2 := by
    rw [← e2]
    conv => lhs; rw [ex]
    rw [List.map_map]
    rfl
  have pt := List.map_inj_left.mp e3
  have o1 := norm_occ nm hm (by omega) h2
  have o2 := norm_occ nm o1 h0 (by omega)
  rw [ex] at o1 o2
  obtain ⟨p, hp, ep⟩ := List.mem_map.mp o1
  obtain ⟨q, hq, eq⟩ := List.mem_map.mp o2
  obtain ⟨p1, p2⟩ := prs_mem.mp (show (p.1, p.2) ∈ prs n from hp)
  obtain ⟨q1, q2⟩ := prs_mem.mp (show (q.1, q.2) ∈ prs n from hq)
  have e5 := c.2 _ kin p.1 p.2 q.1 q.2 p1 p2 q1 q2 (by rw [pt p hp, pt q hq, ep, eq, if_pos rfl, if_neg (by omega)])
  rw [ep, eq] at e5
  omega
theorem ren_flat {n : Nat} {h : Nat → Int} {w t t' : Nat → Nat → Int} {σ : Nat → Nat} {xs : List Int} (perm : ((List.range n).map σ).Perm (List.range n)) (c : CoarseF n h w t) (c' : CoarseF n (fun u => h (σ u)) (fun u v => w (σ u) (σ v)) t') (ex : xs = (prs n).map fun p => t' p.1 p.2) (nm : Norm xs) (lx : xs.length = n * n) :
    xs = nI (numb ((prs n).map fun p => t (σ p.1) (σ p.2))) := by
  obtain ⟨w1, w2⟩ := coarse_ren perm c c'
  have ln : (nI (numb ((prs n).map fun p => t (σ p.1) (σ p.2)))).length = n * n := by rw [nI, List.length_map, numb_len, List.length_map, ← lx, ex, List.length_map]
  have es := sq_prs ln
  have em : ∀ u v u' v', u < n → v < n → u' < n → v' < n → (ent (squareI (nI (numb ((prs n).map fun p => t (σ p.1) (σ p.2)))) n) u v = ent (squareI (nI (numb ((prs n).map fun p => t (σ p.1) (σ p.2)))) n) u' v' ↔ t (σ u) (σ v) = t (σ u') (σ v')) := fun u v u' v' hu hv hu' hv' =>
    map_numb (p := (u, v)) (q := (u', v')) (e := fun p => ent (squareI (nI (numb ((prs n).map fun p => t (σ p.1) (σ p.2)))) n) p.1 p.2) (m := fun p : Nat × Nat => t (σ p.1) (σ p.2)) es.symm (prs_mem.mpr ⟨hu, hv⟩) (prs_mem.mpr ⟨hu', hv'⟩)
  refine within_eq ex es nm (norm_numb _) (fun u v u' v' hu hv hu' hv' q => ?_) (fun u v u' v' hu hv hu' hv' q => ?_)
  · exact (em u v u' v' hu hv hu' hv').mpr (w1 u v u' v' hu hv hu' hv' q)
  · exact w2 u v u' v' hu hv hu' hv' ((em u v u' v' hu hv hu' hv').mp q)
end
section
variable {P : Program} {w : World} {K : PySem.W.Frag} {mg : Str → Option Value} {base : Heap}
def spLaw (K : PySem.W.Frag) : Sp := fun vs H Q _ => ∃ (a : Addr) (ns : List Int), vs = [.ref a] ∧ SqL K H a (ns.map V.int) ∧ ns.length ≤ 63 ∧ ∀ H', Q (.bl true) H'
abbrev nLaw : List Str := ["_law_script", "_law_free", "_law_many", "_law_web_here", "_law_copy", "_law_told_here", "_law_kinds", "_law_numbers", "_law_one", "_law_other", "_law_both", "_law_order_here", "_law_turned", "_law_u", "_law_v", "_law_row"]
theorem scLaw : FnScope nLaw ["_law_script"] (defScope sLaw) := ⟨rfl, rfl, rfl, by decide +kernel, rfl, by decide +kernel, by decide +kernel⟩
theorem lcLaw : LcScopes (defScope sLaw) nLaw (lcScope (asgVal (forBody (forBody (bodyAt sLaw 8) 0) 0))) ["_law_kind"] := ⟨by decide +kernel, rfl, by decide +kernel, by decide +kernel, by decide +kernel, by decide +kernel, by decide +kernel, by decide +kernel, by decide +kernel, by decide +kernel⟩
theorem told_of {us : List Int} {M : List (List Int)} {n : Nat} {ns : List Int} (hl : us.length = n) (en : EndK [(us, M)] ns) : SqI n (tabAt ns [(us, M)] 0) ∧ (tabAt ns [(us, M)] 0).flatten = ns ∧ Norm ns ∧ (ns = (prs n).map fun p => ent (tabAt ns [(us, M)] 0) p.1 p.2) ∧ CoarseF n (hueF us) (ent M) (ent (tabAt ns [(us, M)] 0)) := by
  subst hl
  obtain ⟨sq, e⟩ := tab_one (us := us) (M := M) (ns := ns) en.1.len
  exact ⟨sq, by rw [flat_prs sq]; exact e.symm, en.1.norm, e, end_coarse en⟩
theorem ok_law {f fC fW fK fT fE fA fI fF fR fO fG fN fP : Addr} {fd fdC fdW fdK fdT fdE fdA fdI fdF fdR fdO fdG fdN fdP : FuncData} (B : BltL mg) (bS : mg "str" = none) (F : Fun K "law" "law" sLaw f fd)
    (DC : Dn K mg "_law_cell_at" sCellAt ["_law_script", "_law_k"] fC fdC) (GC : FnOk P w K mg base CX0 1 fC fdC ["_law_script", "_law_k"] (spCell K))
    (DW : Dn K mg "_law_web" sWebP aWebP fW fdW) (GW : FnOk P w K mg base CX0 2 fW fdW aWebP (spWebP K))
    (DK : Dn K mg "coarsest_kinds" sCoarseK ["web"] fK fdK) (GK : FnOk P w K mg base CX0 6 fK fdK ["web"] (spCoarseK K))
    (DT : Dn K mg "_law_told" sTold ["_law_kinds", "_law_many"] fT fdT) (GT : FnOk P w K mg base CX0 2 fT fdT ["_law_kinds", "_law_many"] spTold)
    (DE : Dn K mg "_law_kin" sLKin ["_law_web_here", "_law_kinds"] fE fdE) (GE : FnOk P w K mg base CX0 2 fE fdE ["_law_web_here", "_law_kinds"] (spLKin K))
    (DA : Dn K mg "_law_all" sAll ["_law_web_here"] fA fdA) (GA : FnOk P w K mg base CX0 2 fA fdA ["_law_web_here"] (spAll K))
    (DI : Dn K mg "_law_within" sWithin ["_law_finer", "_law_coarser"] fI fdI) (GI : FnOk P w K mg base CX0 2 fI fdI ["_law_finer", "_law_coarser"] spWithin)
    (DF : Dn K mg "_law_flat" sFlat ["_law_kinds"] fF fdF) (GF : FnOk P w K mg base CX0 1 fF fdF ["_law_kinds"] spFlat)
    (DR : Dn K mg "_law_rows" sLRows ["_law_numbers", "_law_many"] fR fdR) (GR : FnOk P w K mg base CX0 1 fR fdR ["_law_numbers", "_law_many"] (spLRows K))
    (DO : Dn K mg "_law_order" sOrder aOrder fO fdO) (GO : FnOk P w K mg base CX0 2 fO fdO aOrder spOrder)
    (DG : Dn K mg "web_renamed" sRenamed ["web", "order"] fG fdG) (GG : FnOk P w K mg base CX0 2 fG fdG ["web", "order"] spRen)
    (DN : Dn K mg "_law_numbered" sLNum ["_law_things"] fN fdN) (GN : FnOk P w K mg base CX0 1 fN fdN ["_law_things"] (spLNum K PyData.int))
    (DP : Dn K mg "_law_pairs" sPairs ["_law_many"] fP fdP) (GP : FnOk P w K mg base CX0 1 fP fdP ["_law_many"] (spPairs K)) :
    FnOk P w K mg base CX0 7 f fd ["_law_script"] (spLaw K) := by
  refine F.ok scLaw (fun vs H Q E h => ?_) (fun cdv A outer s H vs Q E hr h => ?_)
  · obtain ⟨a, ns, rfl, _⟩ := h
    rfl
  · obtain ⟨a, ns, rfl, hS, hlen, k⟩ := h
    have r1 := hr.mono (j := 1) (by decide)
    have r2 := hr.mono (j := 2) (by decide)
    refine ⟨_, pss_cons (ps_set (i := 1) scLaw.nd rfl (Or.inl rfl) (pe_cmpR op_eq (pe_op op_mod (pe_fn DC GC r1 rfl (pa_cons (pv 0) (pa_cons pe_int pa_nil))) pe_int) pe_int (nomark _)))
      (pss_cons (ps_set (i := 2) scLaw.nd rfl (Or.inl rfl) (pe_op op_mod (pe_op op_fdiv (pe_fn DC GC r1 rfl (pa_cons (pv 0) (pa_cons pe_int pa_nil))) pe_int) pe_int))
      (pss_cons (ps_set (i := 3) scLaw.nd rfl (Or.inl rfl) (pe_fn DW GW r2 rfl (pa_cons (pv 0) (pa_cons pe_int (pa_cons (pv 2) (pa_cons (pv 1) pa_nil))))))
      (pss_cons (ps_set (i := 4) scLaw.nd rfl (Or.inl rfl) (pe_callTy (call_strD hr.gd hr.units) (by rfl) bS boot_strT (pa_cons (pv 3) pa_nil)))
      (pss_cons (ps_set (i := 5) scLaw.nd rfl (Or.inl rfl) (pe_fn DK GK hr rfl (pa_cons (pv 3) pa_nil)))
      (pss_cons (ps_if (PW.pt (pw_or (pt_not (pt_val (pe_fn DT GT r2 rfl (pa_cons (pv 5) (pa_cons (pv 2) pa_nil))))) (pw_or1 (pt_not (pt_val (pe_fn DE GE r2 rfl (pa_cons (pv 3) (pa_cons (pv 5) pa_nil)))))))) (pss_one (ps_ret pe_bl)) pss_nil)
      (pss_mid (ps_if (pt_cmpR op_lt (pv 2) pe_int (nomark _))
        (pss_one (ps_for PassesOwn.never rfl (pi_list (pe_fn DA GA r2 rfl (pa_cons (pv 3) pa_nil))) (pg_name (i := 6) scLaw.nd rfl (Or.inl rfl))
          (pss_one (ps_if (PW.pt (pw_and (pt_val (pe_fn DE GE r2 rfl (pa_cons (pv 3) (pa_cons (pv 6) pa_nil)))) (pw_and1 (pt_not (pt_val (pe_fn DI GI r2 rfl (pa_cons (pv 6) (pa_cons (pv 5) pa_nil)))))))) (pss_one (ps_ret pe_bl)) pss_nil)))) pss_nil)
      (pss_cons (ps_set (i := 7) scLaw.nd rfl (Or.inl rfl) (pe_fn DF GF r1 rfl (pa_cons (pv 5) pa_nil)))
      (pss_cons (ps_for PassesOwn.never rfl (pi_range1 rfl B.range (pa_cons (pe_op op_add (pe_callB (call_maxL rfl) (by rfl) B.max boot_max (pa_cons (pe_op op_cat (pv 7) (pe_lst (pa_cons (pe_un un_neg pe_int) pa_nil))) pa_nil)) pe_int) pa_nil)) (pg_name (i := 8) scLaw.nd rfl (Or.inr rfl))
        (pss_one (ps_for PassesOwn.never rfl (pi_range1 rfl B.range (pa_cons (pv 8) pa_nil)) (pg_name (i := 9) scLaw.nd rfl (Or.inr rfl))
          (pss_cons (ps_setLc1 (i := 10) scLaw.nd rfl (Or.inl rfl) rfl lcLaw rfl (pi_list (pv 7)) (fun _ _ _ => pe_ifExp (pt_cmpR op_eq (pv 16) (pv 8) (nomark _)) (pv 9) (pv 16)))
          (pss_one (ps_if (PW.pt (pw_and (pt_cmpR op_lt (pv 2) pe_int (nomark _)) (pw_and1 (pt_val (pe_fn DE GE r2 rfl (pa_cons (pv 3) (pa_cons (pe_fn DR GR r1 rfl (pa_cons (pv 10) (pa_cons (pv 2) pa_nil))) pa_nil))))))) (pss_one (ps_ret pe_bl)) pss_nil))))))
      (pss_cons (ps_set (i := 11) scLaw.nd rfl (Or.inl rfl) (pe_fn DO GO r2 rfl (pa_cons (pe_fn DC GC r1 rfl (pa_cons (pv 0) (pa_cons pe_int pa_nil))) (pa_cons (pv 2) (pa_cons (pv 1) pa_nil)))))
      (pss_cons (ps_set (i := 12) scLaw.nd rfl (Or.inl rfl) (pe_lst pa_nil))
      (pss_cons (ps_for PassesOwn.never rfl (pi_list (pe_fn DP GP r1 rfl (pa_cons (pv 2) pa_nil))) (pg_tup rfl (pgs_cons (pg_name (i := 13) scLaw.nd rfl (Or.inl rfl)) (pgs_cons (pg_name (i := 14) scLaw.nd rfl (Or.inl rfl)) pgs_nil)))
        (pss_one (ps_expr (pe_bm PySem.F.plainAttrs_list PySem.F.slot_list_append PySem.F.type_list_append mt_append (pv 12) (pa_cons (pe_ix ix_list (pe_ix ix_list (pv 5) (pe_ix ix_list (pv 11) (pv 13) (fun _ _ => rfl)) (fun _ _ => rfl)) (pe_ix ix_list (pv 11) (pv 14) (fun _ _ => rfl)) (fun _ _ => rfl)) pa_nil)))))
      (pss_cons (ps_if (pt_cmpR (op_neD hr.units) (pe_fn DF GF r1 rfl (pa_cons (pe_fn DK GK hr rfl (pa_cons (pe_fn DG GG r2 rfl (pa_cons (pv 3) (pa_cons (pv 11) pa_nil))) pa_nil)) pa_nil)) (pe_fn DN GN r1 rfl (pa_cons (pv 12) pa_nil)) (nomark _)) (pss_one (ps_ret pe_bl)) pss_nil)
      (pss_cons (ps_for PassesOwn.never rfl (pi_list (pv 5)) (pg_name (i := 15) scLaw.nd rfl (Or.inl rfl))
        (pss_one (ps_expr (pe_bm PySem.F.plainAttrs_list PySem.F.slot_list_append PySem.F.type_list_append mt_append (pv 15) (pa_cons pe_int pa_nil)))))
      (pss_one (ps_ret (pe_and (pe_cmpR (op_eqD hr.units) (pe_fn DF GF r1 rfl (pa_cons (pe_fn DK GK hr rfl (pa_cons (pv 3) pa_nil)) pa_nil)) (pv 7) (nomark _)) (pe_one (pe_cmpR op_eq (pe_callTy (call_strD hr.gd hr.units) (by rfl) bS boot_strT (pa_cons (pv 3) pa_nil)) (pv 4) (nomark _))))))))))))))))))), ?_⟩
    refine ⟨_, rfl, a, ns, 0, rfl, hS, by decide, fun c0 _ => ⟨_, _, rfl, rfl, (by show (0 : Int) < 2; decide), rfl, ?_⟩⟩
    refine ⟨_, rfl, a, ns, 0, rfl, hS, by decide, fun c1 _ => ⟨_, _, rfl, rfl, ⟨by decide, by decide⟩, _, _, rfl, rfl, (by show (0 : Int) < 9; decide), ?_⟩⟩
    obtain ⟨n, en, hn⟩ : ∃ n : Nat, c1 / 2 % 9 = (n : Int) ∧ n ≤ 8 := ⟨(c1 / 2 % 9).toNat, by omega, by omega⟩
    show gName 2 (.int (c1 / 2 % 9)) _ _ _
    rw [en]
    generalize hfr : decide ((fun i j => V.int (i % j)) c0 2 = V.int 0) = fr
    refine ⟨_, rfl, _, rfl, _, rfl, a, ns, 1, n, fr, (by first | rfl | (rw [← hfr]; rfl)), hS, by decide, by omega, fun p hA rA rs hs M H1 s1 _ W => ?_⟩
    obtain ⟨sh1, sh2, sh3, sh4⟩ := W.show (by omega)
    refine ⟨_, rfl, p, _, rfl, W.da, ⟨sh1, sh2, sh3, sh4⟩, ?_⟩
    generalize htx : V.str (dW hs M).shown = txt
    have hW : hs.length = n := W.len
    have wb1 : ∀ {Hx : Hp}, WebAt Hx p hA rA rs n hs M → WbN K Hx (.ref p) (hs, M).1.length (hs, M) := fun Wx => by rw [show (hs, M).1.length = n from hW]; exact Wx.wbn
    have h8 : (hs, M).1.length ≤ 8 := by rw [show (hs, M).1.length = n from hW]; exact hn
    refine ⟨_, rfl, .ref p, (hs, M), rfl, wb1 W, h8, fun TD xs H2 s2 eK gT => ?_⟩
    obtain ⟨sq, fl, nm, ex, co⟩ := told_of hW eK
    generalize tabAt xs [(hs, M)] 0 = T at gT sq fl ex co
    obtain ⟨tr, eT, vT, nT, nR⟩ := gT
    have gT : GrdAt H2 TD (gI T) := ⟨tr, eT, vT⟩
    have lf := flat_len sq
    have n64 : n * n ≤ 8 * 8 := Nat.mul_le_mul hn hn
    have W2 := W.same s2
    refine ⟨_, rfl, _, rfl, TD, T, n, rfl, gT, sq, hn, by rw [fl]; exact nm, fun H3 s3 => ⟨_, rfl, iteF ?_⟩⟩
    refine ⟨_, rfl, _, rfl, p, hA, rA, rs, n, hs, M, TD, T, rfl, hn, W2.same s3, gT.mono s3, sq, fun r H4 s4 hr4 => ⟨_, rfl, ?_⟩⟩
    have hrt : r = true := hr4.mpr co.1
    subst hrt
    refine iteF ?_
    have s24 := s3.trans s4
    refine ⟨fun σ' H' => ∃ o6 : Option V, σ' = [some (.ref a), some (.bl fr), some (.int (n : Int)), some (.ref p), some txt, some (.ref TD), o6, none, none, none, none, none, none, none, none, none] ∧ Same H2 H', ?_, ?_⟩
    · refine ⟨_, rfl, _, _, rfl, rfl, _, rfl, ?_⟩
      by_cases h4 : (n : Int) < 4
      · refine itDP h4 ?_
        refine ⟨_, rfl, p, hA, rA, rs, n, hs, M, rfl, by omega, W2.same s24, fun D Ts H5 s5 sT gTs => ?_⟩
        obtain ⟨ts, eD, lt, hT⟩ := gTs
        have s25 := s24.trans s5
        refine ⟨D, rfl, ⟨_, SqL.of eD⟩, for_list (K := K) (xs := ts.map V.ref) (fun i σ H' => ∃ o6 : Option V, σ = [some (.ref a), some (.bl fr), some (.int (n : Int)), some (.ref p), some txt, some (.ref TD), o6, none, none, none, none, none, none, none, none, none] ∧ Same H5 H') ⟨none, by rw [← htx]; rfl, Same.refl _⟩ (fun i σ H' _ ⟨_, _, s'⟩ => SqL.of (s' _ _ eD)) ?_ ?_⟩
        · rintro i x σ H6 hx ⟨o6, rfl, s6⟩
          obtain ⟨t, ht, rfl⟩ := map_get hx
          obtain ⟨T', hT'⟩ := get_lt (l := Ts) (i := i) (by rw [← lt]; exact lt_get ht)
          have sq' := sT T' (List.mem_of_getElem? hT')
          have g' := (hT i t T' ht hT').mono s6
          have s26 := s25.trans s6
          refine ⟨_, rfl, _, rfl, p, hA, rA, rs, n, hs, M, t, T', rfl, hn, W2.same s26, g', sq', fun r H7 s7 hr7 => ⟨_, rfl, ?_⟩⟩
          cases r with
          | false => exact iteF (iteF ⟨_, rfl, s6.trans s7⟩)
          | true =>
            refine iteT ?_
            refine ⟨_, rfl, _, rfl, t, TD, n, T', T, rfl, g'.mono s7, gT.mono (s26.trans s7), sq', sq, hn, co.2 _ (hr7.mp rfl), fun H8 s8 => ⟨_, rfl, iteF ?_⟩⟩
            exact ⟨_, rfl, (s6.trans s7).trans s8⟩
        · rintro σ H6 ⟨o6, rfl, s6⟩
          exact ⟨_, rfl, s25.trans s6⟩
      · refine itDN h4 ?_
        exact ⟨none, by rw [← htx]; rfl, s24⟩
    rintro σ' H5 ⟨o6, rfl, s5⟩
    refine ⟨_, rfl, TD, T, rfl, gT.mono s5, by omega, fun ND H6 s6 n6 e6 => ?_⟩
    rw [fl] at e6
    have lx : xs.length = n * n := by rw [← fl]; exact lf
    have s26 := s5.trans s6
    refine ⟨_, rfl, _, rfl, (by show 1 ≤ sizeLine; decide), fun l1 hl1 => ?_⟩
    have s7 : Same H6 (L2.upd H6 l1 (.lst [.int (-1)])) := Same.upd hl1
    have e7 : L2.upd H6 l1 (.lst [.int (-1)]) l1 = some (.lst [.int (-1)]) := upd_same
    refine ⟨ND, l1, _, _, rfl, rfl, s7 _ _ e6, e7, Nat.le_of_lt (small1000 (by rw [List.length_map]; show xs.length + 1 ≤ 1000; omega)), fun l2 hl2 => ?_⟩
    have ec : xs.map V.int ++ [V.int (-1)] = (xs ++ [-1]).map V.int := by rw [List.map_append]; rfl
    rw [ec]
    generalize L2.upd H6 l1 (.lst [.int (-1)]) = H7 at s7 e7 hl2 ⊢
    have s8 : Same H7 (L2.upd H7 l2 (.lst ((xs ++ [-1]).map V.int))) := Same.upd hl2
    have e8 : L2.upd H7 l2 (.lst ((xs ++ [-1]).map V.int)) l2 = some (.lst ((xs ++ [-1]).map V.int)) := upd_same
    generalize L2.upd H7 l2 (.lst ((xs ++ [-1]).map V.int)) = H8 at s8 e8 ⊢
    have s28 := (s26.trans s7).trans s8
    have e6' := s8 _ _ (s7 _ _ e6)
    refine ⟨l2, _, rfl, SqL.of e8, by rw [List.length_append]; show 0 < xs.length + 1; omega, fun m hm hmax => ?_⟩
    have hm1 : m = -1 ∨ (m ∈ xs ∧ 0 ≤ m ∧ m < xs.length) := by
      rcases List.mem_append.mp hm with z | z
      · exact .inr ⟨z, norm_lt nm m z⟩
      · exact .inl (List.mem_singleton.mp z)
    obtain ⟨mN, emN⟩ : ∃ mN : Nat, m + 1 = (mN : Int) := ⟨(m + 1).toNat, by omega⟩
    have hmN : mN ≤ 64 := by omega
    refine ⟨_, _, rfl, rfl, (mN : Int), by rw [← emN], by omega, by omega, ?_⟩
    rw [Int.toNat_natCast]
    refine for_range (n := mN) (fun i σ H' => ∃ o8 o9 o10 : Option V, σ = [some (.ref a), some (.bl fr), some (.int (n : Int)), some (.ref p), some txt, some (.ref TD), o6, some (.ref ND), o8, o9, o10, none, none, none, none, none] ∧ Same H8 H') ⟨none, none, none, rfl, Same.refl _⟩ ?_ ?_
    · rintro i σ H9 hi ⟨o8, o9, o10, rfl, s9⟩
      refine ⟨_, rfl, (0 + (i : Nat) : Int), rfl, by omega, by omega, ?_⟩
      have ei : (0 + (i : Nat) : Int).toNat = i := by omega
      rw [ei]
      refine for_range (n := i) (fun j σ H' => ∃ o9 o10 : Option V, σ = [some (.ref a), some (.bl fr), some (.int (n : Int)), some (.ref p), some txt, some (.ref TD), o6, some (.ref ND), some (.int (0 + (i : Nat) : Int)), o9, o10, none, none, none, none, none] ∧ Same H8 H') ⟨_, _, rfl, s9⟩ ?_ ?_
      · rintro j σ Ha hj ⟨o9, o10, rfl, sa⟩
        refine ⟨_, rfl, ND, rfl, ⟨_, SqL.of (sa _ _ e6')⟩, fun D hD => ?_⟩
        refine lc_vals (K := K) (xs := xs.map V.int) ((xs.map fun k => if k = (0 + (i : Nat) : Int) then (0 + (j : Nat) : Int) else k).map V.int) (by rw [List.length_map, List.length_map, List.length_map]) (by rw [List.length_map]; omega) hD (SqL.of (sa _ _ e6')) ?_ ?_ ?_
        · intro k x v H' hx hv s'
          obtain ⟨y, hy, rfl⟩ := map_get hx
          obtain ⟨z, hz, rfl⟩ := map_get hv
          obtain ⟨y', hy', rfl⟩ := map_get hz
          rw [hy] at hy'
          cases hy'
          refine ⟨_, rfl, _, rfl, rfl, _, rfl, ?_⟩
          by_cases e : y = (0 + (i : Nat) : Int)
          · refine itDP (by rw [e]) ⟨_, rfl, ?_, Same.refl _⟩
            rw [if_pos e]
          · refine itDN (fun z => e (V.int.inj z)) ⟨_, rfl, ?_, Same.refl _⟩
            rw [if_neg e]
        · intro Hb sb eb
          have s2b := (s28.trans sa).trans sb
          refine ⟨_, rfl, _, _, rfl, rfl, _, rfl, ?_⟩
          by_cases h5 : (n : Int) < 5
          · refine itDP h5 ?_
            have lb : (xs.map fun k => if k = (0 + (i : Nat) : Int) then (0 + (j : Nat) : Int) else k).length = n * n := by rw [List.length_map, lx]
            refine ⟨_, rfl, _, rfl, _, rfl, D, _, n, rfl, SqL.of eb, lb, by omega, fun R Hc sc gR => ?_⟩
            refine ⟨p, hA, rA, rs, n, hs, M, R, _, rfl, hn, W2.same (s2b.trans sc), gR.at, square_sq lb, fun r Hd sd hrd => ⟨_, rfl, ?_⟩⟩
            have hrf : r = false := by
              cases r with
              | false => rfl
              | true =>
                rcases hm1 with z | ⟨z, z2, z3⟩
                · omega
                · exact absurd (hrd.mp rfl) (put_not co ex nm z (by omega) (by omega) (by omega))
            subst hrf
            exact iteF ⟨_, _, rfl, ((sa.trans sb).trans sc).trans sd⟩
          · refine itDN h5 (iteF ⟨_, _, rfl, sa.trans sb⟩)
        · rintro σ H' Q1 Q2 hq ⟨v1, e1, v2, e2, x1, b1, e3, g⟩
          refine ⟨v1, e1, v2, e2, x1, b1, e3, ?_⟩
          cases b1 with
          | true => exact iteT (let ⟨v3, e4, z⟩ := g; ⟨v3, e4, hq _ _ z⟩)
          | false => exact iteF (let ⟨v3, e4, z⟩ := g; ⟨v3, e4, hq _ _ z⟩)
      · rintro σ Ha ⟨o9, o10, rfl, sa⟩
        exact ⟨_, _, _, rfl, sa⟩
    rintro σ H9 ⟨o8, o9, o10, rfl, s9⟩
    have s29 := s28.trans s9
    have e69 := s9 _ _ e6'
    refine ⟨_, rfl, a, ns, 4, rfl, ((s1.trans s2).trans s29).seq hS, by decide, fun c4 _ => ?_⟩
    refine ⟨_, rfl, _, rfl, c4, n, fr, rfl, hn, fun OA os Ha sa nO eO pm => ?_⟩
    have s2a := s29.trans sa
    have los : os.length = n := by rw [pm.length_eq, rI_len]
    refine ⟨Nat.zero_le _, fun UD hUD => ?_⟩
    have sb : Same Ha (L2.upd Ha UD (.lst [])) := Same.upd hUD
    have eb : L2.upd Ha UD (.lst []) UD = some (.lst []) := upd_same
    generalize L2.upd Ha UD (.lst []) = Hb at sb eb ⊢
    refine ⟨_, rfl, n, rfl, by omega, fun C L Hc sc nC eC pC => ⟨C, rfl, ⟨_, SqL.of eC⟩, ?_⟩⟩
    have sab := sb.trans sc
    have lL : L.length = n * n := by rw [pC.1, prPre_len]
    have CU : C ≠ UD := fun z => by rw [z, eb] at nC; cases nC
    have tl : ∀ i, ((prs n).take i).length ≤ i := fun i => by rw [List.length_take]; omega
    refine for_list (K := K) (xs := L) (fun i σ H' => ∃ o13 o14 : Option V, σ = [some (.ref a), some (.bl fr), some (.int (n : Int)), some (.ref p), some txt, some (.ref TD), o6, some (.ref ND), o8, o9, o10, some (.ref OA), some (.ref UD), o13, o14, none] ∧ Same Ha H' ∧ (∀ b o, b ≠ UD → Hc b = some o → H' b = some o) ∧ H' UD = some (.lst ((((prs n).take i).map fun q => ent T (sg os q.1) (sg os q.2)).map V.int))) ⟨none, none, rfl, sab, (fun b o _ e => e), sc _ _ eb⟩ (fun i σ H' _ ⟨_, _, _, _, kp, _⟩ => SqL.of (kp _ _ CU eC)) ?_ ?_
    · rintro i x σ Hd hx ⟨o13, o14, rfl, sd, kp, eU⟩
      have hi : i < n * n := by rw [← lL]; exact lt_get hx
      obtain ⟨pr, hpr⟩ := get_lt (l := prPre n n) (i := i) (by rw [prPre_len]; exact hi)
      have hpr0 := hpr
      rw [prPre_prs] at hpr
      obtain ⟨⟨u, v⟩, huv, rfl⟩ := map_get hpr
      obtain ⟨hu, hv⟩ := prs_mem.mp (List.mem_of_getElem? huv)
      obtain ⟨t, rfl, et⟩ := pC.2 i x _ hx hpr0
      have etd := kp _ _ (fun z => by rw [z, sc _ _ eb] at et; cases et) et
      refine ⟨t, _, rfl, SqT.of etd, rfl, _, _, rfl, _, _, rfl, rfl, ?_⟩
      have s2d := s2a.trans sd
      have su := perm_lt (sg_perm pm) hu
      have sv := perm_lt (sg_perm pm) hv
      obtain ⟨ru, hru, eru⟩ := gI_row vT sq su
      refine ⟨_, rfl, .inl ⟨rfl, _, SqL.of eU⟩, ?_⟩
      refine ⟨_, rfl, _, rfl, _, rfl, OA, _, _, _, rfl, rfl, SqL.of (sd _ _ eO), atI_nat (by rw [List.getElem?_map, sg_at pm hu]; rfl), TD, _, _, _, rfl, rfl, SqL.of (s2d _ _ eT), at_ref hru, ?_⟩
      refine ⟨_, rfl, _, rfl, OA, _, _, _, rfl, rfl, SqL.of (sd _ _ eO), atI_nat (by rw [List.getElem?_map, sg_at pm hv]; rfl), ru, _, _, _, rfl, rfl, SqL.of (s2d _ _ eru), at_rowI sq su sv, ?_⟩
      have := tl i
      refine ⟨UD, _, _, rfl, rfl, eU, small1000 (by rw [List.length_map, List.length_map]; omega), ?_⟩
      refine ⟨_, _, rfl, fun b o e => ?_, fun b o ne e => ?_, ?_⟩
      · rw [upd_ne (ne_of_none e hUD)]
        exact sd _ _ e
      · rw [upd_ne ne]
        exact kp _ _ ne e
      · rw [upd_same, take_snoc huv, List.map_append, List.map_append]
        rfl
    rintro σ Hd ⟨o13, o14, rfl, sd, kp, eU⟩
    rw [lL, List.take_of_length_le (by have := congrArg List.length (prPre_prs n); rw [prPre_len, List.length_map] at this; omega)] at eU
    have s2d := s2a.trans sd
    have Wd := W2.same s2d
    have wr : WR Hd p hs M := ⟨hA, rA, rs, Wd.tup, Wd.hue, Wd.rws, Wd.row⟩
    refine ⟨_, rfl, _, rfl, p, OA, n, hs, M, os, rfl, wr, hW, W.sq, hn, sd _ _ eO, by omega, pm, fun p' He se Wn => ?_⟩
    have wb' : WbN K He (.ref p') (renH hs os, renM M os).1.length (renH hs os, renM M os) := by
      have := WN.wbn (K := K) pm Wn
      rw [show (renH hs os, renM M os).1.length = n from this.len]
      exact this
    have lr : (renH hs os).length = n := by unfold renH; rw [List.length_map, los]
    refine ⟨.ref p', (renH hs os, renM M os), rfl, wb', by rw [show (renH hs os, renM M os).1.length = n from lr]; exact hn, fun TD' xs' Hf sf eK' gT' => ?_⟩
    obtain ⟨sq', fl', nm', ex', co'⟩ := told_of lr eK'
    generalize tabAt xs' [(renH hs os, renM M os)] 0 = T' at gT' sq' fl' ex' co'
    have lf' := flat_len sq'
    refine ⟨TD', T', rfl, gT'.at, by omega, fun FD Hg sg' nF eF => ?_⟩
    rw [fl'] at eF
    have sdg := (se.trans sf).trans sg'
    have eUg := sdg _ _ eU
    refine ⟨_, rfl, UD, _, _, rfl, SqL.of eUg, das_ints _, by rw [List.length_map]; have := congrArg List.length (prPre_prs n); rw [prPre_len, List.length_map] at this; omega, fun QD Hh sh nQ eQ => ?_⟩
    rw [nI_V] at eQ
    have eqs : xs' = nI (numb ((prs n).map fun q => ent T (sg os q.1) (sg os q.2))) :=
      ren_flat (sg_perm pm) co (coarse_congr (fun u hu => hue_ren pm hu) (fun u v hu hv => ent_ren pm hu hv) co') ex' nm' (by rw [← fl']; exact lf')
    refine ⟨_, _, daI (K := K) (ok := any) trivial (SqL.of (sh _ _ eF)), daI (K := K) (ok := any) trivial (SqL.of eQ), ⟨(lay_dI _).1, (lay_dI _).1, Nat.le_trans (lay_dI _).2 (by decide)⟩, _, rfl, ?_⟩
    rw [eqv_dI, ← eqs]
    refine iteNS rfl ?_
    have s2h := (s2d.trans sdg).trans sh
    have e6h := sh _ _ (sdg _ _ (sd _ _ (sa _ _ e69)))
    have Wh := W2.same s2h
    have NDr : ND ∉ tr := fun z => by
      obtain ⟨j, hj⟩ := List.mem_iff_getElem?.mp z
      obtain ⟨y, hy⟩ := get_lt (l := gI T) (i := j) (by rw [← vT.len]; exact lt_get hj)
      have := s5 _ _ (vT.row j ND y hj hy)
      rw [n6] at this
      cases this
    refine ⟨_, rfl, TD, rfl, ⟨_, SqL.of (s2h _ _ eT)⟩, for_list (K := K) (xs := tr.map V.ref) (fun i σ H' => ∃ o15 : Option V, σ = [some (.ref a), some (.bl fr), some (.int (n : Int)), some (.ref p), some txt, some (.ref TD), o6, some (.ref ND), o8, o9, o10, some (.ref OA), some (.ref UD), o13, o14, o15] ∧ (∀ b o, b ∉ tr → Hh b = some o → H' b = some o) ∧ ∀ r ∈ tr, ∃ y : List V, H' r = some (.lst y) ∧ y.length ≤ 8 + i) ⟨none, rfl, (fun b o _ e => e), fun r hr' => ?_⟩ (fun i σ H' _ ⟨_, _, kp', _⟩ => SqL.of (kp' _ _ (fun z => (nR _ z).1 rfl) (s2h _ _ eT))) ?_ ?_⟩
    · obtain ⟨j, hj⟩ := List.mem_iff_getElem?.mp hr'
      obtain ⟨y, hy⟩ := get_lt (l := gI T) (i := j) (by rw [← vT.len]; exact lt_get hj)
      exact ⟨y, s2h _ _ (vT.row j r y hj hy), by rw [gI_sq sq y (List.mem_of_getElem? hy)]; omega⟩
    · rintro i x σ Hi hx ⟨o15, rfl, kp', hy⟩
      obtain ⟨r, hr', rfl⟩ := map_get hx
      have hi := lt_get hr'
      rw [vT.len, gI_len, sq.1] at hi
      obtain ⟨y, ey, ly⟩ := hy r (List.mem_of_getElem? hr')
      refine ⟨_, rfl, .inl ⟨rfl, _, SqL.of ey⟩, r, _, _, rfl, rfl, ey, small1000 (by omega), ?_⟩
      refine ⟨_, rfl, fun b o nb e => ?_, fun r2 hr2 => ?_⟩
      · rw [upd_ne (show b ≠ r from fun z => nb (by rw [z]; exact List.mem_of_getElem? hr'))]
        exact kp' _ _ nb e
      · by_cases e : r2 = r
        · rw [e]
          exact ⟨_, upd_same, by rw [List.length_append]; show y.length + 1 ≤ _; omega⟩
        · obtain ⟨y2, e2, l2⟩ := hy r2 hr2
          exact ⟨y2, by rw [upd_ne e]; exact e2, by omega⟩
    · rintro σ Hi ⟨o15, rfl, kp', _⟩
      have old : ∀ b o, H1 b = some o → Hi b = some o := fun b o e => kp' _ _ (fun z => by have := (nR _ z).2; rw [e] at this; cases this) (s2h _ _ (s2 _ _ e))
      have Wi := W.same old
      have e6i := kp' _ _ NDr e6h
      refine ⟨_, rfl, .ref p, (hs, M), rfl, wb1 Wi, h8, fun TD2 xs2 Hj sj eK2 gT2 => ?_⟩
      obtain ⟨sq2, fl2, nm2, ex2, co2⟩ := told_of hW eK2
      generalize tabAt xs2 [(hs, M)] 0 = T2 at gT2 sq2 fl2 ex2 co2
      have lf2 := flat_len sq2
      refine ⟨TD2, T2, rfl, gT2.at, by omega, fun FD2 Hk sk nF2 eF2 => ?_⟩
      rw [fl2] at eF2
      have same : xs2 = xs := within_eq ex2 ex nm2 nm (co.2 _ co2.1) (co2.2 _ co.1)
      refine ⟨_, rfl, _, _, daI (K := K) (ok := any) trivial (SqL.of eF2), daI (K := K) (ok := any) trivial (SqL.of (sk _ _ (sj _ _ e6i))), ⟨(lay_dI _).1, (lay_dI _).1, Nat.le_trans (lay_dI _).2 (by decide)⟩, ?_⟩
      rw [eqv_dI, decide_eq_true same]
      refine ⟨_, rfl, iteT ?_⟩
      refine ⟨_, rfl, p, _, rfl, ((Wi.same sj).same sk).da, ⟨sh1, sh2, sh3, sh4⟩, _, rfl, by rw [← htx]; rfl, ?_⟩
      rw [htx, decide_eq_true rfl]
      exact k Hk
end
structure At (K : PySem.W.Frag) (x : Str) (st : Stmt) (f : Addr) (fd : FuncData) : Prop where
  fn : Fun K x x st f fd
  ns : PySem.W.nsIn K mainGlobals x = some (some (.ref f))
theorem at_mk {K : PySem.W.Frag} {x : Str} {st : Stmt} {f : Addr} {oc : Value} {od an : Option Addr} {osl : Array (Option Value)} {kV doc pm cdv ct : Value} (a : PySem.W.nsIn K mainGlobals x = some (some (.ref f))) (l : K.lookup f = some ⟨oc, od, .func (PySem.W.fnOf x x (defArgs st) (defBody st) (defScope st) .none kV doc pm an cdv ct), osl⟩)
    (c : PySem.W.codeIn K cdv x = true) (k : PySem.W.keepIn K (.ref f) = true) : ∃ f fd, At K x st f fd := ⟨f, _, fun_mk l c k, a⟩
theorem kit_ref {K : PySem.W.Frag} {CN C : Addr} {cd : ClassData} {b : Bool} (h0 : (Value.ref CN == Value.ref C) = false) (h1 : PySem.W.clsIn K C = some cd) (h2 : PySem.W.typeIn K (.ref C) = some (.type "type")) (h3 : PySem.W.subIn K (.ref CN) (.ref C) = some b) : PySem.W.kitOne K (.ref CN) (.ref C) = some b := by
  unfold PySem.W.kitOne PySem.W.kitCls
  rw [if_neg (by rw [h0]; decide)]
  show (if ((PySem.W.clsIn K C).isSome && PySem.W.typeIn K (.ref C) == some (.type "type")) = true then PySem.W.subIn K (.ref CN) (.ref C) else none) = some b
  rw [h1, h2, h3]
  rfl
theorem kit_ty {K : PySem.W.Frag} {CN : Addr} {T : String} {b : Bool} (h0 : (Value.ref CN == Value.type T) = false) (h1 : PySem.W.kitMeta T = true) (h3 : PySem.W.subIn K (.ref CN) (.type T) = some b) : PySem.W.kitOne K (.ref CN) (.type T) = some b := by
  unfold PySem.W.kitOne PySem.W.kitCls
  rw [if_neg (by rw [h0]; decide)]
  show (if PySem.W.kitMeta T = true then PySem.W.subIn K (.ref CN) (.type T) else none) = some b
  rw [if_pos h1, h3]
theorem all_mk {l : PySem.W.OpenLaw} {w : World} {K : PySem.W.Frag} {h : Heap} {mg : Str → Option Value} {fa fL : Addr} (X : K.In h) (G : h.Ns mainGlobals mg) (hfa : mg "law" = some (.ref fa)) (A0 : ∃ f fd, At K "column_of" sCol f fd) (A1 : ∃ f fd, At K "columns_of" sCols f fd) (A2 : ∃ f fd, At K "in_one_list" sInOne f fd) (A3 : ∃ f fd, At K "in_square" sInSq f fd) (A4 : ∃ f fd, At K "picked" sPicked f fd) (A5 : ∃ f fd, At K "web_renamed" sRenamed f fd) (A6 : ∃ f fd, At K "numbered" sNumbered f fd) (A7 : ∃ f fd, At K "ways_between" sWays f fd) (A8 : ∃ f fd, At K "marks_of_pairs" sMarks f fd) (A9 : ∃ f fd, At K "split_kinds" sSplit f fd) (A10 : ∃ f fd, At K "in_tables" sInTabs f fd) (A11 : ∃ f fd, At K "coarsest_tables" sCoarse f fd) (A12 : ∃ f fd, At K "coarsest_kinds" sCoarseK f fd) (A13 : ∃ f fd, At K "_law_cell_at" sCellAt f fd) (A14 : ∃ f fd, At K "_law_draws" sDraws f fd) (A15 : ∃ f fd, At K "_law_square" sSquare f fd) (A16 : ∃ f fd, At K "_law_web" sWebP f fd) (A17 : ∃ f fd, At K "_law_order" sOrder f fd) (A18 : ∃ f fd, At K "_law_numbered" sLNum f fd) (A19 : ∃ f fd, At K "_law_rows" sLRows f fd) (A20 : ∃ f fd, At K "_law_pairs" sPairs f fd) (A21 : ∃ f fd, At K "_law_flat" sFlat f fd) (A22 : ∃ f fd, At K "_law_kin" sLKin f fd) (A23 : ∃ f fd, At K "_law_all" sAll f fd) (A24 : ∃ f fd, At K "_law_told" sTold f fd) (A25 : ∃ f fd, At K "_law_within" sWithin f fd)
    {oc kV doc pm cdv ct : Value} {od an : Option Addr} {osl : Array (Option Value)} (aL : PySem.W.nsIn K mainGlobals "law" = some (some (.ref fL))) (lL : K.lookup fL = some ⟨oc, od, .func (PySem.W.fnOf "law" "law" (defArgs sLaw) (defBody sLaw) (defScope sLaw) .none kV doc pm an cdv ct), osl⟩) (cL : PySem.W.codeIn K cdv "law" = true) (kL : PySem.W.keepIn K (.ref fL) = true)
    (z_len : PySem.W.nsIn K mainGlobals "len" = some none) (z_range : PySem.W.nsIn K mainGlobals "range" = some none) (z_int : PySem.W.nsIn K mainGlobals "int" = some none) (z_sorted : PySem.W.nsIn K mainGlobals "sorted" = some none) (z_enumerate : PySem.W.nsIn K mainGlobals "enumerate" = some none) (z_sum : PySem.W.nsIn K mainGlobals "sum" = some none) (z_zip : PySem.W.nsIn K mainGlobals "zip" = some none) (z_list : PySem.W.nsIn K mainGlobals "list" = some none) (z_isinstance : PySem.W.nsIn K mainGlobals "isinstance" = some none) (z_bool : PySem.W.nsIn K mainGlobals "bool" = some none) (z_max : PySem.W.nsIn K mainGlobals "max" = some none) (z_str : PySem.W.nsIn K mainGlobals "str" = some none) (z_abs : PySem.W.nsIn K mainGlobals "abs" = some none) (z_ValueError : PySem.W.nsIn K mainGlobals "ValueError" = some none) (z_tuple : PySem.W.nsIn K mainGlobals "tuple" = some none) (z_dict : PySem.W.nsIn K mainGlobals "dict" = some none) :
    ∃ fd : FuncData, (∀ (s : Shared) (v : Value), BindsTo s fd ⟨[v], []⟩ [("_law_script", v)]) ∧ ∀ base : Heap, K.In base → base.Ns mainGlobals mg → FnOk l.prog w K mg base CX0 7 fa fd ["_law_script"] (spLaw K) := by
  have e := hfa.symm.trans (PySem.W.mg_of X G aL)
  cases e
  obtain ⟨f0, fd0, T0⟩ := A0
  have D0 : Dn K mg "column_of" sCol ["rows", "place"] f0 fd0 := ⟨T0.fn, PySem.W.mg_of X G T0.ns, T0.fn.binds fun _ _ _ _ _ _ us hl => match us, hl with | [_, _], _ => rfl⟩
  obtain ⟨f1, fd1, T1⟩ := A1
  have D1 : Dn K mg "columns_of" sCols ["rows"] f1 fd1 := ⟨T1.fn, PySem.W.mg_of X G T1.ns, T1.fn.binds fun _ _ _ _ _ _ us hl => match us, hl with | [_], _ => rfl⟩
  obtain ⟨f2, fd2, T2⟩ := A2
  have D2 : Dn K mg "in_one_list" sInOne ["rows"] f2 fd2 := ⟨T2.fn, PySem.W.mg_of X G T2.ns, T2.fn.binds fun _ _ _ _ _ _ us hl => match us, hl with | [_], _ => rfl⟩
  obtain ⟨f3, fd3, T3⟩ := A3
  have D3 : Dn K mg "in_square" sInSq ["things", "size"] f3 fd3 := ⟨T3.fn, PySem.W.mg_of X G T3.ns, T3.fn.binds fun _ _ _ _ _ _ us hl => match us, hl with | [_, _], _ => rfl⟩
  obtain ⟨f4, fd4, T4⟩ := A4
  have D4 : Dn K mg "picked" sPicked ["things", "order"] f4 fd4 := ⟨T4.fn, PySem.W.mg_of X G T4.ns, T4.fn.binds fun _ _ _ _ _ _ us hl => match us, hl with | [_, _], _ => rfl⟩
  obtain ⟨f5, fd5, T5⟩ := A5
  have D5 : Dn K mg "web_renamed" sRenamed ["web", "order"] f5 fd5 := ⟨T5.fn, PySem.W.mg_of X G T5.ns, T5.fn.binds fun _ _ _ _ _ _ us hl => match us, hl with | [_, _], _ => rfl⟩
  obtain ⟨f6, fd6, T6⟩ := A6
  have D6 : Dn K mg "numbered" sNumbered ["marks"] f6 fd6 := ⟨T6.fn, PySem.W.mg_of X G T6.ns, T6.fn.binds fun _ _ _ _ _ _ us hl => match us, hl with | [_], _ => rfl⟩
  obtain ⟨f7, fd7, T7⟩ := A7
  have D7 : Dn K mg "ways_between" sWays ["row", "column"] f7 fd7 := ⟨T7.fn, PySem.W.mg_of X G T7.ns, T7.fn.binds fun _ _ _ _ _ _ us hl => match us, hl with | [_, _], _ => rfl⟩
  obtain ⟨f8, fd8, T8⟩ := A8
  have D8 : Dn K mg "marks_of_pairs" sMarks ["web", "kinds"] f8 fd8 := ⟨T8.fn, PySem.W.mg_of X G T8.ns, T8.fn.binds fun _ _ _ _ _ _ us hl => match us, hl with | [_, _], _ => rfl⟩
  obtain ⟨f9, fd9, T9⟩ := A9
  have D9 : Dn K mg "split_kinds" sSplit ["webs", "tables"] f9 fd9 := ⟨T9.fn, PySem.W.mg_of X G T9.ns, T9.fn.binds fun _ _ _ _ _ _ us hl => match us, hl with | [_, _], _ => rfl⟩
  obtain ⟨f10, fd10, T10⟩ := A10
  have D10 : Dn K mg "in_tables" sInTabs ["kinds", "webs"] f10 fd10 := ⟨T10.fn, PySem.W.mg_of X G T10.ns, T10.fn.binds fun _ _ _ _ _ _ us hl => match us, hl with | [_, _], _ => rfl⟩
  obtain ⟨f11, fd11, T11⟩ := A11
  have D11 : Dn K mg "coarsest_tables" sCoarse ["webs"] f11 fd11 := ⟨T11.fn, PySem.W.mg_of X G T11.ns, T11.fn.binds fun _ _ _ _ _ _ us hl => match us, hl with | [_], _ => rfl⟩
  obtain ⟨f12, fd12, T12⟩ := A12
  have D12 : Dn K mg "coarsest_kinds" sCoarseK ["web"] f12 fd12 := ⟨T12.fn, PySem.W.mg_of X G T12.ns, T12.fn.binds fun _ _ _ _ _ _ us hl => match us, hl with | [_], _ => rfl⟩
  obtain ⟨f13, fd13, T13⟩ := A13
  have D13 : Dn K mg "_law_cell_at" sCellAt ["_law_script", "_law_k"] f13 fd13 := ⟨T13.fn, PySem.W.mg_of X G T13.ns, T13.fn.binds fun _ _ _ _ _ _ us hl => match us, hl with | [_, _], _ => rfl⟩
  obtain ⟨f14, fd14, T14⟩ := A14
  have D14 : Dn K mg "_law_draws" sDraws ["_law_cell", "_law_many", "_law_base", "_law_free"] f14 fd14 := ⟨T14.fn, PySem.W.mg_of X G T14.ns, T14.fn.binds fun _ _ _ _ _ _ us hl => match us, hl with | [_, _, _, _], _ => rfl⟩
  obtain ⟨f15, fd15, T15⟩ := A15
  have D15 : Dn K mg "_law_square" sSquare ["_law_many", "_law_draws_here", "_law_way"] f15 fd15 := ⟨T15.fn, PySem.W.mg_of X G T15.ns, T15.fn.binds fun _ _ _ _ _ _ us hl => match us, hl with | [_, _, _], _ => rfl⟩
  obtain ⟨f16, fd16, T16⟩ := A16
  have D16 : Dn K mg "_law_web" sWebP ["_law_script", "_law_at", "_law_many", "_law_free"] f16 fd16 := ⟨T16.fn, PySem.W.mg_of X G T16.ns, T16.fn.binds fun _ _ _ _ _ _ us hl => match us, hl with | [_, _, _, _], _ => rfl⟩
  obtain ⟨f17, fd17, T17⟩ := A17
  have D17 : Dn K mg "_law_order" sOrder ["_law_cell", "_law_many", "_law_free"] f17 fd17 := ⟨T17.fn, PySem.W.mg_of X G T17.ns, T17.fn.binds fun _ _ _ _ _ _ us hl => match us, hl with | [_, _, _], _ => rfl⟩
  obtain ⟨f18, fd18, T18⟩ := A18
  have D18 : Dn K mg "_law_numbered" sLNum ["_law_things"] f18 fd18 := ⟨T18.fn, PySem.W.mg_of X G T18.ns, T18.fn.binds fun _ _ _ _ _ _ us hl => match us, hl with | [_], _ => rfl⟩
  obtain ⟨f19, fd19, T19⟩ := A19
  have D19 : Dn K mg "_law_rows" sLRows ["_law_numbers", "_law_many"] f19 fd19 := ⟨T19.fn, PySem.W.mg_of X G T19.ns, T19.fn.binds fun _ _ _ _ _ _ us hl => match us, hl with | [_, _], _ => rfl⟩
  obtain ⟨f20, fd20, T20⟩ := A20
  have D20 : Dn K mg "_law_pairs" sPairs ["_law_many"] f20 fd20 := ⟨T20.fn, PySem.W.mg_of X G T20.ns, T20.fn.binds fun _ _ _ _ _ _ us hl => match us, hl with | [_], _ => rfl⟩
  obtain ⟨f21, fd21, T21⟩ := A21
  have D21 : Dn K mg "_law_flat" sFlat ["_law_kinds"] f21 fd21 := ⟨T21.fn, PySem.W.mg_of X G T21.ns, T21.fn.binds fun _ _ _ _ _ _ us hl => match us, hl with | [_], _ => rfl⟩
  obtain ⟨f22, fd22, T22⟩ := A22
  have D22 : Dn K mg "_law_kin" sLKin ["_law_web_here", "_law_kinds"] f22 fd22 := ⟨T22.fn, PySem.W.mg_of X G T22.ns, T22.fn.binds fun _ _ _ _ _ _ us hl => match us, hl with | [_, _], _ => rfl⟩
  obtain ⟨f23, fd23, T23⟩ := A23
  have D23 : Dn K mg "_law_all" sAll ["_law_web_here"] f23 fd23 := ⟨T23.fn, PySem.W.mg_of X G T23.ns, T23.fn.binds fun _ _ _ _ _ _ us hl => match us, hl with | [_], _ => rfl⟩
  obtain ⟨f24, fd24, T24⟩ := A24
  have D24 : Dn K mg "_law_told" sTold ["_law_kinds", "_law_many"] f24 fd24 := ⟨T24.fn, PySem.W.mg_of X G T24.ns, T24.fn.binds fun _ _ _ _ _ _ us hl => match us, hl with | [_, _], _ => rfl⟩
  obtain ⟨f25, fd25, T25⟩ := A25
  have D25 : Dn K mg "_law_within" sWithin ["_law_finer", "_law_coarser"] f25 fd25 := ⟨T25.fn, PySem.W.mg_of X G T25.ns, T25.fn.binds fun _ _ _ _ _ _ us hl => match us, hl with | [_, _], _ => rfl⟩
  have FL := fun_mk (st := sLaw) lL cL kL
  have BL : BltL mg := ⟨PySem.W.mg_none_of X G z_len, PySem.W.mg_none_of X G z_range, PySem.W.mg_none_of X G z_int, PySem.W.mg_none_of X G z_sorted, PySem.W.mg_none_of X G z_enumerate, PySem.W.mg_none_of X G z_sum, PySem.W.mg_none_of X G z_zip, PySem.W.mg_none_of X G z_list, PySem.W.mg_none_of X G z_isinstance, PySem.W.mg_none_of X G z_bool, PySem.W.mg_none_of X G z_max⟩
  have BR : BltR mg := ⟨PySem.W.mg_none_of X G z_abs, PySem.W.mg_none_of X G z_len, PySem.W.mg_none_of X G z_sum, PySem.W.mg_none_of X G z_zip, PySem.W.mg_none_of X G z_range, PySem.W.mg_none_of X G z_enumerate, PySem.W.mg_none_of X G z_isinstance, PySem.W.mg_none_of X G z_ValueError, PySem.W.mg_none_of X G z_int, PySem.W.mg_none_of X G z_bool, PySem.W.mg_none_of X G z_list, PySem.W.mg_none_of X G z_tuple⟩
  have BK : BltK mg := ⟨PySem.W.mg_none_of X G z_len, PySem.W.mg_none_of X G z_zip, PySem.W.mg_none_of X G z_tuple, PySem.W.mg_none_of X G z_sorted, PySem.W.mg_none_of X G z_enumerate, PySem.W.mg_none_of X G z_sum⟩
  have BP : BltP mg := ⟨PySem.W.mg_none_of X G z_len, PySem.W.mg_none_of X G z_zip, PySem.W.mg_none_of X G z_list, PySem.W.mg_none_of X G z_tuple⟩
  refine ⟨PySem.W.fnOf "law" "law" (defArgs sLaw) (defBody sLaw) (defScope sLaw) .none kV doc pm an cdv ct, fun s v => .of_eq rfl, fun base _ _ => ?_⟩
  have GCl := ok_col (P := l.prog) (w := w) (base := base) (mg := mg) D0.fn
  have GCs := ok_cols BR D1.fn D0 GCl
  have GIo := ok_inOne (P := l.prog) (w := w) (base := base) (mg := mg) D2.fn
  have GSq := ok_inSq (P := l.prog) (w := w) (base := base) BR D3.fn
  have GPi := ok_picked (P := l.prog) (w := w) (base := base) (mg := mg) D4.fn
  have GRe := ok_ren BL D5.fn D4 GPi
  have GNK := ok_numK (P := l.prog) (w := w) (base := base) BP D6.fn
  have GWy := ok_ways (P := l.prog) (w := w) (base := base) BK D7.fn
  have GMk := ok_marks BK D8.fn D1 GCs D7 GWy
  have GSp := ok_splitK BK D9.fn D8 GMk D2 GIo D6 GNK
  have GIT := ok_inTabs BK D10.fn D3 GSq
  have GCT := ok_coarseT BK D11.fn D9 GSp D10 GIT
  have GCK := ok_coarseK D12.fn D11 GCT
  have GC := ok_cell (P := l.prog) (w := w) (base := base) BL D13.fn
  have GD := ok_draws (P := l.prog) (w := w) (base := base) BL D14.fn
  have GQ := ok_square (P := l.prog) (w := w) (base := base) BL D15.fn
  have GW := ok_webP BL D16.fn D13 GC D14 GD D15 GQ
  have GO := ok_order BL D17.fn D14 GD
  have GLN := ok_lnum (P := l.prog) (w := w) (base := base) (mg := mg) kdInt D18.fn
  have GLR := ok_lrows (P := l.prog) (w := w) (base := base) BL D19.fn
  have GPr := ok_pairs (P := l.prog) (w := w) (base := base) BL D20.fn
  have GFl := ok_flat (P := l.prog) (w := w) (base := base) (mg := mg) D21.fn
  have GLi := ok_lkin BL D22.fn D20 GPr
  have GAl := ok_all BL (PySem.W.mg_none_of X G z_dict) D23.fn D20 GPr D19 GLR
  have GTo := ok_told BL D24.fn D21 GFl D18 GLN
  have GWi := ok_within BL D25.fn D21 GFl
  exact ok_law BL (PySem.W.mg_none_of X G z_str) FL D13 GC D16 GW D12 GCK D24 GTo D22 GLi D23 GAl D25 GWi D21 GFl D19 GLR D17 GO D5 GRe D18 GLN D20 GPr
theorem walk {l : PySem.W.OpenLaw} {q : Program} {loose : List Str} {XP : (Str → Option Value) → Heap → Prop} {YP : World → Heap → Prop} {d : DefRec} {K : Params → PySem.W.Frag} (hn : l.most = some 63) (hdf : d.params.defaults = [])
    (hY : ∀ (w : World) (h : Heap), YP w h → (K w.params).In h)
    (F : ∀ (w : World) (mg : Str → Option Value) (fa : Addr) (h : Heap), (K w.params).In h → h.Ns mainGlobals mg → mg d.name = some (.ref fa) →
      ∃ fd : FuncData, (∀ (s : Shared) (u : Value), BindsTo s fd ⟨[u], []⟩ [("_law_script", u)]) ∧ ∀ base : Heap, (K w.params).In base → base.Ns mainGlobals mg → FnOk l.prog w (K w.params) mg base CX0 7 fa fd ["_law_script"] (spLaw (K w.params))) :
    PySem.W.WalkO q loose XP YP l.row.toRowW d [] (fun f vs => PySem.call f vs) :=
  L2.walk_of (n := 63) (k := 7) (x := "_law_script") (CX := fun _ => CX0) (sp := fun w => spLaw (K w.params)) hn (by decide) hdf ⟨rfl, by decide, by decide, rfl⟩ hY F (fun _ _ a ns hl _ hS => ⟨a, ns, rfl, hS, hl, fun _ => rfl⟩) fun _ _ _ _ _ z => z
end My
open PySem PySem.W PyProof.Rows
set_option maxRecDepth 100000 in
set_option maxHeartbeats 0 in
theorem PySem.Challenge.cw_evenkin_k72_whole_coarsest_kinds_holds : PySem.Challenge.rw_evenkin_k72_whole_coarsest_kinds.Holds := by
  w_on; o_law; k_head; (case hw => w_witness2)
  k_fill
  refine My.walk (l := PySem.Challenge.rw_evenkin_k72_whole_coarsest_kinds) rfl rfl (fun w h Y => PySem.W.kIn_of Y) ?F
  case F =>
    intro w mg fa h KX G hmg
    refine' My.all_mk KX G hmg (My.at_mk ?a0 ?l0 ?c0 ?k0) (My.at_mk ?a1 ?l1 ?c1 ?k1) (My.at_mk ?a2 ?l2 ?c2 ?k2) (My.at_mk ?a3 ?l3 ?c3 ?k3) (My.at_mk ?a4 ?l4 ?c4 ?k4) (My.at_mk ?a5 ?l5 ?c5 ?k5) (My.at_mk ?a6 ?l6 ?c6 ?k6) (My.at_mk ?a7 ?l7 ?c7 ?k7) (My.at_mk ?a8 ?l8 ?c8 ?k8) (My.at_mk ?a9 ?l9 ?c9 ?k9) (My.at_mk ?a10 ?l10 ?c10 ?k10) (My.at_mk ?a11 ?l11 ?c11 ?k11) (My.at_mk ?a12 ?l12 ?c12 ?k12) (My.at_mk ?a13 ?l13 ?c13 ?k13) (My.at_mk ?a14 ?l14 ?c14 ?k14) (My.at_mk ?a15 ?l15 ?c15 ?k15) (My.at_mk ?a16 ?l16 ?c16 ?k16) (My.at_mk ?a17 ?l17 ?c17 ?k17) (My.at_mk ?a18 ?l18 ?c18 ?k18) (My.at_mk ?a19 ?l19 ?c19 ?k19) (My.at_mk ?a20 ?l20 ?c20 ?k20) (My.at_mk ?a21 ?l21 ?c21 ?k21) (My.at_mk ?a22 ?l22 ?c22 ?k22) (My.at_mk ?a23 ?l23 ?c23 ?k23) (My.at_mk ?a24 ?l24 ?c24 ?k24) (My.at_mk ?a25 ?l25 ?c25 ?k25) ?aL ?lL ?cL ?kL ?z_len ?z_range ?z_int ?z_sorted ?z_enumerate ?z_sum ?z_zip ?z_list ?z_isinstance ?z_bool ?z_max ?z_str ?z_abs ?z_ValueError ?z_tuple ?z_dict
    (case a0 => k_is); (case l0 => k_is); (case c0 => k_is); (case k0 => k_is)
    (case a1 => k_is); (case l1 => k_is); (case c1 => k_is); (case k1 => k_is)
    (case a2 => k_is); (case l2 => k_is); (case c2 => k_is); (case k2 => k_is)
    (case a3 => k_is); (case l3 => k_is); (case c3 => k_is); (case k3 => k_is)
    (case a4 => k_is); (case l4 => k_is); (case c4 => k_is); (case k4 => k_is)
    (case a5 => k_is); (case l5 => k_is); (case c5 => k_is); (case k5 => k_is)
    (case a6 => k_is); (case l6 => k_is); (case c6 => k_is); (case k6 => k_is)
    (case a7 => k_is); (case l7 => k_is); (case c7 => k_is); (case k7 => k_is)
    (case a8 => k_is); (case l8 => k_is); (case c8 => k_is); (case k8 => k_is)
    (case a9 => k_is); (case l9 => k_is); (case c9 => k_is); (case k9 => k_is)
    (case a10 => k_is); (case l10 => k_is); (case c10 => k_is); (case k10 => k_is)
    (case a11 => k_is); (case l11 => k_is); (case c11 => k_is); (case k11 => k_is)
    (case a12 => k_is); (case l12 => k_is); (case c12 => k_is); (case k12 => k_is)
    (case a13 => k_is); (case l13 => k_is); (case c13 => k_is); (case k13 => k_is)
    (case a14 => k_is); (case l14 => k_is); (case c14 => k_is); (case k14 => k_is)
    (case a15 => k_is); (case l15 => k_is); (case c15 => k_is); (case k15 => k_is)
    (case a16 => k_is); (case l16 => k_is); (case c16 => k_is); (case k16 => k_is)
    (case a17 => k_is); (case l17 => k_is); (case c17 => k_is); (case k17 => k_is)
    (case a18 => k_is); (case l18 => k_is); (case c18 => k_is); (case k18 => k_is)
    (case a19 => k_is); (case l19 => k_is); (case c19 => k_is); (case k19 => k_is)
    (case a20 => k_is); (case l20 => k_is); (case c20 => k_is); (case k20 => k_is)
    (case a21 => k_is); (case l21 => k_is); (case c21 => k_is); (case k21 => k_is)
    (case a22 => k_is); (case l22 => k_is); (case c22 => k_is); (case k22 => k_is)
    (case a23 => k_is); (case l23 => k_is); (case c23 => k_is); (case k23 => k_is)
    (case a24 => k_is); (case l24 => k_is); (case c24 => k_is); (case k24 => k_is)
    (case a25 => k_is); (case l25 => k_is); (case c25 => k_is); (case k25 => k_is)
    (case aL => k_is); (case lL => k_is); (case cL => k_is); (case kL => k_is)
    (case z_len => k_is); (case z_range => k_is); (case z_int => k_is); (case z_sorted => k_is); (case z_enumerate => k_is); (case z_sum => k_is); (case z_zip => k_is); (case z_list => k_is); (case z_isinstance => k_is); (case z_bool => k_is); (case z_max => k_is); (case z_str => k_is); (case z_abs => k_is); (case z_ValueError => k_is); (case z_tuple => k_is); (case z_dict => k_is)
