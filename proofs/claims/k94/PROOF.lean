import PyProof.Rows.All
import Wide.All
import OpenK.AllK
import Wide.FinOn
import Lean
import PyProof.EqAt
import PyProof.EqKinds
import PyProof.TupleCall
import KE.IntTextLaws
import PySem.Challenge.RW_evenkin_k94_term_texts_refused
set_option Elab.async false
set_option linter.all false
set_option maxRecDepth 100000
namespace L2
open PySem PySem.Spec PyProof.Rows
abbrev Key := Sum Int Str
def keyIs : Key → Value → Bool
  | .inl k, v => Value.isInt k v
  | .inr x, v => Value.isStrOf x v
def keyH (w : World) : Key → Int
  | .inl k => hashInt k
  | .inr x => hashStr w x
theorem keyIs_shape : ∀ {k : Key} {v : Value}, keyIs k v = true → (∃ i t, k = Sum.inl i ∧ v = Value.int i t) ∨ (∃ x t, k = Sum.inr x ∧ v = Value.str x t)
  | .inl i, v, h => by
    obtain ⟨t, e⟩ := Value.isInt_shape (k := i) (v := v) h
    exact .inl ⟨i, t, rfl, e⟩
  | .inr x, v, h => by
    obtain ⟨t, e⟩ := Value.isStrOf_shape (x := x) (v := v) h
    exact .inr ⟨x, t, rfl, e⟩
theorem key_ll (a b : Int) : decide ((Sum.inl a : Key) = Sum.inl b) = (a == b) := by
  by_cases e : a = b
  · subst e; simp
  · have h : ¬ (Sum.inl a : Key) = Sum.inl b := fun q => e (Sum.inl.inj q)
    rw [decide_eq_false h]
    exact (beq_eq_false_iff_ne.mpr e).symm
theorem key_rr (a b : Str) : decide ((Sum.inr a : Key) = Sum.inr b) = decide (a = b) := by
  by_cases e : a = b
  · subst e; simp
  · have h : ¬ (Sum.inr a : Key) = Sum.inr b := fun q => e (Sum.inr.inj q)
    rw [decide_eq_false h, decide_eq_false e]
theorem key_lr (a : Int) (b : Str) : decide ((Sum.inl a : Key) = Sum.inr b) = false := decide_eq_false (fun q => nomatch q)
theorem key_rl (a : Str) (b : Int) : decide ((Sum.inr a : Key) = Sum.inl b) = false := decide_eq_false (fun q => nomatch q)
def mixKind (prog : Program) (w : World) : PySem.KeyKind prog w Key where
  is := keyIs
  hash := keyH w
  inj := fun v a b ha hb => by
    rcases keyIs_shape ha with ⟨i, t, rfl, rfl⟩ | ⟨x, t, rfl, rfl⟩
    · rcases keyIs_shape hb with ⟨j, u, rfl, e⟩ | ⟨y, u, rfl, e⟩
      · injection e with e1 _; rw [e1]
      · exact nomatch e
    · rcases keyIs_shape hb with ⟨j, u, rfl, e⟩ | ⟨y, u, rfl, e⟩
      · exact nomatch e
      · injection e with e1 _; rw [e1]
  byValue := fun k v h => by
    rcases keyIs_shape h with ⟨i, t, rfl, rfl⟩ | ⟨x, t, rfl, rfl⟩ <;> rfl
  pyHash := fun hv h => by
    rcases keyIs_shape hv with ⟨i, t, rfl, rfl⟩ | ⟨x, t, rfl, rfl⟩
    · exact wpAny_pyHash_int h
    · exact wpAny_pyHash_str h
  eqBool := fun hu hv h => by
    rcases keyIs_shape hu with ⟨i, t, rfl, rfl⟩ | ⟨x, t, rfl, rfl⟩
    · rcases keyIs_shape hv with ⟨j, u, rfl, rfl⟩ | ⟨y, u, rfl, rfl⟩
      · rw [key_ll] at h; exact wpAny_eqBool_int h
      · rw [key_lr] at h; exact SeqAt.EqAt.int_str i t y u _ _ _ _ h
    · rcases keyIs_shape hv with ⟨j, u, rfl, rfl⟩ | ⟨y, u, rfl, rfl⟩
      · rw [key_rl] at h; exact SeqAt.EqAt.str_int x t j u _ _ _ _ h
      · rw [key_rr] at h; exact wpAny_eqBool_str h
  «strs» := fun k x t v h => by
    rcases keyIs_shape h with ⟨i, u, rfl, e⟩ | ⟨y, u, rfl, e⟩
    · exact nomatch e
    · injection e with e1 _
      subst e1
      cases v <;> rfl
end L2
namespace L2
open PySem PySem.Spec PyProof.Rows
inductive V where
  | non | bl (b : Bool) | int (i : Int) | str (x : Str) | byt (b : Array UInt8) | flt (b : UInt64) | ref (a : Addr) | ty (n : String)
  deriving DecidableEq
def RelV : V → Value → Prop
  | .non, u => u = Value.none
  | .bl b, u => u = Value.bool b
  | .int i, u => ∃ t, u = Value.int i t
  | .str x, u => ∃ t, u = Value.str x t
  | .byt b, u => ∃ t, u = Value.bytes b t
  | .flt b, u => ∃ t, u = Value.float b t
  | .ref a, u => u = Value.ref a
  | .ty n, u => u = Value.type n
abbrev Vals : List V → List Value → Prop := Paired RelV
theorem Vals.length {xs : List V} {us : List Value} (r : Vals xs us) : xs.length = us.length := Paired.length r
theorem Vals.get : ∀ {xs : List V} {us : List Value} {i : Nat} {x : V}, Vals xs us → xs[i]? = some x → ∃ u, us[i]? = some u ∧ RelV x u
  | _, _, _, _, .nil, e => by simp at e
  | _, _, 0, _, .cons r _, e => by simp at e; subst e; exact ⟨_, rfl, r⟩
  | _, _, i + 1, x, .cons _ t, e => by
    obtain ⟨u, h1, h2⟩ := Vals.get (i := i) (x := x) t (by simpa using e)
    exact ⟨u, by simpa using h1, h2⟩
theorem Vals.set {x : V} {u : Value} (r : RelV x u) : ∀ {xs : List V} {us : List Value} (i : Nat), Vals xs us → Vals (xs.set i x) (us.set i u)
  | _, _, _, .nil => .nil
  | _, _, 0, .cons _ t => .cons r t
  | _, _, i + 1, .cons q t => .cons q (Vals.set r i t)
theorem Vals.append : ∀ {xs ys : List V} {us ws : List Value}, Vals xs us → Vals ys ws → Vals (xs ++ ys) (us ++ ws)
  | _, _, _, _, .nil, s => s
  | _, _, _, _, .cons r t, s => .cons r (Vals.append t s)
theorem Vals.take : ∀ {xs : List V} {us : List Value} (n : Nat), Vals xs us → Vals (xs.take n) (us.take n)
  | _, _, 0, _ => .nil
  | _, _, _ + 1, .nil => .nil
  | _, _, n + 1, .cons r t => .cons r (Vals.take n t)
theorem Vals.drop : ∀ {xs : List V} {us : List Value} (n : Nat), Vals xs us → Vals (xs.drop n) (us.drop n)
  | _, _, 0, r => r
  | _, _, _ + 1, .nil => .nil
  | _, _, n + 1, .cons _ t => Vals.drop n t
def RelO : Option V → Option Value → Prop
  | some v, some u => RelV v u
  | none, none => True
  | _, _ => False
def KV {κ : Type} : List (κ × V) → List (κ × Value) → Prop := Paired fun (p : κ × V) (q : κ × Value) => p.1 = q.1 ∧ RelV p.2 q.2
def kV : Key → V
  | .inl i => .int i
  | .inr x => .str x
inductive HO where
  | lst (xs : List V)
  | tup (xs : List V)
  | dK (kvs : List (Key × V)) | dT (kvs : List (List Key × V))
  | set (S : Int → Bool) (n : Nat)
  | ins (C dx : Addr) (fs : List (Str × V))
  | own (x : Addr)
  | xd (fs : List (Str × V))
  | met (f x : Addr)
  | rng (lo hi : Int)
  | frz (o : Obj) (u : HO)
  | tbl (ps : Array Value)
  | ext (φ : Heap → Prop)
abbrev Hp := Addr → Option HO
def upd (H : Hp) (a : Addr) (o : HO) : Hp := fun b => if b = a then some o else H b
theorem upd_same {H : Hp} {a : Addr} {o : HO} : upd H a o a = some o := by unfold upd; rw [if_pos rfl]
theorem upd_ne {H : Hp} {a b : Addr} {o : HO} (h : b ≠ a) : upd H a o b = H b := by unfold upd; rw [if_neg h]
theorem upd_upd {H : Hp} {a : Addr} {o u : HO} : upd (upd H a o) a u = upd H a u := by
  funext b; unfold upd; split <;> rfl
theorem ne_of_none {H : Hp} {a b : Addr} {o : HO} (h : H a = some o) (h' : H b = none) : a ≠ b := by
  intro e; subst e; rw [h] at h'; cases h'
section
variable (P : Program) (w : World)
def ObjOk (H : Hp) (h : Heap) (a : Addr) : HO → Prop
  | .lst xs => xs.length ≤ sizeLine ∧ ∃ (its : List Value) (n : Nat), Vals xs its ∧ h.get? a = some { cls := .type "list", data := .seq its.toArray n }
  | .tup xs => xs.length ≤ sizeLine ∧ ∃ its : List Value, Vals xs its ∧ IsTup h a its.toArray
  | .dK kvs => kvs.length ≤ sizeLine ∧ (a == sysModules) = false ∧ ∃ vs, KV kvs vs ∧ h.DictOf (mixKind P w) a vs
  | .dT kvs => kvs.length ≤ sizeLine ∧ (a == sysModules) = false ∧ ∃ xs : List (List Key × Addr × Value),
      Paired (fun (p : List Key × V) (q : List Key × Addr × Value) => p.1 = q.1 ∧ H q.2.1 = some (.tup (p.1.map kV)) ∧ RelV p.2 q.2.2) kvs xs ∧
      ∃ o es ep, h.get? a = some o ∧ o.ExactDict ∧ o.data = .dict es ep ∧ es.toList = xs.map (entryOfKey (tupleKind (mixKind P w))) ∧ (xs.map (·.1)).Nodup
  | .set S n => h.SetOf (intKind P w) a S n
  | .ins C dx fs => H dx = some (.own a) ∧ fs.length ≤ 1000 ∧ dx ≠ a ∧ h.get? a = some (PySem.W.instObj C dx) ∧
      ∃ mA, h.Ns1 dx mA ∧ (∀ f, RelO (fs.lookup f) (mA f)) ∧ PySem.Within mA (fs.map (·.1))
  | .own _ => ∃ o, h.get? a = some o
  | .xd fs => ∃ mA, h.Ns1 a mA ∧ ∀ f, RelO (fs.lookup f) (mA f)
  | .rng lo hi => ∃ t u v, h.get? a = some { cls := .type "range", data := .fields #[.int lo t, .int hi u, .int 1 v] }
  | .frz o u => h.get? a = some o ∧ ObjOk H h a u
  | .tbl ps => h.get? a = some { cls := .none, data := .fields ps }
  | .met f x => h.get? a = some (PySem.W.methodObj (.ref f) (.ref x))
  | .ext φ => φ h ∧ (∃ o, h.get? a = some o) ∧ ∀ h1 h2 : Heap, φ h1 → (∀ o, h1.get? a = some o → h2.get? a = some o) → φ h2
def HOk (H : Hp) (h : Heap) : Prop := ∀ a o, H a = some o → ObjOk P w H h a o
end
section
variable {P : Program} {w : World} {H H' : Hp} {h h' : Heap} {a : Addr} {o : HO}
theorem ObjOk.lt (x : ObjOk P w H h a o) : a < h.objs.size := by
  cases o with
  | lst xs => obtain ⟨_, _, _, _, e⟩ := x; exact Heap.lt_size e
  | tup xs => obtain ⟨_, _, _, p⟩ := x; exact p.lt
  | dK kvs => obtain ⟨_, _, _, _, o, _, _, e, _⟩ := x; exact Heap.lt_size e
  | dT kvs => obtain ⟨_, _, _, _, o, _, _, e, _⟩ := x; exact Heap.lt_size e
  | set S n => obtain ⟨o, _, _, _, e, _⟩ := x; exact Heap.lt_size e
  | ins C dx fs => obtain ⟨_, _, _, e, _⟩ := x; exact Heap.lt_size e
  | own y => obtain ⟨_, e⟩ := x; exact Heap.lt_size e
  | xd fs => obtain ⟨_, ⟨_, _, _, e, _⟩, _⟩ := x; exact Heap.lt_size e
  | rng lo hi => obtain ⟨_, _, _, e⟩ := x; exact Heap.lt_size e
  | frz ob u => obtain ⟨e, _⟩ := x; exact Heap.lt_size e
  | tbl ps => exact Heap.lt_size (show h.get? a = some _ from x)
  | met f y => exact Heap.lt_size (show h.get? a = some _ from x)
  | ext φ => obtain ⟨_, ⟨_, e⟩, _⟩ := x; exact Heap.lt_size e
theorem Paired.mapP {α β : Type} {F G : α → β → Prop} : ∀ {l₁ : List α} {l₂ : List β}, Paired F l₁ l₂ → (∀ a b, F a b → G a b) → Paired G l₁ l₂
  | _, _, .nil, _ => .nil
  | _, _, .cons r t, f => .cons (f _ _ r) (Paired.mapP t f)
theorem ObjOk.stay (x : ObjOk P w H h a o) (k : ∀ b u, (b = a ∨ H b = some (.own a)) → h.get? b = some u → h'.get? b = some u)
    (ho : ∀ b, H b = some (.own a) → H' b = some (.own a)) (ht : ∀ b xs, H b = some (.tup xs) → H' b = some (.tup xs)) : ObjOk P w H' h' a o := by
  induction o with
  | lst xs => obtain ⟨z, its, n, r, e⟩ := x; exact ⟨z, its, n, r, k _ _ (.inl rfl) e⟩
  | tup xs => obtain ⟨z, its, r, ob, e, c⟩ := x; exact ⟨z, its, r, ob, k _ _ (.inl rfl) e, c⟩
  | dK kvs => obtain ⟨z, y, vs, r, ob, es, ep, e, c⟩ := x; exact ⟨z, y, vs, r, ob, es, ep, k _ _ (.inl rfl) e, c⟩
  | dT kvs =>
    obtain ⟨z, y, xs, r, ob, es, ep, e, c⟩ := x
    exact ⟨z, y, xs, Paired.mapP r fun p q z => ⟨z.1, ht _ _ z.2.1, z.2.2⟩, ob, es, ep, k _ _ (.inl rfl) e, c⟩
  | set S n => obtain ⟨ob, es, ep, t, e, c⟩ := x; exact ⟨ob, es, ep, t, k _ _ (.inl rfl) e, c⟩
  | ins C dx fs =>
    obtain ⟨d, z, ne, e, mA, ⟨od, es, ep, e2, c⟩, r⟩ := x
    exact ⟨ho _ d, z, ne, k _ _ (.inl rfl) e, mA, ⟨od, es, ep, k _ _ (.inr d) e2, c⟩, r⟩
  | own y => obtain ⟨ob, e⟩ := x; exact ⟨ob, k _ _ (.inl rfl) e⟩
  | xd fs => obtain ⟨mA, ⟨od, es, ep, e, c⟩, r⟩ := x; exact ⟨mA, ⟨od, es, ep, k _ _ (.inl rfl) e, c⟩, r⟩
  | rng lo hi => obtain ⟨t, u, v, e⟩ := x; exact ⟨t, u, v, k _ _ (.inl rfl) e⟩
  | frz ob u ih => obtain ⟨e, q⟩ := x; exact ⟨k _ _ (.inl rfl) e, ih q⟩
  | tbl ps =>
    have e : h.get? a = some { cls := .none, data := .fields ps } := x
    show h'.get? a = some { cls := .none, data := .fields ps }
    exact k a _ (.inl rfl) e
  | met f y =>
    have e : h.get? a = some (PySem.W.methodObj (.ref f) (.ref y)) := x
    show h'.get? a = some (PySem.W.methodObj (.ref f) (.ref y))
    exact k a _ (.inl rfl) e
  | ext φ => obtain ⟨p, ⟨o, e⟩, st⟩ := x; exact ⟨st _ _ p fun o q => k _ _ (.inl rfl) q, ⟨o, k _ _ (.inl rfl) e⟩, st⟩
theorem HOk.lt (x : HOk P w H h) (e : H a = some o) : a < h.objs.size := (x a o e).lt
theorem HOk.fresh (x : HOk P w H h) (e : h.objs.size ≤ a) : H a = none := by
  cases q : H a with
  | none => rfl
  | some u => exact absurd (Nat.lt_of_lt_of_le (x.lt q) e) (Nat.lt_irrefl _)
theorem HOk.kept (x : HOk P w H h) (k : ∀ b u, h.get? b = some u → h'.get? b = some u) : HOk P w H h' := fun a o e =>
  (x a o e).stay (fun b u _ q => k b u q) (fun _ q => q) fun _ _ q => q
theorem HOk.laid (x : HOk P w H h) (k : ∀ b u, h.get? b = some u → h'.get? b = some u) (hp : h.objs.size ≤ a) (new : ObjOk P w (upd H a o) h' a o) : HOk P w (upd H a o) h' := fun b u e => by
  have hn := x.fresh hp
  by_cases hb : b = a
  · subst hb; rw [upd_same] at e; cases e; exact new
  · rw [upd_ne hb] at e
    exact (x b u e).stay (fun c v _ q => k c v q) (fun c q => by rw [upd_ne (ne_of_none q hn)]; exact q) fun c xs q => by rw [upd_ne (ne_of_none q hn)]; exact q
end
def Rd (H : Hp) (a : Addr) (u : HO) : Prop := H a = some u ∨ ∃ o, H a = some (.frz o u)
theorem Rd.ok {P : Program} {w : World} {H : Hp} {h : Heap} {a : Addr} {u : HO} (r : Rd H a u) (x : HOk P w H h) : ObjOk P w H h a u := by
  rcases r with r | ⟨o, r⟩
  · exact x a u r
  · obtain ⟨_, q⟩ := x a _ r
    exact q
def Mut : Option HO → Prop
  | some (.lst _) => True
  | some (.dK _) => True
  | some (.dT _) => True
  | some (.set _ _) => True
  | some (.ins _ _ _) => True
  | some (.ext _) => True
  | _ => False
section
variable {P : Program} {w : World} {H : Hp} {h h' : Heap} {x e : Addr} {o' : HO}
theorem HOk.write (ok : HOk P w H h) (mu : Mut (H x)) (he : e = x ∨ H e = some (.own x)) (k : ∀ b u, b ≠ e → h.get? b = some u → h'.get? b = some u) (heo : ∃ u, h'.get? e = some u)
    (new : ObjOk P w (upd H x o') h' x o') : HOk P w (upd H x o') h' := fun b u q => by
  have nown : ∀ c y, H c = some (.own y) → c ≠ x := fun c y r z => by subst z; rw [r] at mu; exact mu
  have ntup : ∀ c xs, H c = some (.tup xs) → c ≠ x := fun c xs r z => by subst z; rw [r] at mu; exact mu
  by_cases hb : b = x
  · subst hb; rw [upd_same] at q; cases q; exact new
  · rw [upd_ne hb] at q
    by_cases hbe : b = e
    · have q' : H b = some (.own x) := by
        rcases he with z | z
        · exact absurd (hbe.trans z) hb
        · rw [hbe]; exact z
      rw [q] at q'; cases q'
      obtain ⟨v, hv⟩ := heo
      exact ⟨v, by rw [hbe]; exact hv⟩
    · refine (ok b u q).stay (fun c v hc r => k c v ?_ r) (fun c r => by rw [upd_ne (nown c b r)]; exact r) fun c xs r => by rw [upd_ne (ntup c xs r)]; exact r
      rcases hc with rfl | hc
      · exact hbe
      · rintro rfl
        rcases he with z | z
        · exact nown c b hc z
        · rw [hc] at z; cases z; exact hb rfl
end
structure Un (fs ex : List Addr) (H H' : Hp) (h h' : Heap) : Prop where
  keep : ∀ b o, h.get? b = some o → H b = none → b ∉ fs → b ∉ ex → h'.get? b = some o
  slot : ∀ b o, h.get? b = some o → H b = none → b ∈ fs → b ∉ ex → ∃ sl, h'.get? b = some { o with slots := sl }
  free : ∀ b o, h.get? b = some o → H b = none → b ∉ ex → H' b = none
  there : ∀ b o, h.get? b = some o → b ∉ ex → ∃ o', h'.get? b = some o'
  tups : ∀ b xs, H b = some (.tup xs) → H' b = some (.tup xs)
  frzs : ∀ b o u, H b = some (.frz o u) → H' b = some (.frz o u)
  tbls : ∀ b ps, H b = some (.tbl ps) → ∃ more, H' b = some (.tbl (ps ++ more))
section
variable {fs fs' ex ex' : List Addr} {H H1 H2 : Hp} {h h1 h2 h' : Heap} {a x e : Addr} {o : HO}
theorem Un.any (u : Un fs ex H H1 h h1) {b : Addr} {ob : Obj} (q : h.get? b = some ob) (n : H b = none) (hx : b ∉ ex) : ∃ sl, h1.get? b = some { ob with slots := sl } := by
  by_cases hb : b ∈ fs
  · exact u.slot b ob q n hb hx
  · exact ⟨ob.slots, u.keep b ob q n hb hx⟩
theorem Un.kept (k : ∀ b u, h.get? b = some u → h'.get? b = some u) : Un fs ex H H h h' :=
  ⟨fun b ob q _ _ _ => k b ob q, fun b ob q _ _ _ => ⟨ob.slots, k b ob q⟩, fun _ _ _ n _ => n, fun b ob q _ => ⟨ob, k b ob q⟩, fun _ _ q => q, fun _ _ _ q => q, fun _ ps q => ⟨#[], by rw [q]; simp⟩⟩
theorem Un.refl : Un fs ex H H h h := Un.kept fun _ _ q => q
theorem Un.laid (k : ∀ b u, h.get? b = some u → h'.get? b = some u) (hp : h.objs.size ≤ a) (hn : H a = none) : Un fs ex H (upd H a o) h h' where
  keep := fun b u q _ _ _ => k b u q
  slot := fun b u q _ _ _ => ⟨u.slots, k b u q⟩
  free := fun b u q n _ => by rw [upd_ne (Nat.ne_of_lt (Nat.lt_of_lt_of_le (Heap.lt_size q) hp))]; exact n
  there := fun b u q _ => ⟨u, k b u q⟩
  tups := fun b xs q => by rw [upd_ne (ne_of_none q hn)]; exact q
  frzs := fun b u xs q => by rw [upd_ne (ne_of_none q hn)]; exact q
  tbls := fun b ps q => ⟨#[], by rw [upd_ne (ne_of_none q hn), q]; simp⟩
theorem Un.write (mu : Mut (H x)) (he : e = x ∨ H e = some (.own x)) (k : ∀ b u, b ≠ e → h.get? b = some u → h'.get? b = some u) (heo : ∃ u, h'.get? e = some u) : Un fs ex H (upd H x o) h h' := by
  have hx : ∀ b, H b = none → b ≠ x := fun b n z => by subst z; rw [n] at mu; exact mu
  have hb : ∀ b, H b = none → b ≠ e := fun b n z => by
    subst z
    rcases he with r | r
    · exact hx b n r
    · rw [n] at r; cases r
  have hm : ∀ b u, H b = some u → ¬ Mut (some u) → b ≠ x := fun b u q nm z => by subst z; rw [q] at mu; exact nm mu
  refine ⟨fun b u q n _ _ => k b u (hb b n) q, fun b u q n _ _ => ⟨u.slots, k b u (hb b n) q⟩, fun b u q n _ => by rw [upd_ne (hx b n)]; exact n, fun b u q _ => ?_,
    fun b xs q => by rw [upd_ne (hm b _ q fun z => z)]; exact q, fun b u xs q => by rw [upd_ne (hm b _ q fun z => z)]; exact q, fun b ps q => ⟨#[], by rw [upd_ne (hm b _ q fun z => z), q]; simp⟩⟩
  by_cases hbe : b = e
  · subst hbe; exact heo
  · exact ⟨u, k b u hbe q⟩
end
def trk (h : Heap) (H : Hp) : List Addr := (List.range h.objs.size).filter fun a => (H a).isSome
def hidT (h : Heap) (H : Hp) : Heap := PySem.W.hideAll h (trk h H)
theorem hidT_size (h : Heap) (H : Hp) : (hidT h H).objs.size = h.objs.size := PySem.W.hideAll_size _ _
theorem hidT_get {h : Heap} {H : Hp} {b : Addr} {o : Obj} (e : h.get? b = some o) (n : H b = none) : (hidT h H).get? b = some o :=
  PySem.W.hideAll_get _ e fun hm => by
    have q : (H b).isSome = true := (List.mem_filter.mp hm).2
    rw [n] at q; simp at q
theorem of_hidT {h : Heap} {H : Hp} {b : Addr} {o : Obj} (e : (hidT h H).get? b = some o) : h.get? b = some o ∧ H b = none := by
  have e' : h.get? b = some o := PySem.W.of_hideAll (trk h H) e
  refine ⟨e', ?_⟩
  cases q : H b with
  | none => rfl
  | some x =>
    have hm : b ∈ trk h H := List.mem_filter.mpr ⟨List.mem_range.mpr (Heap.lt_size e'), by simp [q]⟩
    have z : (hidT h H).get? b = none := PySem.W.hideAll_none (trk h H) hm
    rw [z] at e; cases e
def allNews (g h : Heap) (L : Addr) : List (Addr × Obj) := (List.range h.objs.size).filterMap fun a => if a = L ∨ (g.get? a).isSome = true then none else (h.get? a).map fun o => (a, o)
def rest (g h : Heap) (L d : Addr) : List (Addr × Obj) := (allNews g h L).filter fun p => decide (p.1 ≠ d)
end L2
namespace L2
open PySem PySem.Spec PyProof.Rows
structure Mod (K : PySem.W.Frag) (mg : Str → Option Value) (base : Heap) : Prop where
  kin : K.In base
  glob : base.Ns mainGlobals mg
  blt : ∃ mb, base.Ns builtinsNs mb ∧ ∀ x : Str, x ≠ "__name__" → mb x = bootBuiltins x
  nolimit : base.NoLimit
structure Cx where
  prog : Program
  w : World
  K : PySem.W.Frag
  mg : Str → Option Value
  base : Heap
  A : Around
  N : List Str
  s₀ : Shared
  H₀ : Hp
  env : Env
  outer : List Env
  stack : List Env
  ex : List Addr
  fn : Str → Bool
  calm : Bool
  pn : List (Addr × Obj)
  xe : Value → Shared → Prop
def frs (l : List Env) : List Addr := l.filterMap (·.frame)
abbrev Cx.fs (X : Cx) : List Addr := frs X.outer
def Vis (sc : Scope) (x : Str) : Prop := sc.names.lookup x = some .local ∨ sc.names.lookup x = some .cell ∨ sc.names.lookup x = some .free
def Loc (sc : Scope) (x : Str) : Prop := sc.names.lookup x = some .local ∨ sc.names.lookup x = some .cell
def Look (env : Env) (h : Heap) (m : Str → Option Value) (x : Str) (u : Value) : Prop :=
  (env.kindOf x = some .local ∧ m x = some u) ∨ ((env.kindOf x = some .cell ∨ env.kindOf x = some .free) ∧ ∃ c, env.cells.lookup x = some c ∧ h.IsCell c (some u))
structure Cx.Ok (X : Cx) : Prop where
  mod : Mod X.K X.mg X.base
  kind : X.env.scope.kind = .function
  glob : X.env.globals = mainGlobals
  blt : X.env.builtins = builtinsNs
  above : X.s₀.heap.objs.size ≤ X.env.locals
  inj : ∀ x y c, X.env.cells.lookup x = some c → X.env.cells.lookup y = some c → x = y
  has : ∀ x, (X.env.kindOf x = some .cell ∨ X.env.kindOf x = some .free) → ∃ c, X.env.cells.lookup x = some c
  cab : ∀ x c, X.fn x = true → X.env.cells.lookup x = some c → X.s₀.heap.objs.size ≤ c
  hd : X.calm = true → X.A.handled = none
  frames : X.A.frames = some X.stack
  stk : X.stack = X.outer ∨ (X.stack = X.env :: X.outer ∧ X.env.frame = some X.env.locals)
  exf : ∀ b ∈ X.ex, b ≠ X.env.locals ∧ ∀ x c, X.env.cells.lookup x = some c → c ≠ b
  bs : ∀ b o, X.base.get? b = some o → X.s₀.heap.get? b = some o ∧ X.H₀ b = none
  bsz : X.base.objs.size ≤ X.s₀.heap.objs.size
  noex : ∀ b o, X.base.get? b = some o → b ∉ X.ex
  exfs : ∀ b ∈ X.ex, b ∉ X.fs
  funs : X.s₀.heap.FunFrames X.base X.outer
  frf : ∀ b ∈ X.fs, X.H₀ b = none
structure Inv (X : Cx) (pins : List (Addr × Obj)) (σ : List (Option V)) (H : Hp) (s : Shared) : Prop where
  ok : X.Ok
  os : s.os = X.s₀.os
  bare : AllBare s.gens
  base : Un X.fs X.ex X.H₀ H X.s₀.heap s.heap
  loc : ∃ m, s.heap.Ns X.env.locals m ∧ ∀ (i : Nat) (x : Str) (v : V), X.N[i]? = some x → σ[i]? = some (some v) → Vis X.env.scope x → ∃ u, RelV v u ∧ Look X.env s.heap m x u
  cell : ∀ x c, X.env.cells.lookup x = some c → ∃ v, s.heap.IsCell c v
  free : H X.env.locals = none
  freeC : ∀ x c, X.env.cells.lookup x = some c → H c = none
  pin : ∀ p ∈ X.pn ++ pins, s.heap.get? p.1 = some p.2 ∧ H p.1 = none ∧ p.1 ≠ X.env.locals ∧ p.1 ∉ X.fs ∧ ∀ v, p.2.data ≠ .cell v
  hok : HOk X.prog X.w H s.heap
  len : σ.length = X.N.length
section
variable {X : Cx} {pins : List (Addr × Obj)} {σ : List (Option V)} {H H' : Hp} {s : Shared} {h' : Heap}
theorem Cx.Ok.nofr (ok : X.Ok) {b : Addr} {o : Obj} (e : X.base.get? b = some o) : b ∉ X.fs := fun hb => by
  have := (ok.funs.mem hb).1
  rw [e] at this; cases this
theorem Inv.bs (I : Inv X pins σ H s) : ∀ b o, X.base.get? b = some o → s.heap.get? b = some o ∧ H b = none := fun b o e =>
  ⟨I.base.keep b o (I.ok.bs b o e).1 (I.ok.bs b o e).2 (I.ok.nofr e) (I.ok.noex b o e), I.base.free b o (I.ok.bs b o e).1 (I.ok.bs b o e).2 (I.ok.noex b o e)⟩
theorem Inv.bk (I : Inv X pins σ H s) : ∀ b o, X.base.get? b = some o → s.heap.get? b = some o := fun b o e => (I.bs b o e).1
theorem Inv.mod (I : Inv X pins σ H s) : Mod X.K X.mg X.base := I.ok.mod
theorem Inv.kIn (I : Inv X pins σ H s) : X.K.In s.heap := I.ok.mod.kin.keeps I.bk
theorem Inv.lt (I : Inv X pins σ H s) : X.env.locals < s.heap.objs.size := let ⟨_, hn, _⟩ := I.loc; hn.lt
theorem Inv.sz (I : Inv X pins σ H s) : X.s₀.heap.objs.size ≤ s.heap.objs.size := Nat.le_trans I.ok.above (Nat.le_of_lt I.lt)
theorem Inv.nofs (I : Inv X pins σ H s) {a : Addr} (h : s.heap.objs.size ≤ a) : a ∉ X.fs := fun hb => by
  obtain ⟨_, o, ho, _⟩ := I.ok.funs.mem hb
  exact absurd (Nat.lt_of_lt_of_le (Heap.lt_size ho) (Nat.le_trans I.sz h)) (Nat.lt_irrefl _)
theorem Inv.cne (I : Inv X pins σ H s) : ∀ x c, X.env.cells.lookup x = some c → c ≠ X.env.locals := fun x c e z => by
  obtain ⟨v, o, ho, hd⟩ := I.cell x c e
  obtain ⟨m, ⟨o', es, ep, ho', hd', _⟩, _⟩ := I.loc
  rw [z, ho'] at ho; cases ho; rw [hd'] at hd; cases hd
theorem Inv.funs (I : Inv X pins σ H s) : s.heap.FunFrames X.base X.outer := by
  have all : ∀ (l : List Env), (∀ b ∈ frs l, b ∈ X.fs) → X.s₀.heap.FunFrames X.base l → s.heap.FunFrames X.base l := by
    intro l
    induction l with
    | nil => intro _ _; trivial
    | cons env r ih =>
      intro hs hl
      obtain ⟨hk, ⟨L, o, hf, hn, ho, hd⟩, hr⟩ := hl
      have hL : L ∈ X.fs := hs L (by unfold frs; rw [List.filterMap_cons, hf]; exact List.mem_cons_self)
      obtain ⟨sl, e⟩ := I.base.slot L o ho (I.ok.frf L hL) hL fun z => I.ok.exfs L z hL
      exact ⟨hk, ⟨L, _, hf, hn, e, hd⟩, ih (fun b hb => hs b (by unfold frs; rw [List.filterMap_cons, hf]; exact List.mem_cons_of_mem _ hb)) hr⟩
  exact all X.outer (fun _ hb => hb) I.ok.funs
theorem Inv.stack (I : Inv X pins σ H s) : s.heap.FunFrames X.base X.stack := by
  rcases I.ok.stk with e | ⟨e, hf⟩
  · rw [e]; exact I.funs
  · rw [e]
    obtain ⟨m, hn, _⟩ := I.loc
    refine .cons (by rw [I.ok.kind]; decide) hf hn ?_ I.funs
    exact Heap.get?_none_of_le (Nat.le_trans I.ok.bsz I.ok.above)
theorem Inv.stkSub (I : Inv X pins σ H s) : ∀ b ∈ frs X.stack, b ∈ X.env.locals :: X.fs := fun b hb => by
  rcases I.ok.stk with e | ⟨e, hf⟩
  · rw [e] at hb; exact List.mem_cons_of_mem _ hb
  · rw [e] at hb
    unfold frs at hb
    rw [List.filterMap_cons, hf] at hb
    exact hb
theorem Inv.stkFree (I : Inv X pins σ H s) : ∀ b ∈ frs X.stack, H b = none := fun b hb => by
  rcases List.mem_cons.mp (I.stkSub b hb) with e | hb
  · rw [e]; exact I.free
  · obtain ⟨_, o, ho, _⟩ := I.ok.funs.mem hb
    exact I.base.free b o ho (I.ok.frf b hb) fun z => I.ok.exfs b z hb
theorem Inv.step {g' : Array GenState} {t' : Nat} {d' : Drawn} {ch : List Addr} (I : Inv X pins σ H s)
    (hch : ∀ b ∈ ch, (b ∈ X.ex ∨ X.s₀.heap.objs.size ≤ b) ∧ b ≠ X.env.locals ∧ (∀ x c, X.env.cells.lookup x = some c → c ≠ b) ∧ ∀ p ∈ X.pn ++ pins, p.1 ≠ b)
    (keep : ∀ b o, b ≠ X.env.locals → b ∉ X.fs → b ∉ ch → s.heap.get? b = some o → H b = none → h'.get? b = some o)
    (slot : ∀ b o, b ≠ X.env.locals → b ∈ X.fs → b ∉ ch → s.heap.get? b = some o → H b = none → ∃ sl, h'.get? b = some { o with slots := sl }) (free : ∀ b o, b ∉ ch → s.heap.get? b = some o → H b = none → H' b = none)
    (there : ∀ b o, b ∉ ch → s.heap.get? b = some o → ∃ o', h'.get? b = some o')
    (tups : ∀ b xs, H b = some (.tup xs) → H' b = some (.tup xs)) (frzs : ∀ b o u, H b = some (.frz o u) → H' b = some (.frz o u)) (tbls : ∀ b ps, H b = some (.tbl ps) → ∃ more, H' b = some (.tbl (ps ++ more)))
    (ns : ∀ m, s.heap.Ns X.env.locals m → h'.Ns X.env.locals m) (hok : HOk X.prog X.w H' h') (hg : AllBare g') :
    Inv X pins σ H' { s with heap := h', gens := g', drawn := d', toks := t' } := by
  have neL : ∀ b o, X.s₀.heap.get? b = some o → b ≠ X.env.locals := fun b o e => Nat.ne_of_lt (Nat.lt_of_lt_of_le (Heap.lt_size e) I.ok.above)
  have neC : ∀ b o, X.s₀.heap.get? b = some o → b ∉ X.ex → b ∉ ch := fun b o e hx hb => by
    rcases (hch b hb).1 with z | z
    · exact hx z
    · exact absurd (Nat.lt_of_lt_of_le (Heap.lt_size e) z) (Nat.lt_irrefl _)
  have cellK : ∀ x c, X.env.cells.lookup x = some c → ∀ v, s.heap.IsCell c v → h'.IsCell c v := fun x c e v ⟨o, ho, hd⟩ => by
    have nch : c ∉ ch := fun z => (hch c z).2.2.1 x c e rfl
    by_cases hc : c ∈ X.fs
    · obtain ⟨sl, q⟩ := slot c o (I.cne x c e) hc nch ho (I.freeC x c e)
      exact ⟨_, q, hd⟩
    · exact ⟨o, keep c o (I.cne x c e) hc nch ho (I.freeC x c e), hd⟩
  refine ⟨I.ok, I.os, hg, ⟨fun b o e n hb hx => ?_, fun b o e n hb hx => ?_, fun b o e n hx => ?_, fun b o e hx => ?_, fun b xs e => tups b xs (I.base.tups b xs e), fun b o xs e => frzs b o xs (I.base.frzs b o xs e), fun b ps e => ?_⟩, ?_, fun x c e => ?_, ?_, fun x c e => ?_, fun p hp => ?_, hok, I.len⟩
  · exact keep b o (neL b o e) hb (neC b o e hx) (I.base.keep b o e n hb hx) (I.base.free b o e n hx)
  · obtain ⟨sl, e1⟩ := I.base.slot b o e n hb hx
    obtain ⟨sl', e2⟩ := slot b _ (neL b o e) hb (neC b o e hx) e1 (I.base.free b o e n hx)
    exact ⟨sl', e2⟩
  · obtain ⟨o', e1⟩ := I.base.there b o e hx
    exact free b o' (neC b o e hx) e1 (I.base.free b o e n hx)
  · obtain ⟨o', e1⟩ := I.base.there b o e hx
    exact there b o' (neC b o e hx) e1
  · obtain ⟨m1, e1⟩ := I.base.tbls b ps e
    obtain ⟨m2, e2⟩ := tbls b _ e1
    exact ⟨m1 ++ m2, by rw [e2, Array.append_assoc]⟩
  · obtain ⟨m, hn, hl⟩ := I.loc
    refine ⟨m, ns m hn, fun i x v e1 e2 e3 => ?_⟩
    obtain ⟨u, r, l⟩ := hl i x v e1 e2 e3
    refine ⟨u, r, ?_⟩
    rcases l with l | ⟨k, c, e, z⟩
    · exact .inl l
    · exact .inr ⟨k, c, e, cellK x c e _ z⟩
  · obtain ⟨v, z⟩ := I.cell x c e
    exact ⟨v, cellK x c e v z⟩
  · obtain ⟨m, ⟨o, _, _, ho, _⟩, _⟩ := I.loc
    exact free _ o (fun z => (hch _ z).2.1 rfl) ho I.free
  · obtain ⟨v, o, ho, hd⟩ := I.cell x c e
    exact free c o (fun z => (hch c z).2.2.1 x c e rfl) ho (I.freeC x c e)
  · obtain ⟨e, n, ne, nf, d⟩ := I.pin p hp
    have nch : p.1 ∉ ch := fun z => (hch p.1 z).2.2.2 p hp rfl
    exact ⟨keep p.1 p.2 ne nf nch e n, free p.1 p.2 nch e n, ne, nf, d⟩
theorem Inv.un {t' : Nat} (I : Inv X pins σ H s) (u : Un X.fs [] H H' s.heap h') (hok : HOk X.prog X.w H' h') : Inv X pins σ H' { s with heap := h', toks := t' } := by
  obtain ⟨m, ⟨o, es, ep, ho, r⟩, _⟩ := id I.loc
  obtain ⟨sl, hL⟩ := u.any ho I.free (by simp)
  exact I.step (g' := s.gens) (d' := s.drawn) (ch := []) (fun _ z => nomatch z) (fun b o _ hb _ e n => u.keep b o e n hb (by simp)) (fun b o _ hb _ e n => u.slot b o e n hb (by simp)) (fun b o _ e n => u.free b o e n (by simp)) (fun b o _ e => u.there b o e (by simp)) u.tups u.frzs u.tbls (fun m' hm => by
    obtain ⟨o', es', ep', ho', r'⟩ := hm
    rw [ho] at ho'; cases ho'
    exact ⟨_, es', ep', hL, r'⟩) hok I.bare
theorem Inv.call {g' : Array GenState} {t' : Nat} {d' : Drawn} {ch : List Addr} (I : Inv X pins σ H s) (u : Un (frs X.stack) ch H H' s.heap h') (hok : HOk X.prog X.w H' h') (hg : AllBare g')
    (hch : ∀ b ∈ ch, (b ∈ X.ex ∨ X.s₀.heap.objs.size ≤ b) ∧ b ≠ X.env.locals ∧ (∀ x c, X.env.cells.lookup x = some c → c ≠ b) ∧ ∀ p ∈ X.pn ++ pins, p.1 ≠ b) :
    Inv X pins σ H' { s with heap := h', gens := g', drawn := d', toks := t' } := by
  obtain ⟨m, ⟨o, es, ep, ho, r⟩, _⟩ := id I.loc
  obtain ⟨sl, hL⟩ := u.any ho I.free fun z => (hch _ z).2.1 rfl
  exact I.step (ch := ch) hch (fun b o hL hb hc e n => u.keep b o e n (fun z => (List.mem_cons.mp (I.stkSub b z)).elim hL hb) hc) (fun b o _ _ hc e n => u.any e n hc) (fun b o hc e n => u.free b o e n hc) (fun b o hc e => u.there b o e hc) u.tups u.frzs u.tbls (fun m' hm => by
    obtain ⟨o', es', ep', ho', r'⟩ := hm
    rw [ho] at ho'; cases ho'
    exact ⟨_, es', ep', hL, r'⟩) hok hg
theorem Inv.turned {t' : Nat} {it : Addr} (I : Inv X pins σ H s) (k : ∀ b o, b ≠ it → s.heap.get? b = some o → h'.get? b = some o) (hn : H it = none) (hL : it ≠ X.env.locals)
    (h1 : it ∈ X.ex ∨ X.s₀.heap.objs.size ≤ it) (h2 : ∀ x c, X.env.cells.lookup x = some c → c ≠ it) (h3 : ∀ p ∈ X.pn ++ pins, p.1 ≠ it) : Inv X pins σ H { s with heap := h', toks := t' } := by
  have nit : ∀ b u, H b = some u → b ≠ it := fun b u e z => by rw [z, hn] at e; cases e
  refine I.step (g' := s.gens) (d' := s.drawn) (ch := [it]) (fun b hb => ?_) (fun b o _ _ hc e _ => k b o (fun z => hc (by simp [z])) e) (fun b o _ _ hc e _ => ⟨o.slots, k b o (fun z => hc (by simp [z])) e⟩) (fun _ _ _ _ n => n)
    (fun b o hc e => ⟨o, k b o (fun z => hc (by simp [z])) e⟩) (fun _ _ e => e) (fun _ _ _ e => e) (fun b ps e => ⟨#[], by rw [e]; simp⟩) (fun m hm => ?_) (fun b u e => ?_) I.bare
  · have e : b = it := by simpa using hb
    subst e
    exact ⟨h1, hL, h2, h3⟩
  · obtain ⟨o, es, ep, ho, r⟩ := hm
    exact ⟨o, es, ep, k _ o (Ne.symm hL) ho, r⟩
  · refine (I.hok b u e).stay (fun c v hc q => k c v ?_ q) (fun _ q => q) fun _ _ q => q
    rcases hc with z | z
    · rw [z]; exact nit b u e
    · exact nit c _ z
theorem Inv.tok (I : Inv X pins σ H s) (t : Nat) : Inv X pins σ H { s with toks := t } := I.un (h' := s.heap) (t' := t) Un.refl I.hok
theorem Inv.kept {t' : Nat} (I : Inv X pins σ H s) (k : ∀ b u, s.heap.get? b = some u → h'.get? b = some u) : Inv X pins σ H { s with heap := h', toks := t' } := I.un (Un.kept k) (I.hok.kept k)
theorem Inv.laid {a : Addr} {o : HO} {t' : Nat} (I : Inv X pins σ H s) (k : ∀ b u, s.heap.get? b = some u → h'.get? b = some u) (hp : s.heap.objs.size ≤ a) (new : ObjOk X.prog X.w (upd H a o) h' a o) :
    Inv X pins σ (upd H a o) { s with heap := h', toks := t' } := I.un (Un.laid k hp (I.hok.fresh hp)) (I.hok.laid k hp new)
theorem Inv.write {x e : Addr} {o : HO} {t' : Nat} (I : Inv X pins σ H s) (mu : Mut (H x)) (he : e = x ∨ H e = some (.own x)) (k : ∀ b u, b ≠ e → s.heap.get? b = some u → h'.get? b = some u) (heo : ∃ u, h'.get? e = some u)
    (new : ObjOk X.prog X.w (upd H x o) h' x o) : Inv X pins σ (upd H x o) { s with heap := h', toks := t' } := I.un (Un.write mu he k heo) (I.hok.write mu he k heo new)
theorem Inv.pins_of {pins' : List (Addr × Obj)} (I : Inv X pins σ H s) (h : ∀ p ∈ pins', s.heap.get? p.1 = some p.2 ∧ H p.1 = none ∧ p.1 ≠ X.env.locals ∧ p.1 ∉ X.fs ∧ ∀ v, p.2.data ≠ .cell v) : Inv X pins' σ H s :=
  ⟨I.ok, I.os, I.bare, I.base, I.loc, I.cell, I.free, I.freeC, fun p hp => (List.mem_append.mp hp).elim (fun z => I.pin p (List.mem_append_left _ z)) (h p), I.hok, I.len⟩
theorem nodup_ix {N : List Str} (hN : N.Nodup) {i j : Nat} {x : Str} (a : N[i]? = some x) (b : N[j]? = some x) : i = j := by
  obtain ⟨h1, e1⟩ := List.getElem?_eq_some_iff.mp a
  obtain ⟨h2, e2⟩ := List.getElem?_eq_some_iff.mp b
  exact (List.getElem_inj hN).mp (e1.trans e2.symm)
theorem store_ok2 {M : Model} {A : Around} {E : Value → Shared → Prop} {i : Nat} {x : Str} {v : V} {u : Value} {Q : Unit → Shared → Prop} (I : Inv X pins σ H s) (hN : X.N.Nodup) (hi : X.N[i]? = some x) (hx : Loc X.env.scope x) (r : RelV v u)
    (h : ∀ s', Inv X pins (σ.set i (some v)) H s' → (∃ a, Heap.SameBut a s.heap s'.heap ∧ (a = X.env.locals ∨ X.env.cells.lookup x = some a)) → Q () s') (hf : X.fn x = true ∨ X.env.scope.names.lookup x = some .local := by first | exact .inl rfl | exact .inr rfl | assumption) : wpAny M A (storeName X.env x u) Q E s := by
  obtain ⟨m, hn, hl⟩ := id I.loc
  have hcls : (X.env.scope.kind == .class || (X.env.scope.kind == .module && X.env.locals != X.env.globals)) = false := by rw [I.ok.kind]; rfl
  have hiσ : i < σ.length := by rw [I.len]; exact (List.getElem?_eq_some_iff.mp hi).1
  have cne := I.cne
  have tracked : ∀ {a : Addr} {h' : Heap}, (∃ o, s.heap.get? a = some o ∧ H a = none) → Heap.SameBut a s.heap h' → HOk X.prog X.w H h' := fun {a h'} ha hs b ob e => by
    obtain ⟨_, _, hfree⟩ := ha
    refine (I.hok b ob e).stay (fun c w' hc q => (hs.2 c ?_).trans q) (fun _ q => q) fun _ _ q => q
    rintro rfl
    rcases hc with rfl | hc
    · rw [hfree] at e; cases e
    · rw [hfree] at hc; cases hc
  rcases hx with hk | hk
  · refine wpAny_storeName_local hk hn (fun h' hn' hs => ?_) hcls
    obtain ⟨oL, _, _, hoL, _⟩ := id hn
    refine h _ ⟨I.ok, I.os, I.bare, ⟨fun b o e n hb hx => ?_, fun b o e n hb hx => ?_, I.base.free, fun b o e hx => ?_, I.base.tups, I.base.frzs, I.base.tbls⟩, ⟨_, hn', fun j y v' e1 e2 e3 => ?_⟩, fun y c e => ?_, I.free, I.freeC, fun p hp => ?_, tracked ⟨oL, hoL, I.free⟩ hs, by simpa using I.len⟩ ⟨_, hs, .inl rfl⟩
    · exact (hs.2 b (Nat.ne_of_lt (Nat.lt_of_lt_of_le (Heap.lt_size e) I.ok.above))).trans (I.base.keep b o e n hb hx)
    · obtain ⟨sl, e1⟩ := I.base.slot b o e n hb hx
      exact ⟨sl, (hs.2 b (Nat.ne_of_lt (Nat.lt_of_lt_of_le (Heap.lt_size e) I.ok.above))).trans e1⟩
    · obtain ⟨o', e1⟩ := I.base.there b o e hx
      exact ⟨o', (hs.2 b (Nat.ne_of_lt (Nat.lt_of_lt_of_le (Heap.lt_size e) I.ok.above))).trans e1⟩
    · by_cases hj : j = i
      · subst hj
        rw [hi] at e1; cases e1
        rw [List.getElem?_set_self hiσ] at e2
        cases e2
        exact ⟨u, r, .inl ⟨hk, by simp⟩⟩
      · rw [List.getElem?_set_ne (Ne.symm hj)] at e2
        obtain ⟨u', r', q⟩ := hl j y v' e1 e2 e3
        refine ⟨u', r', ?_⟩
        rcases q with ⟨k, e⟩ | ⟨k, c, e, z⟩
        · refine .inl ⟨k, ?_⟩
          have : y ≠ x := fun e => hj (nodup_ix hN e1 (e ▸ hi))
          simp [this, e]
        · exact .inr ⟨k, c, e, z.sameBut hs (cne y c e)⟩
    · obtain ⟨w', z⟩ := I.cell y c e
      exact ⟨w', z.sameBut hs (cne y c e)⟩
    · obtain ⟨e, n, ne, nf, d⟩ := I.pin p hp
      exact ⟨(hs.2 p.1 ne).trans e, n, ne, nf, d⟩
  · have hfn : X.fn x = true := by
      rcases hf with z | z
      · exact z
      · rw [z] at hk; cases hk
    obtain ⟨c, hc⟩ := I.ok.has x (.inl hk)
    obtain ⟨w', z⟩ := I.cell x c hc
    refine wpAny_storeName_cell I.ok.kind hk hc z (fun h' hc' hs => ?_)
    obtain ⟨oc, hoc, hocd⟩ := id z
    refine h { s with heap := h' } ⟨I.ok, I.os, I.bare, ⟨fun b o e n hb hx => ?_, fun b o e n hb hx => ?_, I.base.free, fun b o e hx => ?_, I.base.tups, I.base.frzs, I.base.tbls⟩, ⟨m, hn.sameBut hs (Ne.symm (cne x c hc)), fun j y v' e1 e2 e3 => ?_⟩, fun y c' e => ?_, I.free, I.freeC, fun p hp => ?_, tracked ⟨oc, hoc, I.freeC x c hc⟩ hs, by simpa using I.len⟩ ⟨c, hs, .inr hc⟩
    · exact (hs.2 b (Nat.ne_of_lt (Nat.lt_of_lt_of_le (Heap.lt_size e) (I.ok.cab x c hfn hc)))).trans (I.base.keep b o e n hb hx)
    · obtain ⟨sl, e1⟩ := I.base.slot b o e n hb hx
      exact ⟨sl, (hs.2 b (Nat.ne_of_lt (Nat.lt_of_lt_of_le (Heap.lt_size e) (I.ok.cab x c hfn hc)))).trans e1⟩
    · obtain ⟨o', e1⟩ := I.base.there b o e hx
      exact ⟨o', (hs.2 b (Nat.ne_of_lt (Nat.lt_of_lt_of_le (Heap.lt_size e) (I.ok.cab x c hfn hc)))).trans e1⟩
    · by_cases hj : j = i
      · subst hj
        rw [hi] at e1; cases e1
        rw [List.getElem?_set_self hiσ] at e2
        cases e2
        exact ⟨u, r, .inr ⟨.inl hk, c, hc, hc'⟩⟩
      · rw [List.getElem?_set_ne (Ne.symm hj)] at e2
        obtain ⟨u', r', q⟩ := hl j y v' e1 e2 e3
        refine ⟨u', r', ?_⟩
        rcases q with q | ⟨k, c', e, z'⟩
        · exact .inl q
        · refine .inr ⟨k, c', e, z'.sameBut hs ?_⟩
          rintro rfl
          exact hj (nodup_ix hN e1 (I.ok.inj _ _ _ e hc ▸ hi))
    · by_cases hcc : c' = c
      · subst hcc; exact ⟨_, hc'⟩
      · obtain ⟨w2, z2⟩ := I.cell y c' e
        exact ⟨w2, z2.sameBut hs hcc⟩
    · obtain ⟨e, n, ne, nf, d⟩ := I.pin p hp
      refine ⟨(hs.2 p.1 ?_).trans e, n, ne, nf, d⟩
      intro q
      rw [q, hoc] at e
      have q' : oc = p.2 := Option.some.inj e
      exact d w' (by rw [← q']; exact hocd)
theorem store_ok {M : Model} {A : Around} {E : Value → Shared → Prop} {i : Nat} {x : Str} {v : V} {u : Value} {Q : Unit → Shared → Prop} (I : Inv X pins σ H s) (hN : X.N.Nodup) (hi : X.N[i]? = some x) (hx : Loc X.env.scope x) (r : RelV v u)
    (h : ∀ s', Inv X pins (σ.set i (some v)) H s' → Q () s') (hf : X.fn x = true ∨ X.env.scope.names.lookup x = some .local := by first | exact .inl rfl | exact .inr rfl | assumption) : wpAny M A (storeName X.env x u) Q E s :=
  store_ok2 I hN hi hx r (fun s' I' _ => h s' I') hf
theorem Inv.call' {s' : Shared} {ch : List Addr} (I : Inv X pins σ H s) (ho : s'.os = s.os) (u : Un (frs X.stack) ch H H' s.heap s'.heap) (hok : HOk X.prog X.w H' s'.heap) (hg : AllBare s'.gens)
    (hch : ∀ b ∈ ch, (b ∈ X.ex ∨ X.s₀.heap.objs.size ≤ b) ∧ b ≠ X.env.locals ∧ (∀ x c, X.env.cells.lookup x = some c → c ≠ b) ∧ ∀ p ∈ X.pn ++ pins, p.1 ≠ b) : Inv X pins σ H' s' := by
  obtain ⟨h', g', d', t', o'⟩ := s'
  have e : o' = s.os := ho
  subst e
  exact I.call (g' := g') (t' := t') (d' := d') u hok hg hch
end
abbrev XK := Value → Option Addr → Hp → Prop
abbrev St := List (Option V)
abbrev VK := V → Hp → Prop
abbrev TE := St → Hp → VK → Prop
abbrev TT := St → Hp → (Bool → Hp → Prop) → Prop
abbrev TA := St → Hp → (List V → Hp → Prop) → Prop
structure Ends where
  nx : St → Hp → Prop
  rt : VK
  bk : St → Hp → Prop := fun _ _ => False
  ct : St → Hp → Prop := fun _ _ => False
abbrev TS := Ends → St → Hp → Prop
def EP (X : Cx) (pins : List (Addr × Obj)) (σ : St) (Q : VK) (u : Value) (s' : Shared) : Prop := ∃ v H', Inv X pins σ H' s' ∧ RelV v u ∧ Q v H'
def TP (X : Cx) (pins : List (Addr × Obj)) (σ : St) (Q : Bool → Hp → Prop) (b : Bool) (s' : Shared) : Prop := ∃ H', Inv X pins σ H' s' ∧ Q b H'
def AP (X : Cx) (pins : List (Addr × Obj)) (σ : St) (Q : List V → Hp → Prop) (us : List Value) (s' : Shared) : Prop := ∃ vs H', Inv X pins σ H' s' ∧ Vals vs us ∧ Q vs H'
def SP (X : Cx) (pins : List (Addr × Obj)) (D : Ends) (f : Flow) (s' : Shared) : Prop :=
  match f with
  | .next => ∃ σ' H', Inv X pins σ' H' s' ∧ D.nx σ' H'
  | .brk => ∃ σ' H', Inv X pins σ' H' s' ∧ D.bk σ' H'
  | .cont => ∃ σ' H', Inv X pins σ' H' s' ∧ D.ct σ' H'
  | .ret u => ∃ v σ' H', Inv X pins σ' H' s' ∧ RelV v u ∧ D.rt v H'
def PE (X : Cx) (e : Expr) (t : TE) : Prop :=
  ∀ (pins : List (Addr × Obj)) (s : Shared) (σ : St) (H : Hp) (Q : VK), Inv X pins σ H s → t σ H Q → wpAny (model X.prog X.w) X.A (eval e X.env) (EP X pins σ Q) X.xe s
def PT (X : Cx) (e : Expr) (t : TT) : Prop :=
  ∀ (pins : List (Addr × Obj)) (s : Shared) (σ : St) (H : Hp) (Q : Bool → Hp → Prop), Inv X pins σ H s → t σ H Q → wpAny (model X.prog X.w) X.A (isTrue e X.env (eval e X.env)) (TP X pins σ Q) X.xe s
def PW (X : Cx) (e : Expr) (t : TT) : Prop :=
  ∀ (whole : Sem Value) (pins : List (Addr × Obj)) (s : Shared) (σ : St) (H : Hp) (Q : Bool → Hp → Prop), Inv X pins σ H s → t σ H Q → wpAny (model X.prog X.w) X.A (isTrue e X.env whole) (TP X pins σ Q) X.xe s
theorem PW.pt {X : Cx} {e : Expr} {t : TT} (h : PW X e t) : PT X e t := h _
def PA (X : Cx) (es : List Expr) (t : TA) : Prop :=
  ∀ (pos : Pos) (pins : List (Addr × Obj)) (s : Shared) (σ : St) (H : Hp) (Q : List V → Hp → Prop), Inv X pins σ H s → t σ H Q → wpAny (model X.prog X.w) X.A (spliced (backTo pos (starEach es X.env))) (AP X pins σ Q) X.xe s
def PS (X : Cx) (st : Stmt) (t : TS) : Prop :=
  ∀ (pins : List (Addr × Obj)) (s : Shared) (σ : St) (H : Hp) (D : Ends), Inv X pins σ H s → t D σ H → wpAny (model X.prog X.w) X.A (exec st X.env) (SP X pins D) X.xe s
def PSs (X : Cx) (st : List Stmt) (t : TS) : Prop :=
  ∀ (pins : List (Addr × Obj)) (s : Shared) (σ : St) (H : Hp) (D : Ends), Inv X pins σ H s → t D σ H → wpAny (model X.prog X.w) X.A (execs st X.env) (SP X pins D) X.xe s
theorem thn {α : Type} {t : Sem α} {Q Q' : α → Shared → Prop} {M : Model} {A : Around} {E : Value → Shared → Prop} {s : Shared} (h : wpAny M A t Q E s) (hQ : ∀ a s, Q a s → Q' a s) : wpAny M A t Q' E s := wpAny_mono h hQ fun _ _ x => x
end L2
namespace L2
open PySem PySem.Spec PyProof.Rows
section
variable {X : Cx}
theorem bin {a b : Expr} {ta tb : TE} (ha : PE X a ta) (hb : PE X b tb) {pins : List (Addr × Obj)} {s : Shared} {σ : St} {H : Hp} {R : V → V → Hp → Prop} (I : Inv X pins σ H s) (h : ta σ H fun x H1 => tb σ H1 fun y H2 => R x y H2)
    {α : Type} {Q : α → Shared → Prop} {f : Value → Value → Sem α}
    (hf : ∀ v u s2 x y H2, Inv X pins σ H2 s2 → RelV x v → RelV y u → R x y H2 → wpAny (model X.prog X.w) X.A (f v u) Q X.xe s2) :
    wpAny (model X.prog X.w) X.A (eval a X.env) (fun v s₁ => wpAny (model X.prog X.w) X.A (eval b X.env) (fun u s₂ => wpAny (model X.prog X.w) X.A (f v u) Q X.xe s₂) X.xe s₁) X.xe s := by
  refine thn (ha pins s σ H _ I h) fun v s1 ⟨x, H1, I1, r1, q1⟩ => ?_
  refine thn (hb pins s1 σ H1 _ I1 q1) fun u s2 ⟨y, H2, I2, r2, q2⟩ => ?_
  exact hf v u s2 x y H2 I2 r1 r2 q2
def tVar (i : Nat) : TE := fun σ H Q => ∃ v, σ[i]? = some (some v) ∧ Q v H
def tC (v : V) : TE := fun _ H Q => Q v H
theorem pe_var {i : Nat} {x : Str} {pos : Pos} (hN : X.N[i]? = some x) (hv : Vis X.env.scope x) (hd : (x == ("__debug__" : Str)) = false := by decide) (hcd : (x == ("__classdict__" : Str)) = false := by decide) : PE X (.Name x pos) (tVar i) := by
  intro pins s σ H Q I h
  obtain ⟨v, e, h⟩ := h
  obtain ⟨m, hn, hl⟩ := I.loc
  obtain ⟨u, r, l⟩ := hl i x v hN e hv
  have fin : EP X pins σ Q u s := ⟨v, H, I, r, h⟩
  rcases l with ⟨hk, hm⟩ | ⟨hk, c, hc, hcell⟩
  · exact wpAny_Name (wpAny_loadName_local I.ok.kind hk hn hm fin) hd
  · rcases hk with hk | hk
    · exact wpAny_Name (wpAny_loadName_cell I.ok.kind hk hc hcell fin) hd
    · exact wpAny_Name (wpAny_loadName_free I.ok.kind hk hc hcell fin hcd) hd
theorem pe_int {i j pos} : PE X (.Constant (.int i) j pos) (tC (.int i)) := fun _ _ _ H _ I h => wpAny_Constant_int ⟨.int i, H, I.tok _, ⟨_, rfl⟩, h⟩
theorem pe_bl {b j pos} : PE X (.Constant (.bool b) j pos) (tC (.bl b)) := fun _ _ _ H _ I h => Constant_bool ⟨.bl b, H, I, rfl, h⟩
theorem pe_non {j pos} : PE X (.Constant .none j pos) (tC .non) := fun _ _ _ H _ I h => Constant_none ⟨.non, H, I, rfl, h⟩
theorem pe_str {x j pos} : PE X (.Constant (.str x) j pos) (tC (.str x)) := fun _ _ _ H _ I h => Calls.Constant_str ⟨.str x, H, I.tok _, ⟨_, rfl⟩, h⟩
def Gl (X : Cx) (x : Str) : Prop := X.env.kindOf x = some .globalImplicit
theorem ld_glob {E : Value → Shared → Prop} {pins : List (Addr × Obj)} {s : Shared} {σ : St} {H : Hp} {x : Str} {u : Value} {pos : Pos} {Q : Value → Shared → Prop} (I : Inv X pins σ H s) (hg : Gl X x) (hm : X.mg x = some u) (h : Q u s)
    (hd : (x == ("__debug__" : Str)) = false := by decide) : wpAny (model X.prog X.w) X.A (eval (.Name x pos) X.env) Q E s :=
  Calls.Name_function_global I.ok.kind hg (Calls.loadGlobal_global (by rw [I.ok.glob]; exact I.mod.glob.keeps I.bk) hm h) hd
theorem ld_blt {E : Value → Shared → Prop} {pins : List (Addr × Obj)} {s : Shared} {σ : St} {H : Hp} {x : Str} {u : Value} {pos : Pos} {Q : Value → Shared → Prop} (I : Inv X pins σ H s) (hg : Gl X x) (hm : X.mg x = none) (hv : bootBuiltins x = some u) (h : Q u s)
    (hn : x ≠ "__name__" := by decide) (hd : (x == ("__debug__" : Str)) = false := by decide) : wpAny (model X.prog X.w) X.A (eval (.Name x pos) X.env) Q E s := by
  obtain ⟨mb, h1, h2⟩ := I.mod.blt
  exact Calls.Name_function_global I.ok.kind hg (Calls.loadGlobal_builtin (by rw [I.ok.glob]; exact I.mod.glob.keeps I.bk) hm (by rw [I.ok.blt]; exact h1.keeps I.bk) ((h2 x hn).trans hv) h) hd
theorem pe_glob {x : Str} {v : V} {u : Value} {pos : Pos} (hg : Gl X x) (hm : X.mg x = some u) (r : RelV v u) (hd : (x == ("__debug__" : Str)) = false := by decide) : PE X (.Name x pos) (tC v) :=
  fun _ _ _ H _ I h => ld_glob I hg hm ⟨v, H, I, r, h⟩ hd
theorem pe_bltn {x : Str} {v : V} {u : Value} {pos : Pos} (hg : Gl X x) (hm : X.mg x = none) (hv : bootBuiltins x = some u) (r : RelV v u) (hn : x ≠ "__name__" := by decide) (hd : (x == ("__debug__" : Str)) = false := by decide) : PE X (.Name x pos) (tC v) :=
  fun _ _ _ H _ I h => ld_blt I hg hm hv ⟨v, H, I, r, h⟩ hn hd
variable {a b : Expr} {ta tb : TE} {pos : Pos}
def PC (X : Cx) (op : CmpOp) (a b : Expr) (t : TE) : Prop :=
  ∀ (pins : List (Addr × Obj)) (s : Shared) (σ : St) (H : Hp) (Q : VK), Inv X pins σ H s → t σ H Q →
    wpAny (model X.prog X.w) X.A (eval a X.env) (fun v s₁ => wpAny (model X.prog X.w) X.A (eval b X.env) (fun u s₂ => wpAny (model X.prog X.w) X.A (compareOp op v u) (EP X pins σ Q) X.xe s₂) X.xe s₁) X.xe s
def tB (t : TE) : TT := fun σ H Q => t σ H fun x H1 => ∃ c, x = .bl c ∧ Q c H1
theorem pt_cmp {op : CmpOp} {t : TE} (h : PC X op a b t) (h1 : behindInMarks op b = false := by first | exact nobehind _ (by decide) (by decide) | rfl) : PT X (.Compare a [op] [b] pos) (tB t) := by
  intro pins s σ H Q I hw
  refine wpAny_isTrue_Compare1 (thn (h pins s σ H _ I hw) fun v s1 h1 => thn h1 fun u s2 h2 => thn h2 fun c s3 ⟨x, H1, I1, r1, q1⟩ => ?_) h1
  obtain ⟨d, rfl, q⟩ := q1
  cases r1
  exact wpAny_truthy_bool ⟨H1, I1, q⟩
theorem pt_val {e : Expr} {t : TE} (h : PE X e t) (he : ∀ whole, isTrue e X.env whole = (do let v ← whole; standAt e.pos; holding [v] (truthy v)) := by intro _; rfl) : PT X e (tB t) := by
  intro pins s σ H Q I hw
  refine isTrue_plain (thn (h pins s σ H _ I hw) fun v s1 ⟨x, H1, I1, r1, q1⟩ => ?_) (he _)
  obtain ⟨d, rfl, q⟩ := q1
  cases r1
  exact wpAny_truthy_bool ⟨H1, I1, q⟩
variable {tA tB' : TT} {rest : List Expr}
def tAnd (t u : TT) : TT := fun σ H Q => t σ H fun c H1 => if c = true then u σ H1 Q else Q false H1
def tOr (t u : TT) : TT := fun σ H Q => t σ H fun c H1 => if c = true then Q true H1 else u σ H1 Q
def tNot (t : TT) : TT := fun σ H Q => t σ H fun c H1 => Q (!c) H1
theorem pw_and1 (ha : PT X a tA) : PW X (.BoolOp .And [a] pos) tA := by
  intro wh pins s σ H Q I h
  refine isTrue_and (thn (ha pins s σ H Q I h) fun c s1 e => ?_)
  cases c with
  | true => exact isTrue_and_nil e
  | false => exact e
theorem pw_or1 (ha : PT X a tA) : PW X (.BoolOp .Or [a] pos) tA := by
  intro wh pins s σ H Q I h
  refine isTrue_or (thn (ha pins s σ H Q I h) fun c s1 e => ?_)
  cases c with
  | false => exact isTrue_or_nil e
  | true => exact e
theorem pw_and (ha : PT X a tA) (hb : PW X (.BoolOp .And (b :: rest) pos) tB') : PW X (.BoolOp .And (a :: b :: rest) pos) (tAnd tA tB') := by
  intro wh pins s σ H Q I h
  refine isTrue_and (thn (ha pins s σ H _ I h) fun c s1 ⟨H1, I1, q1⟩ => ?_)
  cases c with
  | true => exact hb wh pins s1 σ H1 Q I1 q1
  | false => exact ⟨H1, I1, q1⟩
theorem pw_or (ha : PT X a tA) (hb : PW X (.BoolOp .Or (b :: rest) pos) tB') : PW X (.BoolOp .Or (a :: b :: rest) pos) (tOr tA tB') := by
  intro wh pins s σ H Q I h
  refine isTrue_or (thn (ha pins s σ H _ I h) fun c s1 ⟨H1, I1, q1⟩ => ?_)
  cases c with
  | true => exact ⟨H1, I1, q1⟩
  | false => exact hb wh pins s1 σ H1 Q I1 q1
theorem pt_not (ha : PT X a tA) : PT X (.UnaryOp .Not a pos) (tNot tA) := by
  intro pins s σ H Q I h
  exact isTrue_not (ha pins s σ H (fun c H1 => Q (!c) H1) I h)
def tAndV (ta tb : TE) : TE := fun σ H Q => ta σ H fun x H1 => ∃ c, x = .bl c ∧ if c = true then tb σ H1 Q else Q (.bl false) H1
theorem pe_one {op} {t : TE} (h : PE X a t) : PE X (.BoolOp op [a] pos) t := fun pins s σ H Q I hw => BoolOp_one (h pins s σ H Q I hw)
theorem pe_and (ha : PE X a ta) (hb : PE X (.BoolOp .And (b :: rest) pos) tb) : PE X (.BoolOp .And (a :: b :: rest) pos) (tAndV ta tb) := by
  intro pins s σ H Q I h
  refine BoolOp_and (thn (ha pins s σ H _ I h) fun v s1 ⟨x, H1, I1, r1, q1⟩ => ?_)
  obtain ⟨c, rfl, q1⟩ := q1
  cases r1
  refine wpAny_truthy_bool ?_
  cases c with
  | true => exact hb pins s1 σ H1 Q I1 q1
  | false => exact ⟨.bl false, H1, I1, rfl, q1⟩
def tIf (t : TT) (ta tb : TE) : TE := fun σ H Q => t σ H fun c H1 => if c = true then ta σ H1 Q else tb σ H1 Q
theorem pe_ifExp {c : Expr} (hc : PT X c tA) (ha : PE X a ta) (hb : PE X b tb) : PE X (.IfExp c a b pos) (tIf tA ta tb) := by
  intro pins s σ H Q I h
  refine wpAny_IfExp (thn (hc pins s σ H _ I h) fun d s1 ⟨H1, I1, q1⟩ => ?_)
  cases d with
  | true => exact ha pins s1 σ H1 Q I1 q1
  | false => exact hb pins s1 σ H1 Q I1 q1
end
end L2
namespace L2
open PySem PySem.Spec PyProof.Rows
def SqL (K : PySem.W.Frag) (H : Hp) (a : Addr) (xs : List V) : Prop :=
  Rd H a (.lst xs) ∨
    ∃ (o : Obj) (its : Array Value) (n : Nat), K.lookup a = some o ∧ o.cls = .type "list" ∧ o.dict = none ∧ o.data = .seq its n ∧ its.size ≤ sizeLine ∧ Vals xs its.toList
def SqT (K : PySem.W.Frag) (H : Hp) (a : Addr) (xs : List V) : Prop :=
  Rd H a (.tup xs) ∨
    ∃ (o : Obj) (its : Array Value) (n : Nat), K.lookup a = some o ∧ o.cls = .type "tuple" ∧ o.data = .seq its n ∧ its.size ≤ sizeLine ∧ Vals xs its.toList
def absV : Value → Option V
  | .none => some .non
  | .bool b => some (.bl b)
  | .int i _ => some (.int i)
  | .str x _ => some (.str x)
  | .bytes b _ => some (.byt b)
  | .float b _ => some (.flt b)
  | .ref a => some (.ref a)
  | .type n => some (.ty n)
  | _ => none
theorem RelV.abs {x : V} {u : Value} (r : RelV x u) : absV u = some x := by
  cases x with
  | non => cases r; rfl
  | bl _ => cases r; rfl
  | int _ => obtain ⟨t, rfl⟩ := r; rfl
  | str _ => obtain ⟨t, rfl⟩ := r; rfl
  | byt _ => obtain ⟨t, rfl⟩ := r; rfl
  | flt _ => obtain ⟨t, rfl⟩ := r; rfl
  | ref _ => cases r; rfl
  | ty _ => cases r; rfl
theorem RelV.inj {x y : V} {u : Value} (r : RelV x u) (q : RelV y u) : x = y := Option.some.inj (r.abs.symm.trans q.abs)
theorem Vals.inj : ∀ {xs ys : List V} {us : List Value}, Vals xs us → Vals ys us → xs = ys
  | _, _, _, .nil, .nil => rfl
  | _, _, _, .cons r t, .cons r' t' => by rw [r.inj r', Vals.inj t t']
section
variable {X : Cx} {pins : List (Addr × Obj)} {σ : St} {H : Hp} {s : Shared} {a : Addr} {xs ys : List V}
theorem SqL.of {K : PySem.W.Frag} (h : H a = some (.lst xs)) : SqL K H a xs := .inl (.inl h)
theorem SqT.of {K : PySem.W.Frag} (h : H a = some (.tup xs)) : SqT K H a xs := .inl (.inl h)
theorem Inv.list (I : Inv X pins σ H s) (h : SqL X.K H a xs) : ∃ its : List Value, Vals xs its ∧ PlainL s.heap a its.toArray ∧ xs.length ≤ sizeLine := by
  rcases h with h | ⟨o, its, n, hk, hc, hd, hs, hz, r⟩
  · obtain ⟨z, its, n, r, e⟩ := h.ok I.hok
    exact ⟨its, r, ⟨_, n, e, rfl, rfl, rfl⟩, z⟩
  · refine ⟨its.toList, r, ⟨o, n, I.kIn a o hk, hc, hd, by simpa using hs⟩, ?_⟩
    have e := r.length
    simp only [Array.length_toList] at e
    omega
theorem Inv.tuple (I : Inv X pins σ H s) (h : SqT X.K H a xs) : ∃ its : List Value, Vals xs its ∧ IsTup s.heap a its.toArray ∧ xs.length ≤ sizeLine := by
  rcases h with h | ⟨o, its, n, hk, hc, hs, hz, r⟩
  · obtain ⟨z, its, r, p⟩ := h.ok I.hok
    exact ⟨its, r, p, z⟩
  · refine ⟨its.toList, r, ⟨o, I.kIn a o hk, hc, n, by simpa using hs⟩, ?_⟩
    have e := r.length
    simp only [Array.length_toList] at e
    omega
theorem Inv.list_inj (I : Inv X pins σ H s) (h : SqL X.K H a xs) (h' : SqL X.K H a ys) : xs = ys := by
  obtain ⟨its, r, ⟨o, n, e, _, _, d⟩, _⟩ := I.list h
  obtain ⟨its', r', ⟨o', n', e', _, _, d'⟩, _⟩ := I.list h'
  rw [e] at e'; cases e'
  rw [d] at d'
  injection d' with d1 _
  have : its = its' := by simpa using congrArg Array.toList d1
  subst this
  exact r.inj r'
theorem Inv.tuple_inj (I : Inv X pins σ H s) (h : SqT X.K H a xs) (h' : SqT X.K H a ys) : xs = ys := by
  obtain ⟨its, r, ⟨o, e, _, n, d⟩, _⟩ := I.tuple h
  obtain ⟨its', r', ⟨o', e', _, n', d'⟩, _⟩ := I.tuple h'
  rw [e] at e'; cases e'
  rw [d] at d'
  injection d' with d1 _
  have : its = its' := by simpa using congrArg Array.toList d1
  subst this
  exact r.inj r'
end
abbrev Cx.wish (X : Cx) (E : Value → Shared → Prop) : Cx := { X with xe := E }
abbrev Cx.nox (X : Cx) : Cx := X.wish fun _ _ => False
theorem Cx.Ok.wish {X : Cx} (ok : X.Ok) (E : Value → Shared → Prop) : (X.wish E).Ok :=
  ⟨ok.mod, ok.kind, ok.glob, ok.blt, ok.above, ok.inj, ok.has, ok.cab, ok.hd, ok.frames, ok.stk, ok.exf, ok.bs, ok.bsz, ok.noex, ok.exfs, ok.funs, ok.frf⟩
theorem Cx.Ok.unwish {X : Cx} {E : Value → Shared → Prop} (ok : (X.wish E).Ok) : X.Ok :=
  ⟨ok.mod, ok.kind, ok.glob, ok.blt, ok.above, ok.inj, ok.has, ok.cab, ok.hd, ok.frames, ok.stk, ok.exf, ok.bs, ok.bsz, ok.noex, ok.exfs, ok.funs, ok.frf⟩
section
variable {X : Cx} {pins : List (Addr × Obj)} {σ : St} {H : Hp} {s : Shared} {E : Value → Shared → Prop}
theorem Inv.wish (I : Inv X pins σ H s) (E : Value → Shared → Prop) : Inv (X.wish E) pins σ H s := ⟨I.ok.wish E, I.os, I.bare, I.base, I.loc, I.cell, I.free, I.freeC, I.pin, I.hok, I.len⟩
theorem Inv.unwish (I : Inv (X.wish E) pins σ H s) : Inv X pins σ H s := ⟨I.ok.unwish, I.os, I.bare, I.base, I.loc, I.cell, I.free, I.freeC, I.pin, I.hok, I.len⟩
theorem SP.unwish {D : Ends} {f : Flow} {s' : Shared} (h : SP (X.wish E) pins D f s') : SP X pins D f s' := by
  cases f with
  | next => obtain ⟨σ', H', I, q⟩ := h; exact ⟨σ', H', I.unwish, q⟩
  | brk => obtain ⟨σ', H', I, q⟩ := h; exact ⟨σ', H', I.unwish, q⟩
  | cont => obtain ⟨σ', H', I, q⟩ := h; exact ⟨σ', H', I.unwish, q⟩
  | ret u => obtain ⟨v, σ', H', I, r, q⟩ := h; exact ⟨v, σ', H', I.unwish, r, q⟩
theorem PSs.nox {st : List Stmt} {t : TS} (h : PSs X.nox st t) : PSs X st t := fun pins s σ H D I hw =>
  wpAny_mono (h pins s σ H D (I.wish _) hw) (fun _ _ q => q.unwish) fun _ _ z => False.elim z
end
section
variable {X : Cx} {st : Stmt} {rest : List Stmt} {t u : TS} {e : Expr} {te : TE} {pos : Pos}
def tNext : TS := fun D σ H => D.nx σ H
def tSeq (t u : TS) : TS := fun D σ H => t { D with nx := u D } σ H
theorem pss_nil : PSs X [] tNext := fun _ _ σ H _ I h => wpAny_execs_nil ⟨σ, H, I, h⟩
theorem pss_cons (h1 : PS X st t) (h2 : PSs X rest u) : PSs X (st :: rest) (tSeq t u) := by
  intro pins s σ H D I h
  refine wpAny_execs_cons (thn (h1 pins s σ H { D with nx := u D } I h) fun f s1 q => ?_)
  cases f with
  | next =>
    obtain ⟨σ', H', I', q⟩ := q
    exact h2 pins s1 σ' H' D I' q
  | ret v => exact q
  | brk => exact q
  | cont => exact q
theorem pss_one (h1 : PS X st t) : PSs X [st] t := by
  intro pins s σ H D I h
  refine wpAny_execs_cons (thn (h1 pins s σ H D I h) fun f s1 q => ?_)
  cases f with
  | next => exact wpAny_execs_nil q
  | ret v => exact q
  | brk => exact q
  | cont => exact q
theorem Inv.quiet {pins : List (Addr × Obj)} {σ : St} {H : Hp} {s : Shared} (I : Inv X pins σ H s) : interactive X.env = false := by simp [interactive, I.ok.kind]
def tDrop (te : TE) : TS := fun D σ H => te σ H fun _ H1 => D.nx σ H1
theorem ps_expr (he : PE X e te) (hs : swapsWith e none pos.line X.env = pure false := by rfl) : PS X (.Expr e pos) (tDrop te) := by
  intro pins s σ H D I h
  exact wpAny_Expr_any (thn (he pins s σ H _ I h) fun v s1 ⟨x, H1, I1, r1, q1⟩ => ⟨σ, H1, I1, q1⟩) I.quiet hs
def tRet (te : TE) : TS := fun D σ H => te σ H D.rt
theorem ps_ret (he : PE X e te) : PS X (.Return (some e) pos) (tRet te) := by
  intro pins s σ H D I h
  exact wpAny_Return_some (thn (he pins s σ H _ I h) fun v s1 ⟨x, H1, I1, r1, q1⟩ => ⟨x, σ, H1, I1, r1, q1⟩)
def tIfS (c : TT) (t u : TS) : TS := fun D σ H => c σ H fun b H1 => if b = true then t D σ H1 else u D σ H1
theorem ps_if {c : Expr} {a b : List Stmt} {tc : TT} (hc : PT X c tc) (ha : PSs X a t) (hb : PSs X b u) : PS X (.If c a b pos) (tIfS tc t u) := by
  intro pins s σ H D I h
  refine wpAny_If (thn (hc pins s σ H _ I h) fun d s1 ⟨H1, I1, q1⟩ => ?_)
  cases d with
  | true => exact ha pins s1 σ H1 D I1 q1
  | false => exact hb pins s1 σ H1 D I1 q1
def tNever : TS := fun _ _ _ => False
theorem pss_never {sts : List Stmt} : PSs X sts tNever := fun _ _ _ _ _ _ h => h.elim
end
abbrev TG := V → St → Hp → (St → Hp → Prop) → Prop
abbrev TGs := List V → St → Hp → (St → Hp → Prop) → Prop
def PG (X : Cx) (target : Expr) (t : TG) : Prop :=
  ∀ (pins : List (Addr × Obj)) (s : Shared) (σ : St) (H : Hp) (v : V) (u : Value) (Q : St → Hp → Prop), Inv X pins σ H s → RelV v u → t v σ H Q →
    wpAny (model X.prog X.w) X.A (assign target X.env u) (fun _ s' => ∃ σ' H', Inv X pins σ' H' s' ∧ Q σ' H') X.xe s
def PGs (X : Cx) (ts : List Expr) (t : TGs) : Prop :=
  ∀ (pins : List (Addr × Obj)) (s : Shared) (σ : St) (H : Hp) (vs : List V) (us : List Value) (Q : St → Hp → Prop), Inv X pins σ H s → Vals vs us → t vs σ H Q →
    wpAny (model X.prog X.w) X.A (assignInOrder ((assignEach ts X.env).map (·.2)) us) (fun _ s' => ∃ σ' H', Inv X pins σ' H' s' ∧ Q σ' H') X.xe s
abbrev TSet := V → V → V → Hp → (Hp → Prop) → Prop
def PSet (X : Cx) (t : TSet) : Prop :=
  ∀ (pins : List (Addr × Obj)) (s : Shared) (σ : St) (H : Hp) (o i v : V) (ov iv u : Value) (Q : Hp → Prop), Inv X pins σ H s → RelV o ov → RelV i iv → RelV v u → t o i v H Q →
    wpAny (model X.prog X.w) X.A (setItem ov iv u) (fun _ s' => ∃ H', Inv X pins σ H' s' ∧ Q H') X.xe s
abbrev TIp := V → V → Hp → VK → Prop
def PIp (X : Cx) (op : Operator) (t : TIp) : Prop :=
  ∀ (pins : List (Addr × Obj)) (s : Shared) (σ : St) (H : Hp) (x y : V) (v u : Value) (Q : VK), Inv X pins σ H s → RelV x v → RelV y u → t x y H Q →
    wpAny (model X.prog X.w) X.A (inplaceOp op v u) (EP X pins σ Q) X.xe s
section
variable {X : Cx} {pos : Pos}
def gName (i : Nat) : TG := fun v σ H Q => Q (σ.set i (some v)) H
theorem pg_name {i : Nat} {x : Str} (hN : X.N.Nodup) (hi : X.N[i]? = some x) (hx : Loc X.env.scope x) (hf : X.fn x = true ∨ X.env.scope.names.lookup x = some .local := by first | exact .inl rfl | exact .inr rfl | assumption) : PG X (.Name x pos) (gName i) := by
  intro pins s σ H v u Q I r h
  exact wpAny_assign_Name (store_ok I hN hi hx r (fun s' I' => ⟨_, H, I', h⟩) hf)
def gNil : TGs := fun vs σ H Q => vs = [] ∧ Q σ H
def gCons (t : TG) (u : TGs) : TGs := fun vs σ H Q => ∃ v r, vs = v :: r ∧ t v σ H fun σ' H' => u r σ' H' Q
theorem pgs_nil : PGs X [] gNil := by
  intro pins s σ H vs us Q I r h
  obtain ⟨e, h⟩ := h
  subst e
  cases r
  exact assignInOrder_nil ⟨σ, H, I, h⟩
theorem pgs_cons {e : Expr} {es : List Expr} {t : TG} {u : TGs} (h1 : PG X e t) (h2 : PGs X es u)
    (hs : (assignEach (e :: es) X.env).map (·.2) = assign e X.env :: (assignEach es X.env).map (·.2) := by rfl) : PGs X (e :: es) (gCons t u) := by
  intro pins s σ H vs us Q I r h
  obtain ⟨v, vr, e1, h⟩ := h
  subst e1
  cases r with
  | cons r rr =>
    rw [hs]
    refine assignInOrder_cons (thn (h1 pins s σ H _ _ _ I r h) fun _ s1 ⟨σ1, H1, I1, q1⟩ => ?_)
    exact h2 pins s1 σ1 H1 _ _ Q I1 rr q1
def gTup (K : PySem.W.Frag) (n : Nat) (t : TGs) : TG := fun v σ H Q => ∃ a xs, v = .ref a ∧ SqT K H a xs ∧ xs.length = n ∧ t xs σ H Q
theorem pg_tup {es : List Expr} {k : Nat} {t : TGs} {n : Nat} (hc : X.calm = true) (h : PGs X es t)
    (hn : (assignEach es X.env).length = n := by rfl) (hst : (assignEach es X.env).findIdx? (·.1) = none := by rfl) : PG X (.Tuple es k pos) (gTup X.K n t) := by
  intro pins s σ H v u Q I r hw
  obtain ⟨a, xs, e1, hq, hl, hw⟩ := hw
  subst e1
  cases r
  obtain ⟨its, rv, ht, hz⟩ := I.tuple hq
  refine assign_Tuple_tuple (I.ok.hd hc) ht (by simp [hn, ← hl, rv.length]) hst fun h' hx => ?_
  have I1 : Inv X pins σ H { s with heap := h' } := I.kept (t' := s.toks) fun b o e => hx b o (Nat.ne_of_lt (Heap.lt_size e)) e
  exact h pins _ σ H xs _ Q I1 (by simpa using rv) hw
def gSub (to ti : TE) (t : TSet) : TG := fun v σ H Q => to σ H fun o H1 => ti σ H1 fun i H2 => t o i v H2 fun H3 => Q σ H3
theorem pg_sub {o i : Expr} {to ti : TE} {t : TSet} (ho : PE X o to) (hi : PE X i ti) (hs : PSet X t)
    (ha : ∀ v, assign (.Subscript o i pos) X.env v = (do
      let ov ← holding [v] (eval o X.env)
      let iv ← holding [v, ov] (eval i X.env)
      standAt pos
      holding [v, ov, iv] (setItem ov iv v)
      release [v, ov, iv] []) := by intro _; rfl) : PG X (.Subscript o i pos) (gSub to ti t) := by
  intro pins s σ H v u Q I r h
  rw [ha]
  refine wpAny_bind (wpAny_holding (thn (ho pins s σ H _ I h) fun ov s1 ⟨x, H1, I1, r1, q1⟩ => ?_))
  refine wpAny_bind (wpAny_holding (thn (hi pins s1 σ H1 _ I1 q1) fun iv s2 ⟨y, H2, I2, r2, q2⟩ => ?_))
  refine wpAny_bind (wpAny_standAt (wpAny_bind (wpAny_holding (thn (hs pins s2 σ H2 x y v ov iv u _ I2 r1 r2 r q2) fun _ s3 ⟨H3, I3, q3⟩ => ?_))))
  exact wpAny_release ⟨σ, H3, I3, q3⟩
def tAsg (te : TE) (g : TG) : TS := fun D σ H => te σ H fun x H1 => g x σ H1 D.nx
theorem ps_asg {tg e : Expr} {te : TE} {g : TG} (he : PE X e te) (hg : PG X tg g) (hs : swapsWithSole [tg] e pos.line X.env = pure false := by rfl) (hw : swappedStores [tg] e X.env = pure none := by rfl)
    (h1 : (assignEach [tg] X.env).map (·.2) = [assign tg X.env] := by rfl) : PS X (.Assign [tg] e pos) (tAsg te g) := by
  intro pins s σ H D I h
  refine wpAny_Assign_stores (thn (he pins s σ H _ I h) fun v s1 ⟨x, H1, I1, r1, q1⟩ => ?_) hs hw
  rw [h1]
  exact thn (hg pins s1 σ H1 x v _ I1 r1 q1) fun _ s2 q => q
theorem ps_set {i : Nat} {x : Str} {e : Expr} {te : TE} {pos' : Pos} (hN : X.N.Nodup) (hi : X.N[i]? = some x) (hx : Loc X.env.scope x) (he : PE X e te) (hs : swapsWith e (some (.Name x pos')) pos.line X.env = pure false := by rfl) (hf : X.fn x = true ∨ X.env.scope.names.lookup x = some .local := by first | exact .inl rfl | exact .inr rfl | assumption) :
    PS X (.Assign [.Name x pos'] e pos) (tAsg te (gName i)) := by
  intro pins s σ H D I h
  refine wpAny_Assign_Name (thn (he pins s σ H _ I h) fun v s1 ⟨y, H1, I1, r1, q1⟩ => ?_) hs
  exact store_ok I1 hN hi hx r1 (fun s2 I2 => ⟨_, H1, I2, q1⟩) hf
def tPar (i j : Nat) (ta : TA) : TS := fun D σ H => ta σ H fun vs H1 => ∃ v w, vs = [v, w] ∧ D.nx ((σ.set i (some v)).set j (some w)) H1
theorem ps_par {i j : Nat} {x y : Str} {a b : Expr} {ta : TA} {px py pt : Pos} {kt k2 pt2} (hc : X.calm = true) (hN : X.N.Nodup) (hi : X.N[i]? = some x) (hj : X.N[j]? = some y) (hij : i ≠ j)
    (hx : X.env.scope.names.lookup x = some .local) (hy : X.env.scope.names.lookup y = some .local) (ha : PA X [a, b] ta)
    (hw : swappedStores [.Tuple [.Name x px, .Name y py] kt pt] (.Tuple [a, b] k2 pt2) X.env = pure (some [x, y]))
    (hs : swapsWithSole [.Tuple [.Name x px, .Name y py] kt pt] (.Tuple [a, b] k2 pt2) pos.line X.env = pure false := by rfl) :
    PS X (.Assign [.Tuple [.Name x px, .Name y py] kt pt] (.Tuple [a, b] k2 pt2) pos) (tPar i j ta) := by
  intro pins s σ H D I h
  rw [exec_Assign_arm]
  refine wpAny_bind (wpAny_standAt ?_)
  rw [hs]
  refine wpAny_bind (wpAny_pure ?_)
  rw [if_neg (by decide)]
  refine wpAny_bind (Tuple_ (thn (ha _ pins s σ H _ I h) fun us s1 ⟨vs, H1, I1, r1, q1⟩ => ?_))
  obtain ⟨v, w, e1, q1⟩ := q1
  subst e1
  obtain ⟨u1, u2, rfl, rv, rw'⟩ : ∃ u1 u2, us = [u1, u2] ∧ RelV v u1 ∧ RelV w u2 := by
    cases r1 with
    | cons p q =>
      cases q with
      | cons p' q' =>
        cases q'
        exact ⟨_, _, rfl, p, p'⟩
  refine wpAny_newObj_type ?_ (by show 2 ≤ sizeLine; decide)
  have I2 : Inv X pins σ H1 { s1 with heap := s1.heap.push { cls := .type "tuple", data := .seq [u1, u2].toArray } } := I1.kept (t' := s1.toks) fun b o e => Heap.get?_push_of_some _ e
  rw [hw]
  refine wpAny_bind (wpAny_pure ?_)
  show wpAny (model X.prog X.w) X.A (do rule "assign.swapped-stores"; let items ← unpackItems (.ref s1.heap.objs.size) 2 none; assignInOrder [fun v => bindName X.env y v, fun v => bindName X.env x v] items.reverse; pure Flow.next) _ _ _
  refine wpAny_bind (wpAny_rule (wpAny_bind (unpackItems_tuple (items := #[u1, u2]) (I.ok.hd hc) (IsTup.new s1.heap _) fun h' hx' => ?_)))
  have I3 := I2.kept (h' := h') (t' := s1.toks) fun b o e => hx' b o (Nat.ne_of_lt (Heap.lt_size e)) e
  show wpAny _ _ (assignInOrder [fun v => bindName X.env y v, fun v => bindName X.env x v] [u2, u1] >>= fun _ => pure Flow.next) _ _ _
  refine wpAny_bind (assignInOrder_cons (wpAny_bindName (store_ok I3 hN hj (.inl hy) rw' (fun s2 I4 => ?_) (.inr hy))))
  refine assignInOrder_cons (wpAny_bindName (store_ok I4 hN hi (.inl hx) rv (fun s3 I5 => assignInOrder_nil (wpAny_pure ?_)) (.inr hx)))
  rw [List.set_comm _ _ (Ne.symm hij)] at I5
  exact ⟨_, H1, I5, q1⟩
def tAug (i : Nat) (te : TE) (ti : TIp) : TS := fun D σ H => ∃ x, σ[i]? = some (some x) ∧ te σ H fun y H1 => ti x y H1 fun z H2 => D.nx (σ.set i (some z)) H2
theorem ps_aug {i : Nat} {x : Str} {e : Expr} {te : TE} {op : Operator} {ti : TIp} {pos' : Pos} (hN : X.N.Nodup) (hi : X.N[i]? = some x) (hx : Loc X.env.scope x) (he : PE X e te) (ho : PIp X op ti) (hf : X.fn x = true ∨ X.env.scope.names.lookup x = some .local := by first | exact .inl rfl | exact .inr rfl | assumption) :
    PS X (.AugAssign (.Name x pos') op e pos) (tAug i te ti) := by
  intro pins s σ H D I h
  obtain ⟨v, e1, h⟩ := h
  obtain ⟨m, hn, hl⟩ := I.loc
  have vis : Vis X.env.scope x := by rcases hx with k | k; exact .inl k; exact .inr (.inl k)
  obtain ⟨u, r, l⟩ := hl i x v hi e1 vis
  refine wpAny_AugAssign_Name ?_
  have go : wpAny (model X.prog X.w) X.A (eval e X.env) (fun w s₂ => wpAny (model X.prog X.w) X.A (inplaceOp op u w) (fun r s₃ => wpAny (model X.prog X.w) X.A (storeName X.env x r) (fun _ => SP X pins D .next) X.xe s₃) X.xe s₂) X.xe s := by
    refine thn (he pins s σ H _ I h) fun w s1 ⟨y, H1, I1, r1, q1⟩ => ?_
    refine thn (ho pins s1 σ H1 v y u w _ I1 r r1 q1) fun z s2 ⟨zv, H2, I2, r2, q2⟩ => ?_
    exact store_ok I2 hN hi hx r2 (fun s3 I3 => ⟨_, H2, I3, q2⟩) hf
  rcases l with ⟨hk, hm⟩ | ⟨hk, c, hc, hcell⟩
  · exact wpAny_loadName_local I.ok.kind hk hn hm go
  · rcases hk with hk | hk
    · exact wpAny_loadName_cell I.ok.kind hk hc hcell go
    · rcases hx with k | k
      · have : X.env.scope.names.lookup x = some .free := hk
        rw [k] at this; cases this
      · have : X.env.scope.names.lookup x = some .free := hk
        rw [k] at this; cases this
def ipI (f : Int → Int → Int) : TIp := fun x y H Q => ∃ i j, x = .int i ∧ y = .int j ∧ Q (.int (f i j)) H
theorem ip_add : PIp X .Add (ipI fun i j => i + j) := by
  intro pins s σ H x y v u Q I r1 r2 h
  obtain ⟨i, j, e1, e2, q⟩ := h
  subst e1; subst e2
  obtain ⟨t, rfl⟩ := r1
  obtain ⟨t', rfl⟩ := r2
  exact iadd_int ⟨.int _, H, I.tok _, ⟨_, rfl⟩, q⟩
end
section
variable {X : Cx} {pos : Pos}
def tWhile (c : TT) (tb : TS) : TS := fun D σ H => ∃ W : Nat → St → Hp → Prop, (∃ m, W m σ H) ∧ ∀ m σ H, W m σ H →
  c σ H fun b H1 => if b = true then ∃ N : St → Hp → Prop, (∀ σ' H', N σ' H' → ∃ m', m' < m ∧ W m' σ' H') ∧ tb { D with nx := N, ct := N, bk := D.nx } σ H1 else D.nx σ H1
theorem ps_while {c : Expr} {body : List Stmt} {tc : TT} {tb : TS} (hp : PassesOwn (model X.prog X.w) X.A X.env X.xe) (hc : PT X c tc) (hb : PSs X body tb) : PS X (.While c body [] pos) (tWhile tc tb) := by
  intro pins s σ H D I h
  obtain ⟨W, ⟨m0, w0⟩, turn⟩ := h
  refine wpAny_While (codeAny_whileLoop (fun n s' => ∃ σ' H', Inv X pins σ' H' s' ∧ W n σ' H') ?_ m0 ⟨σ, H, I, w0⟩)
  rintro n s1 ⟨σ1, H1, I1, w1⟩
  refine wpAny_passesOwn hp (thn (hc pins s1 σ1 H1 _ I1 (turn n σ1 H1 w1)) fun b s2 ⟨H2, I2, q2⟩ => ?_)
  cases b with
  | true =>
    obtain ⟨N, hN, q2⟩ := q2
    rw [if_pos rfl]
    refine wpAny_passesOwn hp (thn (hb pins s2 σ1 H2 _ I2 q2) fun f s3 q3 => ?_)
    cases f with
    | next =>
      obtain ⟨σ3, H3, I3, n3⟩ := q3
      obtain ⟨m', hm, w3⟩ := hN σ3 H3 n3
      exact ⟨m', hm, σ3, H3, I3, w3⟩
    | cont =>
      obtain ⟨σ3, H3, I3, n3⟩ := q3
      obtain ⟨m', hm, w3⟩ := hN σ3 H3 n3
      exact ⟨m', hm, σ3, H3, I3, w3⟩
    | brk => exact q3
    | ret v => exact q3
  | false =>
    rw [if_neg Bool.false_ne_true]
    exact wpAny_execs_nil ⟨σ1, H2, I2, q2⟩
end
structure It where
  go : Nat → Hp → Prop
  yld : Nat → Hp → V → Hp → Prop
  stop : Nat → Hp → Prop
def FpOk (X : Cx) (pins : List (Addr × Obj)) (H : Hp) (b : Addr) : Prop :=
  H b = none ∧ b ≠ X.env.locals ∧ b ∉ X.fs ∧ (b ∈ X.ex ∨ X.s₀.heap.objs.size ≤ b) ∧ (∀ x c, X.env.cells.lookup x = some c → c ≠ b) ∧ ∀ p ∈ X.pn ++ pins, p.1 ≠ b
theorem Inv.fpOk {X : Cx} {pins : List (Addr × Obj)} {σ : St} {H H' : Hp} {s : Shared} {b : Addr} (I : Inv X pins σ H s) (hb : s.heap.objs.size ≤ b) (hn : H' b = none) : FpOk X pins H' b := by
  refine ⟨hn, Nat.ne_of_gt (Nat.lt_of_lt_of_le I.lt hb), I.nofs hb, .inr (Nat.le_trans I.sz hb), fun x c e z => ?_, fun p hp z => ?_⟩
  · obtain ⟨v, q⟩ := I.cell x c e
    exact absurd (Nat.lt_of_lt_of_le q.lt (by rw [z]; exact hb)) (Nat.lt_irrefl _)
  · exact absurd (Nat.lt_of_lt_of_le (Heap.lt_size (I.pin p hp).1) (by rw [z]; exact hb)) (Nat.lt_irrefl _)
structure Turn (P : Program) (w : World) (K : PySem.W.Frag) (tg : Expr) (J : It) (fp : List Addr) (it : Addr) (tn : Nat → Heap → Prop) : Prop where
  mem : it ∈ fp
  obj : ∀ i h, tn i h → ∀ b ∈ fp, ∃ o, h.get? b = some o ∧ ∀ v, o.data ≠ .cell v
  keep : ∀ i h h', tn i h → (∀ b ∈ fp, ∀ o, h.get? b = some o → h'.get? b = some o) → tn i h'
  item : ∀ (X : Cx), X.prog = P → X.w = w → X.K = K → X.calm = true → ∀ (i : Nat) (pins : List (Addr × Obj)) (s : Shared) (σ : St) (H : Hp) (E : Value → Shared → Prop), Inv X pins σ H s → (∀ b ∈ fp, FpOk X pins H b) → tn i s.heap → J.go i H →
    wpAny (model P w) X.A (pyNext (.ref it)) (fun r s1 => ∃ u, r = some u ∧
      wpAny (model P w) X.A (letOwnedTupleGo tg (.ref it) u) (fun _ s2 => ∃ x H', Inv X pins σ H' s2 ∧ RelV x u ∧ J.yld i H x H' ∧ tn (i + 1) s2.heap ∧ ∀ b ∈ fp, H' b = none) E s1) E s
  done : ∀ (X : Cx), X.prog = P → X.w = w → X.K = K → X.calm = true → ∀ (i : Nat) (pins : List (Addr × Obj)) (s : Shared) (σ : St) (H : Hp) (E : Value → Shared → Prop), Inv X pins σ H s → (∀ b ∈ fp, FpOk X pins H b) → tn i s.heap → J.stop i H →
    wpAny (model P w) X.A (pyNext (.ref it)) (fun r s1 => r = none ∧ Inv X pins σ H s1) E s
  self : ∀ (A : Around) (i : Nat) (s : Shared) (Q : Value → Shared → Prop) (E : Value → Shared → Prop), tn i s.heap → Q (.ref it) s → wpAny (model P w) A (pyIter (.ref it)) Q E s
abbrev TI := St → Hp → (It → Hp → Prop) → Prop
def PIE (X : Cx) (pins : List (Addr × Obj)) (σ : St) (tg : Expr) (R : It → Hp → Prop) (itv : Value) (s2 : Shared) : Prop :=
  ∃ (it : Addr) (fp : List Addr) (tn : Nat → Heap → Prop) (J : It) (H' : Hp), itv = .ref it ∧ Inv X pins σ H' s2 ∧ Turn X.prog X.w X.K tg J fp it tn ∧ tn 0 s2.heap ∧ (∀ b ∈ fp, FpOk X pins H' b) ∧ R J H'
def PI (X : Cx) (tg iter : Expr) (wi : TI) : Prop :=
  ∀ (pins : List (Addr × Obj)) (s : Shared) (σ : St) (H : Hp) (R : It → Hp → Prop), Inv X pins σ H s → wi σ H R →
    wpAny (model X.prog X.w) X.A (eval iter X.env) (fun v s1 => wpAny (model X.prog X.w) X.A (pyIter v) (PIE X pins σ tg R) X.xe s1) X.xe s
theorem go_of {M : Model} {A : Around} {E : Value → Shared → Prop} {s : Shared} {tg : Expr} {it : Addr} {u : Value} {o : Obj} {n : String} {vs : Array Value} {Q : Unit → Shared → Prop} (ho : s.heap.get? it = some o) (hc : o.cls = .type n) (hd : o.data = .fields vs)
    (hn : ["enumerate", "zip", "dict_itemiterator", "dict_reverseitemiterator", "odict_iterator", "itertools.zip_longest", "itertools.pairwise"].contains n = false) (hQ : Q () s) : wpAny M A (letOwnedTupleGo tg (.ref it) u) Q E s := by
  unfold letOwnedTupleGo
  cases tg <;> first
    | exact wpAny_pure hQ
    | (cases u <;> first
        | exact wpAny_pure hQ
        | (refine wpAny_bind (wpAny_load ho ?_)
           rw [hc, hd]
           show wpAny M A (if (["enumerate", "zip", "dict_itemiterator", "dict_reverseitemiterator", "odict_iterator", "itertools.zip_longest", "itertools.pairwise"].contains n && vs[0]? == some (rawInt _)) = true then _ else _) Q E s
           rw [if_neg (by intro h; rw [hn, Bool.false_and] at h; cases h)]
           exact wpAny_pure hQ))
def Itl (K : PySem.W.Frag) (a : Addr) : It :=
  ⟨fun i H => ∃ xs x, SqL K H a xs ∧ xs[i]? = some x, fun i H x H' => H' = H ∧ ∀ xs, SqL K H a xs → xs[i]? = some x, fun i H => ∃ xs, SqL K H a xs ∧ xs.length ≤ i⟩
def Itt (K : PySem.W.Frag) (a : Addr) : It :=
  ⟨fun i H => ∃ xs x, SqT K H a xs ∧ xs[i]? = some x, fun i H x H' => H' = H ∧ ∀ xs, SqT K H a xs → xs[i]? = some x, fun i H => ∃ xs, SqT K H a xs ∧ xs.length ≤ i⟩
def Itr (lo : Int) (n : Nat) : It := ⟨fun i _ => i < n, fun i H x H' => H' = H ∧ x = .int (lo + i), fun i _ => n ≤ i⟩
theorem turn_list {P : Program} {w : World} {K : PySem.W.Frag} {tg : Expr} (a it : Addr) : Turn P w K tg (Itl K a) [it] it (fun i h => h.IsListIter it a i) where
  mem := by simp
  obj := fun i h st b hb => by
    have e : b = it := by simpa using hb
    subst e
    obtain ⟨o, e, c, d⟩ := st
    exact ⟨o, e, fun v z => by rw [d] at z; cases z⟩
  keep := fun i h h' st k => st.at fun o e => k it (by simp) o e
  item := by
    intro X hP hw hK hc i pins s σ H E I hf st hg
    subst hP hw hK
    obtain ⟨xs, x, hq, hx⟩ := hg
    obtain ⟨its, rv, p, hz⟩ := I.list hq
    obtain ⟨u, hu, ru⟩ := rv.get hx
    obtain ⟨f0, f1, f2, f3, f4, f5⟩ := hf it (by simp)
    refine wpAny_pyNext_list_item st p.isList (x := u) (by simpa using hu) fun h' st' sb => ?_
    have I1 : Inv X pins σ H { s with heap := h' } := I.turned (t' := s.toks) (fun b o hb e => (sb.2 b hb).trans e) f0 f1 f3 f4 f5
    obtain ⟨o, e, c, d⟩ := id st'
    exact ⟨u, rfl, go_of (s := { s with heap := h' }) e c d (by decide) ⟨x, H, I1, ru, ⟨rfl, fun ys hy => by rw [I.list_inj hy hq]; exact hx⟩, st', fun b hb => (hf b hb).1⟩⟩
  done := by
    intro X hP hw hK hc i pins s σ H E I hf st hg
    subst hP hw hK
    obtain ⟨xs, hq, hx⟩ := hg
    obtain ⟨its, rv, p, hz⟩ := I.list hq
    obtain ⟨f0, f1, f2, f3, f4, f5⟩ := hf it (by simp)
    have hl := rv.length
    exact wpAny_pyNext_list_end (I.ok.hd hc) st p.isList (by simp; omega) fun h' eb => ⟨rfl, I.turned (t' := s.toks) (fun b o hb e => eb b o hb e) f0 f1 f3 f4 f5⟩
  self := fun _ _ _ _ _ st h => wpAny_pyIter_listiter st h
theorem turn_tuple {P : Program} {w : World} {K : PySem.W.Frag} {tg : Expr} (a it : Addr) : Turn P w K tg (Itt K a) [it] it (fun i h => h.IsTupleIter it a i) where
  mem := by simp
  obj := fun i h st b hb => by
    have e : b = it := by simpa using hb
    subst e
    obtain ⟨o, e, c, d⟩ := st
    exact ⟨o, e, fun v z => by rw [d] at z; cases z⟩
  keep := fun i h h' st k => st.at fun o e => k it (by simp) o e
  item := by
    intro X hP hw hK hc i pins s σ H E I hf st hg
    subst hP hw hK
    obtain ⟨xs, x, hq, hx⟩ := hg
    obtain ⟨its, rv, p, hz⟩ := I.tuple hq
    obtain ⟨u, hu, ru⟩ := rv.get hx
    obtain ⟨f0, f1, f2, f3, f4, f5⟩ := hf it (by simp)
    refine wpAny_pyNext_tuple_item st (show s.heap.IsTuple a its.toArray from p) (x := u) (by simpa using hu) fun h' st' sb => ?_
    have I1 : Inv X pins σ H { s with heap := h' } := I.turned (t' := s.toks) (fun b o hb e => (sb.2 b hb).trans e) f0 f1 f3 f4 f5
    obtain ⟨o, e, c, d⟩ := id st'
    exact ⟨u, rfl, go_of (s := { s with heap := h' }) e c d (by decide) ⟨x, H, I1, ru, ⟨rfl, fun ys hy => by rw [I.tuple_inj hy hq]; exact hx⟩, st', fun b hb => (hf b hb).1⟩⟩
  done := by
    intro X hP hw hK hc i pins s σ H E I hf st hg
    subst hP hw hK
    obtain ⟨xs, hq, hx⟩ := hg
    obtain ⟨its, rv, p, hz⟩ := I.tuple hq
    obtain ⟨f0, f1, f2, f3, f4, f5⟩ := hf it (by simp)
    have hl := rv.length
    exact wpAny_pyNext_tuple_end (I.ok.hd hc) st (show s.heap.IsTuple a its.toArray from p) (by simp; omega) fun h' eb => ⟨rfl, I.turned (t' := s.toks) (fun b o hb e => eb b o hb e) f0 f1 f3 f4 f5⟩
  self := fun _ _ _ _ _ st h => wpAny_pyIter_tupleiter st h
theorem turn_range {P : Program} {w : World} {K : PySem.W.Frag} {tg : Expr} (it : Addr) (lo : Int) (n : Nat) : Turn P w K tg (Itr lo n) [it] it (fun i h => IsRangeIter h it (lo + (i : Nat) * 1) ((n : Int) - (i : Nat)) 1) where
  mem := by simp
  obj := fun i h st b hb => by
    have e : b = it := by simpa using hb
    subst e
    exact ⟨_, st, fun v z => by
      have z' : Data.fields _ = Data.cell v := z
      cases z'⟩
  keep := fun i h h' st k => k it (by simp) _ st
  item := by
    intro X hP hw hK hc i pins s σ H E I hf st hg
    subst hP hw hK
    obtain ⟨f0, f1, f2, f3, f4, f5⟩ := hf it (by simp)
    have W := Walks.range (prog := X.prog) (w := X.w) (I.ok.hd hc) it lo 1 n
    refine W.item i s _ _ hg st fun v h' tk hv st' kk => ?_
    obtain ⟨t, rfl⟩ := hv
    have I1 : Inv X pins σ H { s with heap := h', toks := tk } := I.turned (fun b o hb e => kk b o (by simpa using hb) e) f0 f1 f3 f4 f5
    refine ⟨_, rfl, go_of (s := { s with heap := h', toks := tk }) (n := "range_iterator") st' rfl rfl (by decide) ⟨.int (lo + i), H, I1, ⟨t, ?_⟩, ⟨rfl, rfl⟩, st', fun b hb => (hf b hb).1⟩⟩
    rw [Int.mul_one]
  done := by
    intro X hP hw hK hc i pins s σ H E I hf st hg
    subst hP hw hK
    obtain ⟨f0, f1, f2, f3, f4, f5⟩ := hf it (by simp)
    exact wpAny_pyNext_range_end (I.ok.hd hc) st (by have : n ≤ i := hg; omega) fun h' eb => ⟨rfl, I.turned (t' := s.toks) (fun b o hb e => eb b o hb e) f0 f1 f3 f4 f5⟩
  self := fun _ _ _ _ _ st h => wpAny_pyIter_rangeiter st h
end L2
namespace L2
open PySem PySem.Spec PyProof.Rows
section
variable {X : Cx} {tg : Expr}
def iList (K : PySem.W.Frag) (tl : TE) : TI := fun σ H R => tl σ H fun x H1 => ∃ a, x = .ref a ∧ (∃ xs, SqL K H1 a xs) ∧ R (Itl K a) H1
def iTup (K : PySem.W.Frag) (tl : TE) : TI := fun σ H R => tl σ H fun x H1 => ∃ a, x = .ref a ∧ (∃ xs, SqT K H1 a xs) ∧ R (Itt K a) H1
theorem pi_list {l : Expr} {tl : TE} (hl : PE X l tl) : PI X tg l (iList X.K tl) := by
  intro pins s σ H R I h
  refine thn (hl pins s σ H _ I h) fun v s1 ⟨x, H1, I1, r1, q1⟩ => ?_
  obtain ⟨a, e, ⟨xs, hq⟩, q⟩ := q1
  subst e
  cases r1
  obtain ⟨its, rv, p, hz⟩ := I1.list hq
  refine wpAny_pyIter_list p.isList ?_
  refine ⟨s1.heap.objs.size, [s1.heap.objs.size], _, _, H1, rfl, I1.kept (t' := s1.toks) fun b o e => Heap.get?_push_of_some _ e, turn_list a _, ⟨_, Heap.get?_push_size _ rfl, rfl, rfl⟩, fun b hb => ?_, q⟩
  have e : b = s1.heap.objs.size := by simpa using hb
  subst e
  exact I1.fpOk (Nat.le_refl _) (I1.hok.fresh (Nat.le_refl _))
theorem pi_tup {l : Expr} {tl : TE} (hl : PE X l tl) : PI X tg l (iTup X.K tl) := by
  intro pins s σ H R I h
  refine thn (hl pins s σ H _ I h) fun v s1 ⟨x, H1, I1, r1, q1⟩ => ?_
  obtain ⟨a, e, ⟨xs, hq⟩, q⟩ := q1
  subst e
  cases r1
  obtain ⟨its, rv, p, hz⟩ := I1.tuple hq
  refine wpAny_pyIter_tuple (show s1.heap.IsTuple a its.toArray from p) ?_
  refine ⟨s1.heap.objs.size, [s1.heap.objs.size], _, _, H1, rfl, I1.kept (t' := s1.toks) fun b o e => Heap.get?_push_of_some _ e, turn_tuple a _, ⟨_, Heap.get?_push_size _ rfl, rfl, rfl⟩, fun b hb => ?_, q⟩
  have e : b = s1.heap.objs.size := by simpa using hb
  subst e
  exact I1.fpOk (Nat.le_refl _) (I1.hok.fresh (Nat.le_refl _))
theorem range_it {pins : List (Addr × Obj)} {σ : St} {H : Hp} {s : Shared} {R : It → Hp → Prop} {E : Value → Shared → Prop} {lo hi : Int} {t u v : Tok} {tk : Nat} (I : Inv X pins σ H s) (h1 : -(2 ^ 62) ≤ lo) (h2 : lo < 2 ^ 62) (h3 : -(2 ^ 62) ≤ hi) (h4 : hi < 2 ^ 62)
    (q : R (Itr lo (hi - lo).toNat) H) : wpAny (model X.prog X.w) X.A (pyIter (.ref s.heap.objs.size)) (PIE X pins σ tg R) E { s with heap := s.heap.push { cls := .type "range", data := .fields #[.int lo t, .int hi u, .int 1 v] }, toks := tk } := by
  refine wpAny_pyIter_range (IsRange.new ..) (small_one h1 h2 h3 h4) ?_
  have I1 : Inv X pins σ H { s with heap := s.heap.push { cls := .type "range", data := .fields #[.int lo t, .int hi u, .int 1 v] }, toks := tk } := I.kept fun b o e => Heap.get?_push_of_some _ e
  refine ⟨(s.heap.push { cls := .type "range", data := .fields #[.int lo t, .int hi u, .int 1 v] }).objs.size, [(s.heap.push { cls := .type "range", data := .fields #[.int lo t, .int hi u, .int 1 v] }).objs.size], _, _, H, rfl,
    I1.kept (t' := tk) fun b o e => Heap.get?_push_of_some _ e, turn_range _ lo (hi - lo).toNat, ?_, fun b hb => ?_, q⟩
  · have e1 : lo + ((0 : Nat) : Int) * 1 = lo := by simp
    have e2 : (((hi - lo).toNat : Nat) : Int) - ((0 : Nat) : Int) = Builtin.Range.rangeSize lo hi 1 := by rw [rangeSize_one]; split <;> omega
    show IsRangeIter _ _ (lo + ((0 : Nat) : Int) * 1) ((((hi - lo).toNat : Nat) : Int) - ((0 : Nat) : Int)) 1
    rw [e1, e2]
    exact Heap.get?_push_size _ rfl
  · have e : b = (s.heap.push { cls := .type "range", data := .fields #[.int lo t, .int hi u, .int 1 v] }).objs.size := by simpa using hb
    subst e
    exact I1.fpOk (Nat.le_refl _) (I1.hok.fresh (Nat.le_refl _))
def iRng1 (ta : TA) : TI := fun σ H R => ta σ H fun vs H1 => ∃ j : Int, vs = [.int j] ∧ -(2 ^ 62) ≤ j ∧ j < 2 ^ 62 ∧ R (Itr 0 j.toNat) H1
def iRng2 (ta : TA) : TI := fun σ H R => ta σ H fun vs H1 => ∃ i j : Int, vs = [.int i, .int j] ∧ (-(2 ^ 62) ≤ i ∧ i < 2 ^ 62 ∧ -(2 ^ 62) ≤ j ∧ j < 2 ^ 62) ∧ R (Itr i (j - i).toNat) H1
theorem pi_range1 {a : Expr} {ta : TA} {p pos : Pos} (hg : Gl X "range") (hm : X.mg "range" = none) (ha : PA X [a] ta) (hs : starEach [a] X.env = [(false, eval a X.env)] := by rfl) : PI X tg (.Call (.Name "range" p) [a] [] pos) (iRng1 ta) := by
  intro pins s σ H R I h
  refine Call_ (ld_blt I hg hm boot_range (PyProof.Rows.callWith_type1 (thn (ha pos pins s σ H _ I h) fun us s1 ⟨vs, H1, I1, r1, q1⟩ => ?_) hs rfl))
  obtain ⟨j, e, q1, q2, q⟩ := q1
  subst e
  cases r1 with
  | cons r rr =>
    cases rr
    obtain ⟨t, rfl⟩ := r
    exact call_range_1 (range_it I1 (by omega) (by omega) q1 q2 (by simpa using q))
theorem pi_range2 {a b : Expr} {ta : TA} {p pos : Pos} (hg : Gl X "range") (hm : X.mg "range" = none) (ha : PA X [a, b] ta) (hs : starEach [a, b] X.env = [(false, eval a X.env), (false, eval b X.env)] := by rfl) (hs2 : starEach [b] X.env = [(false, eval b X.env)] := by rfl) :
    PI X tg (.Call (.Name "range" p) [a, b] [] pos) (iRng2 ta) := by
  intro pins s σ H R I h
  refine Call_ (ld_blt I hg hm boot_range (PyProof.Rows.callWith_type1 (thn (ha pos pins s σ H _ I h) fun us s1 ⟨vs, H1, I1, r1, q1⟩ => ?_) (by rw [hs, hs2]) (by rw [hs2]; rfl)))
  obtain ⟨i, j, e, ⟨q1, q2, q3, q4⟩, q⟩ := q1
  subst e
  cases r1 with
  | cons r rr =>
    cases rr with
    | cons r' rr =>
      cases rr
      obtain ⟨t, rfl⟩ := r
      obtain ⟨t', rfl⟩ := r'
      exact call_range_2 (range_it I1 q1 q2 q3 q4 q)
def tFor (wi : TI) (g : TG) (tb : TS) : TS := fun D σ H => wi σ H fun J H1 => ∃ W : Nat → Nat → St → Hp → Prop, (∃ m, W 0 m σ H1) ∧ ∀ i m σ H, W i m σ H →
  (J.stop i H ∧ D.nx σ H) ∨ (J.go i H ∧ ∃ N : St → Hp → Prop, (∀ σ' H', N σ' H' → ∃ m', m' < m ∧ W (i + 1) m' σ' H') ∧ ∀ x H', J.yld i H x H' → g x σ H' fun σ2 H2 => tb { D with nx := N, ct := N, bk := D.nx } σ2 H2)
def pinsAt (fp : List Addr) (h : Heap) : List (Addr × Obj) := fp.filterMap fun b => (h.get? b).map fun o => (b, o)
theorem mem_pinsAt {fp : List Addr} {h : Heap} {b : Addr} {o : Obj} (hb : b ∈ fp) (e : h.get? b = some o) : (b, o) ∈ pinsAt fp h := List.mem_filterMap.mpr ⟨b, hb, by rw [e]; rfl⟩
theorem of_pinsAt {fp : List Addr} {h : Heap} {p : Addr × Obj} (hp : p ∈ pinsAt fp h) : p.1 ∈ fp ∧ h.get? p.1 = some p.2 := by
  obtain ⟨b, hb, e⟩ := List.mem_filterMap.mp hp
  cases q : h.get? b with
  | none => rw [q] at e; cases e
  | some o =>
    rw [q] at e
    have e' : (b, o) = p := Option.some.inj e
    subst e'
    exact ⟨hb, q⟩
theorem Inv.pinned {pins : List (Addr × Obj)} {σ : St} {H : Hp} {s : Shared} {fp : List Addr} (I : Inv X pins σ H s) (hf : ∀ b ∈ fp, FpOk X pins H b) (ho : ∀ b ∈ fp, ∃ o, s.heap.get? b = some o ∧ ∀ v, o.data ≠ .cell v) : Inv X (pins ++ pinsAt fp s.heap) σ H s :=
  I.pins_of fun p hp => (List.mem_append.mp hp).elim (fun z => I.pin p (List.mem_append_right _ z)) fun z => by
    obtain ⟨hb, e⟩ := of_pinsAt z
    obtain ⟨f0, f1, f2, _⟩ := hf p.1 hb
    obtain ⟨o, e', d⟩ := ho p.1 hb
    rw [e] at e'; cases e'
    exact ⟨e, f0, f1, f2, d⟩
theorem Inv.unpinned {pins pl : List (Addr × Obj)} {σ : St} {H : Hp} {s : Shared} (I : Inv X (pins ++ pl) σ H s) : Inv X pins σ H s := I.pins_of fun p hp => I.pin p (List.mem_append_right _ (List.mem_append_left _ hp))
theorem ps_for {iter : Expr} {body : List Stmt} {wi : TI} {g : TG} {tb : TS} {pos : Pos} (hp : PassesOwn (model X.prog X.w) X.A X.env X.xe) (hc : X.calm = true) (hi : PI X tg iter wi) (hg : PG X tg g) (hb : PSs X body tb)
    (hs : ∀ x, foldedSetIterable iter X.env x = pure x := by intro _; rfl) : PS X (.For tg iter body [] pos) (tFor wi g tb) := by
  intro pins s σ H D I h
  refine wpAny_For (thn (hi pins s σ H _ I h) fun v s1 h1 => thn h1 fun itv s2 h2 => ?_) hs
  obtain ⟨it, fp, tn, J, H2, e, I2, T, st2, f2, W, ⟨m0, w0⟩, turn⟩ := h2
  subst e
  have stat : ∀ {H' : Hp}, (∀ b ∈ fp, H' b = none) → ∀ b ∈ fp, FpOk X pins H' b := fun hn b hb => ⟨hn b hb, (f2 b hb).2⟩
  refine codeAny_forLoop_any (fun n s' => ∃ i σ' H', Inv X pins σ' H' s' ∧ tn i s'.heap ∧ (∀ b ∈ fp, H' b = none) ∧ W i n σ' H') ?_ m0 ⟨0, σ, H2, I2, st2, fun b hb => (f2 b hb).1, w0⟩
  rintro n s3 ⟨i, σ3, H3, I3, st3, fr3, w3⟩
  rcases turn i n σ3 H3 w3 with ⟨stop, qn⟩ | ⟨go, N, hN, step⟩
  · refine wpAny_passesOwn hp (thn (T.done X rfl rfl rfl hc i pins s3 σ3 H3 X.xe I3 (stat fr3) st3 stop) fun r s4 ⟨hr, I4⟩ => ?_)
    subst hr
    exact wpAny_execs_nil ⟨σ3, H3, I4, qn⟩
  · refine wpAny_passesOwn hp (thn (T.item X rfl rfl rfl hc i pins s3 σ3 H3 X.xe I3 (stat fr3) st3 go) fun r s4 ⟨u, hr, h4⟩ => ?_)
    subst hr
    refine wpAny_passesOwn hp (thn h4 fun _ s5 ⟨x, H5, I5, r5, y5, st5, fr5⟩ => ?_)
    have I5' := I5.pinned (stat fr5) (T.obj _ _ st5)
    refine wpAny_passesOwn hp (thn (hg _ s5 σ3 H5 x u _ I5' r5 (step x H5 y5)) fun _ s6 ⟨σ6, H6, I6, q6⟩ => ?_)
    refine wpAny_passesOwn hp (thn (hb _ s6 σ6 H6 _ I6 q6) fun f s7 q7 => ?_)
    have again : ∀ {σ7 : St} {H7 : Hp}, Inv X (pins ++ pinsAt fp s5.heap) σ7 H7 s7 → N σ7 H7 → ∃ m, m < n ∧ ∃ i σ' H', Inv X pins σ' H' s7 ∧ tn i s7.heap ∧ (∀ b ∈ fp, H' b = none) ∧ W i m σ' H' := fun {σ7 H7} I7 n7 => by
      obtain ⟨m', hm, w7⟩ := hN σ7 H7 n7
      refine ⟨m', hm, i + 1, σ7, H7, I7.unpinned, T.keep _ _ _ st5 fun b hb o e => (I7.pin (b, o) (List.mem_append_right _ (List.mem_append_right _ (mem_pinsAt hb e)))).1, fun b hb => ?_, w7⟩
      obtain ⟨o, e, d⟩ := T.obj _ _ st5 b hb
      exact (I7.pin (b, o) (List.mem_append_right _ (List.mem_append_right _ (mem_pinsAt hb e)))).2.1
    cases f with
    | next => obtain ⟨σ7, H7, I7, n7⟩ := q7; exact again I7 n7
    | cont => obtain ⟨σ7, H7, I7, n7⟩ := q7; exact again I7 n7
    | brk => obtain ⟨σ7, H7, I7, q7⟩ := q7; exact ⟨σ7, H7, I7.unpinned, q7⟩
    | ret v => obtain ⟨x7, σ7, H7, I7, r7, q7⟩ := q7; exact ⟨x7, σ7, H7, I7.unpinned, r7, q7⟩
end
theorem for_list {K : PySem.W.Frag} {a : Addr} {xs : List V} {g : TG} {tb : TS} {D : Ends} {σ : St} {H : Hp} (Pv : Nat → St → Hp → Prop) (h0 : Pv 0 σ H) (hl : ∀ i σ H, i ≤ xs.length → Pv i σ H → SqL K H a xs)
    (hs : ∀ i x σ H, xs[i]? = some x → Pv i σ H → g x σ H fun σ2 H2 => tb { D with nx := Pv (i + 1), ct := Pv (i + 1), bk := D.nx } σ2 H2) (hd : ∀ σ H, Pv xs.length σ H → D.nx σ H) :
    ∃ W : Nat → Nat → St → Hp → Prop, (∃ m, W 0 m σ H) ∧ ∀ i m σ H, W i m σ H →
      ((Itl K a).stop i H ∧ D.nx σ H) ∨ ((Itl K a).go i H ∧ ∃ N : St → Hp → Prop, (∀ σ' H', N σ' H' → ∃ m', m' < m ∧ W (i + 1) m' σ' H') ∧ ∀ x H', (Itl K a).yld i H x H' → g x σ H' fun σ2 H2 => tb { D with nx := N, ct := N, bk := D.nx } σ2 H2) := by
  refine ⟨fun i m σ H => m = xs.length - i ∧ i ≤ xs.length ∧ Pv i σ H, ⟨xs.length, by simp, Nat.zero_le _, h0⟩, ?_⟩
  rintro i m σ H ⟨rfl, hi, p⟩
  have q := hl i σ H hi p
  by_cases hlt : i < xs.length
  · refine .inr ⟨⟨xs, xs[i], q, by simp [hlt]⟩, Pv (i + 1), fun σ' H' p' => ⟨xs.length - (i + 1), by omega, rfl, hlt, p'⟩, fun x H' y => ?_⟩
    obtain ⟨e, y⟩ := y
    subst e
    exact hs i x σ _ (y xs q) p
  · have e : i = xs.length := by omega
    subst e
    exact .inl ⟨⟨xs, q, Nat.le_refl _⟩, hd σ H p⟩
theorem for_tup {K : PySem.W.Frag} {a : Addr} {xs : List V} {g : TG} {tb : TS} {D : Ends} {σ : St} {H : Hp} (Pv : Nat → St → Hp → Prop) (h0 : Pv 0 σ H) (hl : ∀ i σ H, i ≤ xs.length → Pv i σ H → SqT K H a xs)
    (hs : ∀ i x σ H, xs[i]? = some x → Pv i σ H → g x σ H fun σ2 H2 => tb { D with nx := Pv (i + 1), ct := Pv (i + 1), bk := D.nx } σ2 H2) (hd : ∀ σ H, Pv xs.length σ H → D.nx σ H) :
    ∃ W : Nat → Nat → St → Hp → Prop, (∃ m, W 0 m σ H) ∧ ∀ i m σ H, W i m σ H →
      ((Itt K a).stop i H ∧ D.nx σ H) ∨ ((Itt K a).go i H ∧ ∃ N : St → Hp → Prop, (∀ σ' H', N σ' H' → ∃ m', m' < m ∧ W (i + 1) m' σ' H') ∧ ∀ x H', (Itt K a).yld i H x H' → g x σ H' fun σ2 H2 => tb { D with nx := N, ct := N, bk := D.nx } σ2 H2) := by
  refine ⟨fun i m σ H => m = xs.length - i ∧ i ≤ xs.length ∧ Pv i σ H, ⟨xs.length, by simp, Nat.zero_le _, h0⟩, ?_⟩
  rintro i m σ H ⟨rfl, hi, p⟩
  have q := hl i σ H hi p
  by_cases hlt : i < xs.length
  · refine .inr ⟨⟨xs, xs[i], q, by simp [hlt]⟩, Pv (i + 1), fun σ' H' p' => ⟨xs.length - (i + 1), by omega, rfl, hlt, p'⟩, fun x H' y => ?_⟩
    obtain ⟨e, y⟩ := y
    subst e
    exact hs i x σ _ (y xs q) p
  · have e : i = xs.length := by omega
    subst e
    exact .inl ⟨⟨xs, q, Nat.le_refl _⟩, hd σ H p⟩
theorem for_range {lo : Int} {n : Nat} {g : TG} {tb : TS} {D : Ends} {σ : St} {H : Hp} (Pv : Nat → St → Hp → Prop) (h0 : Pv 0 σ H)
    (hs : ∀ i σ H, i < n → Pv i σ H → g (.int (lo + i)) σ H fun σ2 H2 => tb { D with nx := Pv (i + 1), ct := Pv (i + 1), bk := D.nx } σ2 H2) (hd : ∀ σ H, Pv n σ H → D.nx σ H) :
    ∃ W : Nat → Nat → St → Hp → Prop, (∃ m, W 0 m σ H) ∧ ∀ i m σ H, W i m σ H →
      ((Itr lo n).stop i H ∧ D.nx σ H) ∨ ((Itr lo n).go i H ∧ ∃ N : St → Hp → Prop, (∀ σ' H', N σ' H' → ∃ m', m' < m ∧ W (i + 1) m' σ' H') ∧ ∀ x H', (Itr lo n).yld i H x H' → g x σ H' fun σ2 H2 => tb { D with nx := N, ct := N, bk := D.nx } σ2 H2) := by
  refine ⟨fun i m σ H => m = n - i ∧ i ≤ n ∧ Pv i σ H, ⟨n, by simp, Nat.zero_le _, h0⟩, ?_⟩
  rintro i m σ H ⟨rfl, hi, p⟩
  by_cases hlt : i < n
  · refine .inr ⟨hlt, Pv (i + 1), fun σ' H' p' => ⟨n - (i + 1), by omega, rfl, hlt, p'⟩, fun x H' y => ?_⟩
    obtain ⟨e, y⟩ := y
    subst e y
    exact hs i σ _ hlt p
  · have e : i = n := by omega
    subst e
    exact .inl ⟨Nat.le_refl _, hd σ H p⟩
theorem while_by {c : TT} {tb : TS} {D : Ends} {σ : St} {H : Hp} (Pv : St → Hp → Prop) (μ : St → Hp → Nat) (h0 : Pv σ H)
    (hs : ∀ σ H, Pv σ H → c σ H fun b H1 => if b = true then tb { D with nx := fun σ' H' => Pv σ' H' ∧ μ σ' H' < μ σ H, ct := fun σ' H' => Pv σ' H' ∧ μ σ' H' < μ σ H, bk := D.nx } σ H1 else D.nx σ H1)
    (mono : ∀ σ H Q Q', (∀ b H1, Q b H1 → Q' b H1) → c σ H Q → c σ H Q') : tWhile c tb D σ H := by
  refine ⟨fun m σ H => m = μ σ H ∧ Pv σ H, ⟨_, rfl, h0⟩, ?_⟩
  rintro m σ H ⟨rfl, p⟩
  refine mono σ H _ _ (fun b H1 q => ?_) (hs σ H p)
  cases b with
  | true => exact ⟨_, fun σ' H' ⟨p', l⟩ => ⟨_, l, rfl, p'⟩, q⟩
  | false => exact q
end L2
namespace L2
open PySem PySem.Spec PyProof.Rows
abbrev R2 := V → V → Hp → VK → Prop
def OpR (X : Cx) (f : Value → Value → Sem Value) (r : R2) : Prop :=
  ∀ (pins : List (Addr × Obj)) (s : Shared) (σ : St) (H : Hp) (x y : V) (v u : Value) (Q : VK), Inv X pins σ H s → RelV x v → RelV y u → r x y H Q →
    wpAny (model X.prog X.w) X.A (f v u) (EP X pins σ Q) X.xe s
def UnR (X : Cx) (f : Value → Sem Value) (r : V → Hp → VK → Prop) : Prop :=
  ∀ (pins : List (Addr × Obj)) (s : Shared) (σ : St) (H : Hp) (x : V) (v : Value) (Q : VK), Inv X pins σ H s → RelV x v → r x H Q →
    wpAny (model X.prog X.w) X.A (f v) (EP X pins σ Q) X.xe s
def CallR (X : Cx) (f : Value) (r : List V → Hp → VK → Prop) : Prop :=
  ∀ (pins : List (Addr × Obj)) (s : Shared) (σ : St) (H : Hp) (xs : List V) (us : List Value) (Q : VK), Inv X pins σ H s → Vals xs us → r xs H Q →
    wpAny (model X.prog X.w) X.A (call f us) (EP X pins σ Q) X.xe s
def tOp (r : R2) (ta tb : TE) : TE := fun σ H Q => ta σ H fun x H1 => tb σ H1 fun y H2 => r x y H2 Q
def tUn (r : V → Hp → VK → Prop) (ta : TE) : TE := fun σ H Q => ta σ H fun x H1 => r x H1 Q
def rI (C : Int → Int → Prop) (g : Int → Int → V) : R2 := fun x y H Q => ∃ i j, x = .int i ∧ y = .int j ∧ C i j ∧ Q (g i j) H
def rI0 (g : Int → Int → V) : R2 := fun x y H Q => ∃ i j, x = .int i ∧ y = .int j ∧ Q (g i j) H
def rU (g : Int → V) : V → Hp → VK → Prop := fun x H Q => ∃ i, x = .int i ∧ Q (g i) H
section
variable {X : Cx} {a b c : Expr} {ta tb tc : TE} {pos : Pos}
theorem binT (ha : PE X a ta) (hb : PE X b tb) {pins : List (Addr × Obj)} {s : Shared} {σ : St} {H : Hp} {R : V → V → Hp → Prop} (I : Inv X pins σ H s)
    (h : ta σ H fun x H1 => tb σ H1 fun y H2 => R x y H2) {Q : Value → Shared → Prop} {f : Value → Value → Sem Value}
    (hf : ∀ v u s2 x y H2, Inv X pins σ H2 s2 → RelV x v → RelV y u → R x y H2 → wpAny (model X.prog X.w) X.A (f v u) Q X.xe s2) :
    wpAny (model X.prog X.w) X.A (eval a X.env) (fun v s₁ => wpAny (model X.prog X.w) X.A (eval b X.env) (fun u s₂ => wpAny (model X.prog X.w) X.A (f v u) Q X.xe s₂) X.xe s₁) X.xe s := by
  refine thn (ha pins s σ H _ I h) fun v s1 ⟨x, H1, I1, r1, q1⟩ => ?_
  refine thn (hb pins s1 σ H1 _ I1 q1) fun u s2 ⟨y, H2, I2, r2, q2⟩ => ?_
  exact hf v u s2 x y H2 I2 r1 r2 q2
theorem pe_op {op : Operator} {r : R2} (ho : OpR X (binaryOp op) r) (ha : PE X a ta) (hb : PE X b tb) : PE X (.BinOp a op b pos) (tOp r ta tb) := by
  intro pins s σ H Q I h
  exact wpAny_BinOp (binT ha hb I h fun v u s2 x y H2 I2 rx ry q => ho pins s2 σ H2 x y v u Q I2 rx ry q)
theorem pe_un {op : UnaryOp} {r : V → Hp → VK → Prop} (ho : UnR X (unaryOp op) r) (ha : PE X a ta) : PE X (.UnaryOp op a pos) (tUn r ta) := by
  intro pins s σ H Q I h
  exact UnaryOp_ (thn (ha pins s σ H _ I h) fun v s1 ⟨x, H1, I1, r1, q1⟩ => ho pins s1 σ H1 x v Q I1 r1 q1)
theorem opI {f : Value → Value → Sem Value} {C : Int → Int → Prop} {g : Int → Int → Int}
    (rule : ∀ (i j : Int) (t u : Tok) (s : Shared) (Q : Value → Shared → Prop) (E : Value → Shared → Prop), C i j → Q (.int (g i j) s.toks) { s with toks := s.toks + 1 } → wpAny (model X.prog X.w) X.A (f (.int i t) (.int j u)) Q E s) :
    OpR X f (rI C fun i j => .int (g i j)) := by
  intro pins s σ H x y v u Q I rx ry h
  obtain ⟨i, j, rfl, rfl, hc, q⟩ := h
  obtain ⟨t, rfl⟩ := rx
  obtain ⟨t', rfl⟩ := ry
  exact rule i j t t' s _ _ hc ⟨.int (g i j), H, I.tok _, ⟨_, rfl⟩, q⟩
theorem opI0 {f : Value → Value → Sem Value} {g : Int → Int → Int}
    (rule : ∀ (i j : Int) (t u : Tok) (s : Shared) (Q : Value → Shared → Prop) (E : Value → Shared → Prop), Q (.int (g i j) s.toks) { s with toks := s.toks + 1 } → wpAny (model X.prog X.w) X.A (f (.int i t) (.int j u)) Q E s) :
    OpR X f (rI0 fun i j => .int (g i j)) := by
  intro pins s σ H x y v u Q I rx ry h
  obtain ⟨i, j, rfl, rfl, q⟩ := h
  obtain ⟨t, rfl⟩ := rx
  obtain ⟨t', rfl⟩ := ry
  exact rule i j t t' s _ _ ⟨.int (g i j), H, I.tok _, ⟨_, rfl⟩, q⟩
theorem opB0 {f : Value → Value → Sem Value} {g : Int → Int → Bool}
    (rule : ∀ (i j : Int) (t u : Tok) (s : Shared) (Q : Value → Shared → Prop) (E : Value → Shared → Prop), Q (.bool (g i j)) s → wpAny (model X.prog X.w) X.A (f (.int i t) (.int j u)) Q E s) :
    OpR X f (rI0 fun i j => .bl (g i j)) := by
  intro pins s σ H x y v u Q I rx ry h
  obtain ⟨i, j, rfl, rfl, q⟩ := h
  obtain ⟨t, rfl⟩ := rx
  obtain ⟨t', rfl⟩ := ry
  exact rule i j t t' s _ _ ⟨.bl (g i j), H, I, rfl, q⟩
def CDiv (i j : Int) : Prop := 0 < j ∧ j < 1073741824
def CPow (i j : Int) : Prop := 0 ≤ j ∧ j ≤ 1000000 ∧ i.natAbs < 2 ^ 64
def CMul (i j : Int) : Prop := (-(2 ^ 64) < i ∧ i < 2 ^ 64) ∨ (-(2 ^ 64) < j ∧ j < 2 ^ 64)
theorem CMul.ok {i j : Int} (h : CMul i j) : IntMulOk i j := by
  rcases h with ⟨h1, h2⟩ | ⟨h1, h2⟩
  · exact .of_left (intBits_le_64 h1 h2)
  · exact .of_right (intBits_le_64 h1 h2)
theorem op_add : OpR X (binaryOp .Add) (rI0 fun i j => .int (i + j)) := opI0 fun _ _ _ _ _ _ _ q => add_int q
theorem op_sub : OpR X (binaryOp .Sub) (rI0 fun i j => .int (i - j)) := opI0 fun _ _ _ _ _ _ _ q => sub_int q
theorem op_mul : OpR X (binaryOp .Mult) (rI CMul fun i j => .int (i * j)) := opI fun _ _ _ _ _ _ _ hc q => mul_int q hc.ok
theorem op_fdiv : OpR X (binaryOp .FloorDiv) (rI CDiv fun i j => .int (i / j)) := opI fun i j _ _ _ _ _ hc q => by
  have h1 : (0 : Int) < j := hc.1
  have h2 : j < 1073741824 := hc.2
  exact floordiv_int (by omega) (by rw [Int.fdiv_eq_ediv_of_nonneg i (by omega)]; exact q) (.inl (PyProof.noPylong_small (by omega)))
theorem op_mod : OpR X (binaryOp .Mod) (rI (fun _ j => 0 < j) fun i j => .int (i % j)) := opI fun i j _ _ _ _ _ hc q => by
  have h1 : (0 : Int) < j := hc
  exact mod_int' (by omega) (by rw [Int.fmod_eq_emod_of_nonneg i (by omega)]; exact q)
theorem op_modN : OpR X (binaryOp .Mod) (rI (fun _ j => j ≠ 0) fun i j => .int (i.fmod j)) := opI fun _ _ _ _ _ _ _ hc q => mod_int' hc q
theorem op_pow : OpR X (binaryOp .Pow) (rI CPow fun i j => .int (i ^ j.toNat)) := opI fun _ _ _ _ _ _ _ hc q => pow_int_small hc.1 hc.2.1 hc.2.2 q
theorem unI {f : Value → Sem Value} {g : Int → Int}
    (rule : ∀ (i : Int) (t : Tok) (s : Shared) (Q : Value → Shared → Prop) (E : Value → Shared → Prop), Q (.int (g i) s.toks) { s with toks := s.toks + 1 } → wpAny (model X.prog X.w) X.A (f (.int i t)) Q E s) :
    UnR X f (rU fun i => .int (g i)) := by
  intro pins s σ H x v Q I rx h
  obtain ⟨i, rfl, q⟩ := h
  obtain ⟨t, rfl⟩ := rx
  exact rule i t s _ _ ⟨.int (g i), H, I.tok _, ⟨_, rfl⟩, q⟩
theorem un_neg : UnR X (unaryOp .USub) (rU fun i => .int (-i)) := unI fun _ _ _ _ _ q => neg_int q
end
def scal : V → V → Bool
  | .non, .non => true | .non, .int _ => true | .int _, .non => true | .non, .bl _ => true | .bl _, .non => true | .non, .str _ => true | .str _, .non => true
  | .int _, .int _ => true | .bl _, .bl _ => true | .str _, .str _ => true | .byt _, .byt _ => true
  | .int _, .str _ => true | .str _, .int _ => true | .bl _, .str _ => true | .str _, .bl _ => true
  | _, _ => false
def rEq : R2 := fun x y H Q => scal x y = true ∧ Q (.bl (decide (x = y))) H
def rNe : R2 := fun x y H Q => scal x y = true ∧ Q (.bl (!decide (x = y))) H
theorem dec_int {i j : Int} : decide (V.int i = V.int j) = (i == j) := by
  rw [Bool.eq_iff_iff]
  simp
theorem dec_bl {i j : Bool} : decide (V.bl i = V.bl j) = (i == j) := by
  rw [Bool.eq_iff_iff]
  simp
theorem dec_str {i j : Str} : decide (V.str i = V.str j) = (i == j) := by
  rw [Bool.eq_iff_iff]
  simp
theorem dec_byt {i j : Array UInt8} : decide (V.byt i = V.byt j) = (i.toList == j.toList) := by
  rw [Bool.eq_iff_iff]
  cases i
  cases j
  simp
section
variable {X : Cx} {a b c : Expr} {ta tb tc : TE} {pos : Pos}
theorem fin_bl {pins : List (Addr × Obj)} {σ : St} {H : Hp} {s : Shared} {Q : VK} {k k' : Bool} (I : Inv X pins σ H s) (q : Q (.bl k) H) (e : k = k') : EP X pins σ Q (.bool k') s := by
  subst e
  exact ⟨.bl k, H, I, rfl, q⟩
theorem op_eq : OpR X (compareOp .Eq) rEq := by
  intro pins s σ H x y v u Q I rx ry h
  obtain ⟨hs, q⟩ := h
  cases x with
  | non =>
    cases rx
    cases y with
    | non => cases ry; exact PySem.EqNone.eq_none_none (fin_bl I q (by simp))
    | bl j => cases ry; exact PySem.EqNone.eq_none_bool (fin_bl I q (by simp))
    | int j => obtain ⟨t', rfl⟩ := ry; exact PySem.EqNone.eq_none_int (fin_bl I q (by simp))
    | str j => obtain ⟨t', rfl⟩ := ry; exact PySem.EqNone.eq_none_str (fin_bl I q (by simp))
    | _ => exact absurd (show false = true from hs) Bool.false_ne_true
  | bl i =>
    cases rx
    cases y with
    | non => cases ry; exact PySem.EqNone.eq_bool_none (fin_bl I q (by simp))
    | bl j => cases ry; exact eq_bool (fin_bl I q dec_bl)
    | str j => obtain ⟨t', rfl⟩ := ry; exact PySem.EqMixed.eq_bool_str (fin_bl I q (by simp))
    | _ => exact absurd (show false = true from hs) Bool.false_ne_true
  | int i =>
    obtain ⟨t, rfl⟩ := rx
    cases y with
    | non => cases ry; exact PySem.EqNone.eq_int_none (fin_bl I q (by simp))
    | int j => obtain ⟨t', rfl⟩ := ry; exact eq_int (fin_bl I q dec_int)
    | str j => obtain ⟨t', rfl⟩ := ry; exact PySem.EqMixed.eq_int_str (fin_bl I q (by simp))
    | _ => exact absurd (show false = true from hs) Bool.false_ne_true
  | str i =>
    obtain ⟨t, rfl⟩ := rx
    cases y with
    | non => cases ry; exact PySem.EqNone.eq_str_none (fin_bl I q (by simp))
    | bl j => cases ry; exact PySem.EqMixed.eq_str_bool (fin_bl I q (by simp))
    | int j => obtain ⟨t', rfl⟩ := ry; exact PySem.EqMixed.eq_str_int (fin_bl I q (by simp))
    | str j => obtain ⟨t', rfl⟩ := ry; exact eq_str (fin_bl I q dec_str)
    | _ => exact absurd (show false = true from hs) Bool.false_ne_true
  | byt i =>
    obtain ⟨t, rfl⟩ := rx
    cases y with
    | byt j => obtain ⟨t', rfl⟩ := ry; exact PySem.W.eq_bytes (fin_bl I q dec_byt)
    | _ => exact absurd (show false = true from hs) Bool.false_ne_true
  | _ => cases y <;> exact absurd (show false = true from hs) Bool.false_ne_true
theorem op_ne : OpR X (compareOp .NotEq) rNe := by
  intro pins s σ H x y v u Q I rx ry h
  obtain ⟨hs, q⟩ := h
  cases x with
  | non =>
    cases rx
    cases y with
    | non => cases ry; exact PySem.EqNone.ne_none_none (fin_bl I q (by simp))
    | bl j => cases ry; exact PySem.EqNone.ne_none_bool (fin_bl I q (by simp))
    | int j => obtain ⟨t', rfl⟩ := ry; exact PySem.EqNone.ne_none_int (fin_bl I q (by simp))
    | str j => obtain ⟨t', rfl⟩ := ry; exact PySem.EqNone.ne_none_str (fin_bl I q (by simp))
    | _ => exact absurd (show false = true from hs) Bool.false_ne_true
  | bl i =>
    cases rx
    cases y with
    | non => cases ry; exact PySem.EqNone.ne_bool_none (fin_bl I q (by simp))
    | bl j => cases ry; exact ne_bool (fin_bl I q (congrArg not dec_bl))
    | str j => obtain ⟨t', rfl⟩ := ry; exact PySem.EqMixed.ne_bool_str (fin_bl I q (by simp))
    | _ => exact absurd (show false = true from hs) Bool.false_ne_true
  | int i =>
    obtain ⟨t, rfl⟩ := rx
    cases y with
    | non => cases ry; exact PySem.EqNone.ne_int_none (fin_bl I q (by simp))
    | int j => obtain ⟨t', rfl⟩ := ry; exact ne_int (fin_bl I q (congrArg not dec_int))
    | str j => obtain ⟨t', rfl⟩ := ry; exact PySem.EqMixed.ne_int_str (fin_bl I q (by simp))
    | _ => exact absurd (show false = true from hs) Bool.false_ne_true
  | str i =>
    obtain ⟨t, rfl⟩ := rx
    cases y with
    | non => cases ry; exact PySem.EqNone.ne_str_none (fin_bl I q (by simp))
    | bl j => cases ry; exact PySem.EqMixed.ne_str_bool (fin_bl I q (by simp))
    | int j => obtain ⟨t', rfl⟩ := ry; exact PySem.EqMixed.ne_str_int (fin_bl I q (by simp))
    | str j => obtain ⟨t', rfl⟩ := ry; exact ne_str (fin_bl I q (congrArg not dec_str))
    | _ => exact absurd (show false = true from hs) Bool.false_ne_true
  | byt i =>
    obtain ⟨t, rfl⟩ := rx
    cases y with
    | byt j => obtain ⟨t', rfl⟩ := ry; exact PySem.W.ne_bytes (fin_bl I q (congrArg not dec_byt))
    | _ => exact absurd (show false = true from hs) Bool.false_ne_true
  | _ => cases y <;> exact absurd (show false = true from hs) Bool.false_ne_true
theorem op_lt : OpR X (compareOp .Lt) (rI0 fun i j => .bl (decide (i < j))) := opB0 fun _ _ _ _ _ _ _ q => lt_int q
theorem op_gt : OpR X (compareOp .Gt) (rI0 fun i j => .bl (decide (j < i))) := opB0 fun _ _ _ _ _ _ _ q => gt_int q
theorem op_in_str : OpR X (compareOp .In) (fun x y H Q => ∃ i j, x = .str i ∧ y = .str j ∧ Q (.bl (!(Builtin.Str.occurrences j i 0 j.length 1).isEmpty)) H) := by
  intro pins s σ H x y v u Q I rx ry h
  obtain ⟨i, j, rfl, rfl, q⟩ := h
  obtain ⟨t, rfl⟩ := rx
  obtain ⟨t', rfl⟩ := ry
  exact in_str (fin_bl I q rfl)
theorem op_notN : OpR X (compareOp .IsNot) (fun x y H Q => y = .non ∧ Q (.bl (!decide (x = .non))) H) := by
  intro pins s σ H x y v u Q I rx ry h
  obtain ⟨rfl, q⟩ := h
  cases ry
  refine isnot_none_gen (fin_bl I q ?_)
  cases x <;> first
    | (cases rx; rfl)
    | (obtain ⟨t, rfl⟩ := rx; rfl)
theorem nomark (b : Expr) {op : CmpOp} (h : op ≠ .In := by decide) (h2 : op ≠ .NotIn := by decide) : behindInMarks op b = false := by
  have e1 : (op == CmpOp.In) = false := by cases op <;> first | rfl | exact absurd rfl h
  have e2 : (op == CmpOp.NotIn) = false := by cases op <;> first | rfl | exact absurd rfl h2
  cases b <;> simp [behindInMarks, e1, e2]
theorem pe_cmpR {op : CmpOp} {r : R2} (ho : OpR X (compareOp op) r) (ha : PE X a ta) (hb : PE X b tb) (hm : behindInMarks op b = false) : PE X (.Compare a [op] [b] pos) (tOp r ta tb) := by
  intro pins s σ H Q I h
  exact wpAny_Compare1 (binT ha hb I h fun v u s2 x y H2 I2 rx ry q => ho pins s2 σ H2 x y v u Q I2 rx ry q) hm
def tTest (t : TE) : TT := fun σ H Q => t σ H fun x H' => ∃ k, x = .bl k ∧ Q k H'
theorem pt_cmpR {op : CmpOp} {r : R2} (ho : OpR X (compareOp op) r) (ha : PE X a ta) (hb : PE X b tb) (hm : behindInMarks op b = false) : PT X (.Compare a [op] [b] pos) (tTest (tOp r ta tb)) := by
  intro pins s σ H Q I h
  refine wpAny_isTrue_Compare1 (thn (ha pins s σ H _ I h) fun v s1 ⟨x, H1, I1, r1, q1⟩ => thn (hb pins s1 σ H1 _ I1 q1) fun u s2 ⟨y, H2, I2, r2, q2⟩ =>
    thn (ho pins s2 σ H2 x y v u _ I2 r1 r2 q2) fun c s3 ⟨z, H3, I3, r3, k, e, q3⟩ => ?_) hm
  subst e
  cases r3
  exact wpAny_truthy_bool ⟨H3, I3, q3⟩
theorem line63 : (sizeLine : Nat) < 2 ^ 63 := by rw [sizeLine_eq]; decide
theorem op_add_str : OpR X (binaryOp .Add) (fun x y H Q => ∃ i j, x = .str i ∧ y = .str j ∧ i.length + j.length ≤ sizeLine ∧ Q (.str (i ++ j)) H) := by
  intro pins s σ H x y v u Q I rx ry h
  obtain ⟨i, j, rfl, rfl, hz, q⟩ := h
  obtain ⟨t, rfl⟩ := rx
  obtain ⟨t', rfl⟩ := ry
  exact add_str (fun t' tk => ⟨.str (i ++ j), H, I.tok _, ⟨_, rfl⟩, q⟩) hz
theorem vals1 {x : V} {us : List Value} (r : Vals [x] us) : ∃ u, us = [u] ∧ RelV x u := by
  cases r with
  | cons r1 r2 => cases r2; exact ⟨_, rfl, r1⟩
theorem vals2 {x y : V} {us : List Value} (r : Vals [x, y] us) : ∃ u w', us = [u, w'] ∧ RelV x u ∧ RelV y w' := by
  cases r with
  | cons r1 r2 =>
    cases r2 with
    | cons r3 r4 => cases r4; exact ⟨_, _, rfl, r1, r3⟩
theorem call_abs : CallR X (.builtin "abs") (fun xs H Q => ∃ i, xs = [.int i] ∧ Q (.int (if i < 0 then -i else i)) H) := by
  intro pins s σ H xs us Q I r h
  obtain ⟨i, rfl, q⟩ := h
  obtain ⟨u, rfl, t, rfl⟩ := vals1 r
  exact call_abs_int fun u tk => ⟨.int (if i < 0 then -i else i), H, I.tok _, ⟨_, rfl⟩, q⟩
theorem call_int1 : CallR X (.type "int") (fun xs H Q => (∃ i, xs = [.int i] ∧ Q (.int i) H) ∨ ∃ k, xs = [.bl k] ∧ Q (.int (if k then 1 else 0)) H) := by
  intro pins s σ H xs us Q I r h
  rcases h with ⟨i, rfl, q⟩ | ⟨k, rfl, q⟩
  · obtain ⟨u, rfl, t, rfl⟩ := vals1 r
    exact call_int_int ⟨.int i, H, I, ⟨_, rfl⟩, q⟩
  · obtain ⟨u, rfl, r1⟩ := vals1 r
    cases r1
    exact call_int_bool ⟨.int (if k then 1 else 0), H, I.tok _, ⟨_, rfl⟩, q⟩
theorem call_str_int : CallR X (.type "str") (fun xs H Q => ∃ i, xs = [.int i] ∧ i.natAbs.log2 < 1920 ∧ Q (.str (toString i)) H) := by
  intro pins s σ H xs us Q I r h
  obtain ⟨i, rfl, hz, q⟩ := h
  obtain ⟨u, rfl, t, rfl⟩ := vals1 r
  exact PySem.P.str_of_int hz ⟨.str _, H, I.tok _, ⟨_, rfl⟩, q⟩
end
end L2
namespace L2
open PySem PySem.Spec PyProof.Rows
structure ObjM (h : Heap) (x dx C : Addr) (mA : Str → Option Value) : Prop where
  obj : h.get? x = some (PySem.W.instObj C dx)
  ns : h.Ns1 dx mA
  ne : dx ≠ x
theorem lookIn_ns {h : Heap} {dx : Addr} {mA : Str → Option Value} (n : h.Ns1 dx mA) : ∃ od, h.get? dx = some od ∧ ∀ name, PySem.W.lookIn name od = some (mA name) := by
  obtain ⟨o, es, ep, ho, hd, hk, _, hm⟩ := n
  refine ⟨o, ho, fun name => ?_⟩
  have e := hm name
  unfold nsFind findBy at e
  rw [← Array.find?_toList] at e
  unfold PySem.W.lookIn
  rw [hd]
  dsimp only
  split
  · rename_i y q
    rw [q] at e
    exact congrArg some e
  · rename_i q
    rw [q] at e
    have a : es.toList.any (·.refKey) = false := by
      rw [List.any_eq_false]
      intro y hy
      obtain ⟨z, t, hkey⟩ := hk y (Array.mem_toList_iff.mp hy)
      simp [DictEntry.refKey, hkey]
    have a' : ¬ es.toList.any (·.refKey) = true := by rw [a]; exact Bool.false_ne_true
    rw [if_neg a']
    exact congrArg some e
theorem ObjM.look {h : Heap} {x dx C : Addr} {mA : Str → Option Value} (I : ObjM h x dx C mA) : ∃ od, PySem.W.InstAt h x (PySem.W.instObj C dx) C (some od) ∧ ∀ name, PySem.W.lookIn name od = some (mA name) :=
  let ⟨od, ho, hl⟩ := lookIn_ns I.ns
  ⟨od, ⟨I.obj, rfl, rfl, ho⟩, hl⟩
section
variable {prog : Program} {w : World} {A : Around} {E : Value → Shared → Prop} {s : Shared} {K : PySem.W.Frag} {x dx C f : Addr} {mA : Str → Option Value} {name : Str} {v : Value}
theorem get_map {expr : Bool} {Q : Value → Shared → Prop} (X : K.In s.heap) (I : ObjM s.heap x dx C mA) (hg : PySem.W.plainGet K C name = true) (hh : PySem.W.hasDictIn K C = true)
    (ha : PySem.W.findIn K (.ref C) name = some none) (hv : mA name = some v) (hv' : PySem.W.handedIn v = true) (h : Q v { s with toks := s.toks + 1 }) :
    wpAny (model prog w) A (getAttr (.ref x) name expr) Q E s := by
  obtain ⟨od, J, hl⟩ := I.look
  exact PySem.W.get_value X J (PySem.W.plainGet_of hg).1 (PySem.W.findObj_own hh ha rfl (by rw [hl, hv])) hv' h
theorem get_meth {pl : Sem Bool} {Q : Value × List Value → Shared → Prop} (X : K.In s.heap) (I : ObjM s.heap x dx C mA) (hg : PySem.W.plainGet K C name = true)
    (hf : PySem.W.findIn K (.ref C) name = some (some (.ref f))) (ht : PySem.W.isFn K (.ref f) = true) (hv : mA name = none) (h : Q (.ref f, [.ref x]) s) :
    wpAny (model prog w) A (getMethod (.ref x) name pl) Q E s := by
  obtain ⟨od, J, hl⟩ := I.look
  exact PySem.W.method_fn X J (PySem.W.plainGet_of hg).1 (PySem.W.plainGet_of hg).2 hf (beq_iff_eq.mp ht) (by show (PySem.W.lookIn name od).map (·.isSome) = some false; rw [hl, hv]; rfl) h
theorem set_map {ns : List Str} {Q : Unit → Shared → Prop} (X : K.In s.heap) (I : ObjM s.heap x dx C mA)
    (hs : PySem.W.findIn K (.ref C) "__setattr__" = some (some (.builtin "object.__setattr__"))) (hp : PySem.W.plainOver K C = true) (ht : PySem.W.takerIn K C name = some none) (hh : PySem.W.hasDictIn K C = true)
    (hw : PySem.Within mA ns) (hsz : ns.length ≤ sizeLine)
    (h : ∀ h', ObjM h' x dx C (fun y => if y = name then some v else mA y) → Heap.SameBut dx s.heap h' → Q () { s with heap := h', toks := s.toks + 2 }) :
    wpAny (model prog w) A (setAttr (.ref x) name v) Q E s := by
  obtain ⟨od, J, hl⟩ := I.look
  refine PySem.W.set_plain X J hs (PySem.W.osa_open (s := { s with toks := s.toks + 1 }) (r := none) X J hp ht fun b => ?_)
  obtain ⟨cd, hc, hd'⟩ := PySem.W.any_some hh
  have hx : s.heap.get? x = some ⟨.ref C, some dx, .plain, #[]⟩ := I.obj
  refine wpAny_bind (wpAny_pure (wpAny_bind (wpAny_bind (wpAny_loadPart hx (wpAny_bind (PySem.W.Looks.here (s := { s with toks := s.toks + 1 }) (PySem.W.looks_clsIn X hc) ?_))))))
  rw [hd']
  refine wpAny_pure (a := some dx) (wpAny_bind (wpAny_pure (wpAny_bind ?_)))
  refine wpAny_nsSet1 (s := { s with toks := s.toks + 1 }) I.ns fun h' hn2 hs2 => ?_
  obtain ⟨oD, esD, epD, hoD, hdD, hcD⟩ := hn2.count (PySem.Within.cons name v hw)
  refine wpAny_bind (wpAny_lookBehind hoD (by rw [hdD]; exact pastItsLine_dict (Nat.le_trans hcD (by rw [List.length_cons]; omega))) ?_)
  exact wpAny_pure (h _ ⟨(hs2.2 _ (Ne.symm I.ne)).trans I.obj, hn2, I.ne⟩ hs2)
theorem make_map {R : Result → Shared → Prop} {vs : List Value} {kw : List (Str × Value)} (X : K.In s.heap) (hm : PySem.W.makesIn K C = true)
    (hi : PySem.W.findIn K (.ref C) "__init__" = some (some (.ref f))) (hf : PySem.W.typeIn K (.ref f) = some (.type "function"))
    (h : codeAny (model prog w) (A.under (.builtin "type.__call__" ⟨.ref C :: vs, kw⟩)) (.call (.ref f) ⟨.ref (s.heap.objs.size + 1) :: vs, kw⟩) (PySem.W.InitBack (s.heap.objs.size + 1) R)
      { s with heap := (s.heap.push PySem.W.emptyDict).push (PySem.W.instObj C s.heap.objs.size) }) :
    codeAny (model prog w) A (.call (.ref C) ⟨vs, kw⟩) R s := by
  obtain ⟨hh, g, d, t, os⟩ := s
  exact PySem.W.make_core (PySem.W.makes_of X hm) (PySem.W.looks_findIn X hi) (fun self => PySem.W.bind_fn X self hf) (.inl rfl) h
end
def putF (f : Str) (v : V) : List (Str × V) → List (Str × V)
  | [] => [(f, v)]
  | (g, x) :: r => if g = f then (g, v) :: r else (g, x) :: putF f v r
theorem lookup_putF (f g : Str) (v : V) : ∀ fs : List (Str × V), (putF f v fs).lookup g = if g = f then some v else fs.lookup g
  | [] => by
    show List.lookup g [(f, v)] = _
    by_cases h : g = f
    · have hb : (g == f) = true := beq_iff_eq.mpr h
      simp only [List.lookup, hb, if_pos h]
    · have hb : (g == f) = false := beq_eq_false_iff_ne.mpr h
      simp only [List.lookup, hb, if_neg h]
  | (k, x) :: r => by
    have ih := lookup_putF f g v r
    rw [show putF f v ((k, x) :: r) = (if k = f then (k, v) :: r else (k, x) :: putF f v r) from rfl]
    by_cases hk : k = f
    · rw [if_pos hk]
      by_cases h : g = k
      · have hb : (g == k) = true := beq_iff_eq.mpr h
        simp only [List.lookup, hb, if_pos (h.trans hk)]
      · have hb : (g == k) = false := beq_eq_false_iff_ne.mpr h
        simp only [List.lookup, hb, if_neg (fun e : g = f => h (e.trans hk.symm))]
    · rw [if_neg hk]
      by_cases h : g = k
      · have hb : (g == k) = true := beq_iff_eq.mpr h
        simp only [List.lookup, hb, if_neg (fun e : g = f => hk (h.symm.trans e))]
      · have hb : (g == k) = false := beq_eq_false_iff_ne.mpr h
        simp only [List.lookup, hb]
        exact ih
theorem keys_putF (f : Str) (v : V) : ∀ fs : List (Str × V), f ∈ (putF f v fs).map (·.1) ∧ ∀ g, g ∈ fs.map (·.1) → g ∈ (putF f v fs).map (·.1)
  | [] => ⟨by simp [putF], fun g h => by simp at h⟩
  | (k, x) :: r => by
    obtain ⟨i1, i2⟩ := keys_putF f v r
    rw [show putF f v ((k, x) :: r) = (if k = f then (k, v) :: r else (k, x) :: putF f v r) from rfl]
    by_cases hk : k = f
    · rw [if_pos hk]
      subst hk
      exact ⟨by simp, fun g h => by simpa using h⟩
    · rw [if_neg hk]
      refine ⟨?_, fun g h => ?_⟩
      · rw [List.map_cons]
        exact List.mem_cons_of_mem _ i1
      · rw [List.map_cons] at h ⊢
        rcases List.mem_cons.mp h with e | e
        · exact List.mem_cons.mpr (.inl e)
        · exact List.mem_cons_of_mem _ (i2 g e)
theorem length_putF (f : Str) (v : V) : ∀ fs : List (Str × V), (putF f v fs).length ≤ fs.length + 1
  | [] => by simp [putF]
  | (k, x) :: r => by
    have ih := length_putF f v r
    rw [show putF f v ((k, x) :: r) = (if k = f then (k, v) :: r else (k, x) :: putF f v r) from rfl]
    by_cases hk : k = f
    · rw [if_pos hk, List.length_cons, List.length_cons]; omega
    · rw [if_neg hk, List.length_cons, List.length_cons]; omega
theorem RelO.some_of {v : V} {o : Option Value} (r : RelO (some v) o) : ∃ u, o = some u ∧ RelV v u := by
  cases o with
  | none => exact (show False from r).elim
  | some u => exact ⟨u, rfl, r⟩
theorem RelO.none_of {o : Option Value} (r : RelO none o) : o = none := by
  cases o with
  | none => rfl
  | some u => exact (show False from r).elim
theorem handed_of {v : V} {u : Value} (r : RelV v u) : PySem.W.handedIn u = true := by
  cases v with
  | non => cases (show u = Value.none from r); rfl
  | bl b => cases (show u = Value.bool b from r); rfl
  | int i => obtain ⟨t, e⟩ := (show ∃ t, u = Value.int i t from r); cases e; rfl
  | str x => obtain ⟨t, e⟩ := (show ∃ t, u = Value.str x t from r); cases e; rfl
  | byt b => obtain ⟨t, e⟩ := (show ∃ t, u = Value.bytes b t from r); cases e; rfl
  | flt b => obtain ⟨t, e⟩ := (show ∃ t, u = Value.float b t from r); cases e; rfl
  | ref a => cases (show u = Value.ref a from r); rfl
  | ty n => cases (show u = Value.type n from r); rfl
section
variable {P : Program} {w : World} {H H' : Hp} {h h' : Heap} {a C dx : Addr} {fs fs' : List (Str × V)}
theorem ins_get (hok : HOk P w H h) (e : H a = some (.ins C dx fs)) : ∃ mA, ObjM h a dx C mA ∧ (∀ f, RelO (fs.lookup f) (mA f)) ∧ PySem.Within mA (fs.map (·.1)) ∧ fs.length ≤ 1000 ∧ H dx = some (.own a) := by
  obtain ⟨d, z, ne, ob, mA, n, r, q⟩ := (show ObjOk P w H h a (.ins C dx fs) from hok a _ e)
  exact ⟨mA, ⟨ob, n, ne⟩, r, q, z, d⟩
end
structure Cls (K : PySem.W.Frag) (C : Addr) : Prop where
  pg : PySem.W.plainGet K C Str.empty = true
  hd : PySem.W.hasDictIn K C = true
  po : PySem.W.plainOver K C = true
  sa : PySem.W.findIn K (.ref C) "__setattr__" = some (some (.builtin "object.__setattr__"))
theorem Cls.get {K : PySem.W.Frag} {C : Addr} (c : Cls K C) (f : Str) : PySem.W.plainGet K C f = true := c.pg
def NoAttr (K : PySem.W.Frag) (C : Addr) (f : Str) : Prop := PySem.W.findIn K (.ref C) f = some none
theorem NoAttr.taker {K : PySem.W.Frag} {C : Addr} {f : Str} (n : NoAttr K C f) : PySem.W.takerIn K C f = some none := by
  unfold PySem.W.takerIn
  rw [show PySem.W.findIn K (.ref C) f = some none from n]
  rfl
structure Meth (K : PySem.W.Frag) (C : Addr) (m : Str) (f : Addr) : Prop where
  at_ : PySem.W.findIn K (.ref C) m = some (some (.ref f))
  fn : PySem.W.isFn K (.ref f) = true
  kp : PySem.W.keepIn K (.ref f) = true
section
variable {X : Cx} {pins : List (Addr × Obj)} {σ : St} {H : Hp} {s : Shared} {a C dx : Addr} {fs : List (Str × V)} {f : Str} {v : V} {A : Around} {E : Value → Shared → Prop}
theorem getattr_ok {b : Bool} {Q : Value → Shared → Prop} (I : Inv X pins σ H s) (e : H a = some (.ins C dx fs)) (c : Cls X.K C) (n : NoAttr X.K C f) (l : fs.lookup f = some v)
    (h : ∀ u s', Inv X pins σ H s' → RelV v u → Q u s') : wpAny (model X.prog X.w) A (getAttr (.ref a) f b) Q E s := by
  obtain ⟨mA, O, r, _, _, _⟩ := ins_get I.hok e
  obtain ⟨u, hu, ru⟩ := RelO.some_of (v := v) (o := mA f) (by rw [← l]; exact r f)
  exact get_map I.kIn O (c.get f) c.hd n hu (handed_of ru) (h u _ (I.tok _) ru)
theorem getmeth_ok {m : Str} {g : Addr} {pl : Sem Bool} {Q : Value × List Value → Shared → Prop} (I : Inv X pins σ H s) (e : H a = some (.ins C dx fs)) (c : Cls X.K C) (k : Meth X.K C m g) (l : fs.lookup m = none)
    (h : Q (.ref g, [.ref a]) s) : wpAny (model X.prog X.w) A (getMethod (.ref a) m pl) Q E s := by
  obtain ⟨mA, O, r, _, _, _⟩ := ins_get I.hok e
  have hn : mA m = none := RelO.none_of (by rw [← l]; exact r m)
  exact get_meth I.kIn O (c.get m) k.at_ k.fn hn h
theorem setattr_ok {y : V} {u : Value} {Q : Unit → Shared → Prop} (I : Inv X pins σ H s) (e : H a = some (.ins C dx fs)) (c : Cls X.K C) (n : NoAttr X.K C f) (hl : fs.length < 1000) (ry : RelV y u)
    (h : ∀ s', Inv X pins σ (upd H a (.ins C dx (putF f y fs))) s' → Q () s') : wpAny (model X.prog X.w) A (setAttr (.ref a) f u) Q E s := by
  obtain ⟨mA, O, r, wi, _, ho⟩ := ins_get I.hok e
  have hz : (fs.map (·.1)).length ≤ sizeLine := by rw [List.length_map, sizeLine_eq]; omega
  refine set_map I.kIn O c.sa c.po n.taker c.hd wi hz fun h' O' sb => h _ ?_
  have hd : ∃ o, h'.get? dx = some o := let ⟨o, _, _, e', _⟩ := O'.ns; ⟨o, e'⟩
  refine I.write (x := a) (e := dx) (by rw [e]; exact True.intro) (.inr ho) (fun b q hb z => (sb.2 b hb).trans z) hd ?_
  refine ⟨by rw [upd_ne O.ne]; exact ho, ?_, O.ne, O'.obj, _, O'.ns, fun g => ?_, fun g hg => ?_⟩
  · have := length_putF f y fs; omega
  · show RelO ((putF f y fs).lookup g) (if g = f then some u else mA g)
    rw [lookup_putF]
    by_cases q : g = f
    · rw [if_pos q, if_pos q]; exact ry
    · rw [if_neg q, if_neg q]; exact r g
  · by_cases q : g = f
    · rw [q]; exact (keys_putF f y fs).1
    · refine (keys_putF f y fs).2 g (wi g fun z => hg ?_)
      show (if g = f then some u else mA g) = none
      rw [if_neg q]; exact z
theorem Inv.made (I : Inv X pins σ H s) : Inv X pins σ (upd (upd H s.heap.objs.size (.own (s.heap.objs.size + 1))) (s.heap.objs.size + 1) (.ins C s.heap.objs.size []))
    { s with heap := (s.heap.push PySem.W.emptyDict).push (PySem.W.instObj C s.heap.objs.size) } := by
  have e1 : (s.heap.push PySem.W.emptyDict).get? s.heap.objs.size = some PySem.W.emptyDict := Heap.get?_push_size s.heap rfl
  have e2 : ((s.heap.push PySem.W.emptyDict).push (PySem.W.instObj C s.heap.objs.size)).get? (s.heap.objs.size + 1) = some (PySem.W.instObj C s.heap.objs.size) := by
    have := Heap.get?_push_size (s.heap.push PySem.W.emptyDict) (o := PySem.W.instObj C s.heap.objs.size) rfl
    rwa [Heap.size_push] at this
  have e3 : (s.heap.push PySem.W.emptyDict).Ns s.heap.objs.size (fun _ => none) := ⟨PySem.W.emptyDict, #[], _, e1, rfl, (fun e he => absurd he (by simp)), fun _ => rfl⟩
  have I1 := I.laid (a := s.heap.objs.size) (o := .own (s.heap.objs.size + 1)) (h' := s.heap.push PySem.W.emptyDict) (t' := s.toks) (fun b u q => Heap.get?_push_of_some _ q) (Nat.le_refl _) ⟨_, e1⟩
  refine I1.laid (a := s.heap.objs.size + 1) (o := .ins C s.heap.objs.size []) (t' := s.toks) (fun b u q => Heap.get?_push_of_some _ q) (Nat.le_of_eq (Heap.size_push _ _)) ?_
  have ne : s.heap.objs.size ≠ s.heap.objs.size + 1 := Nat.ne_of_lt (Nat.lt_succ_self _)
  refine ⟨by rw [upd_ne ne, upd_same], Nat.zero_le _, ne, e2, fun _ => none, (Heap.Ns1.of_empty e3).at fun o q => Heap.get?_push_of_some _ q, fun _ => True.intro, fun y hy => absurd rfl hy⟩
theorem attr_of {prog : Program} {w : World} {env : Env} {e : Expr} {f : Str} {pos : Pos} {s : Shared} {Q : Value → Shared → Prop} (hb : attributeBase e f env (eval e env) = eval e env)
    (h : wpAny (model prog w) A (eval e env) (fun o s₁ => wpAny (model prog w) A (getAttr o f true) Q E s₁) E s) : wpAny (model prog w) A (eval (.Attribute e f pos) env) Q E s :=
  Attribute_any_ h (by rw [arm_eval_Attribute, hb])
end
def tFld (K : PySem.W.Frag) (ta : TE) (f : Str) : TE := fun σ H Q => ta σ H fun x H1 => ∃ a C dx fs v, x = .ref a ∧ H1 a = some (.ins C dx fs) ∧ Cls K C ∧ NoAttr K C f ∧ fs.lookup f = some v ∧ Q v H1
def sFld (K : PySem.W.Frag) (ta tv : TE) (f : Str) : TS := fun D σ H => tv σ H fun y H1 => ta σ H1 fun x H2 => ∃ a C dx fs, x = .ref a ∧ H2 a = some (.ins C dx fs) ∧ Cls K C ∧ NoAttr K C f ∧ fs.length < 1000 ∧
  D.nx σ (upd H2 a (.ins C dx (putF f y fs)))
section
variable {X : Cx} {o e value : Expr} {f : Str} {pos pos' tpos : Pos} {ta tv : TE}
theorem pe_fld (he : PE X e ta) (hb : attributeBase e f X.env (eval e X.env) = eval e X.env) : PE X (.Attribute e f pos) (tFld X.K ta f) := by
  intro pins s σ H Q I h
  refine attr_of hb (thn (he pins s σ H _ I h) fun u s1 ⟨x, H1, I1, rx, a, C, dx, fs, v, ex, ea, c, n, l, q⟩ => ?_)
  subst ex
  obtain rfl : u = Value.ref a := rx
  exact getattr_ok I1 ea c n l fun u' s2 I2 ru => ⟨v, H1, I2, ru, q⟩
theorem ps_fld (ha : PE X o ta) (hv : PE X value tv) (hs : swapsWith value (some (.Attribute o f pos')) pos.line X.env = pure false) : PS X (.Assign [.Attribute o f pos'] value pos) (sFld X.K ta tv f) := by
  intro pins s σ H D I h
  refine plainObj_wpAny_Assign_Attribute (thn (hv pins s σ H _ I h) fun u s1 ⟨y, H1, I1, ry, q⟩ => thn (ha pins s1 σ H1 _ I1 q) fun ov s2 ⟨x, H2, I2, rx, a, C, dx, fs, ex, ea, c, n, l, q2⟩ => ?_) hs
  subst ex
  obtain rfl : ov = Value.ref a := rx
  exact setattr_ok I2 ea c n l ry fun s3 I3 => ⟨σ, _, I3, q2⟩
theorem methcall_of {pl : Sem Bool} {m : Str} {apos : Pos} {args : List Expr} {pins : List (Addr × Obj)} {s : Shared} {σ : St} {H : Hp} {Q : Value → Shared → Prop} {te : TE} (he : PE X e te) (I : Inv X pins σ H s)
    (h : te σ H fun x H1 => ∃ a C dx fs g, x = .ref a ∧ H1 a = some (.ins C dx fs) ∧ Cls X.K C ∧ Meth X.K C m g ∧ fs.lookup m = none ∧
      ∀ s1, Inv X pins σ H1 s1 → wpAny (model X.prog X.w) X.A (callWith pos (.ref g) [.ref a] (backTo pos (starEach args X.env)) (backToKw pos (keywordEach [] X.env))) Q X.xe s1)
    (ht : eval (.Call (.Attribute e m apos) args [] pos) X.env = (do
      let ov ← eval e X.env
      standAt apos.atName
      let (f, first) ← holding [ov] (getMethod ov m pl)
      callWith pos f first (backTo pos (starEach args X.env)) (backToKw pos (keywordEach [] X.env)))) :
    wpAny (model X.prog X.w) X.A (eval (.Call (.Attribute e m apos) args [] pos) X.env) Q X.xe s := by
  refine PySem.W.methodCall_KW (pl := pl) (thn (he pins s σ H _ I h) fun u s1 ⟨x, H1, I1, rx, a, C, dx, fs, g, ex, ea, c, k, l, q⟩ => ?_) ht
  subst ex
  obtain rfl : u = Value.ref a := rx
  exact getmeth_ok I1 ea c k l (q s1 I1)
end
section
variable {X : Cx} {pins : List (Addr × Obj)} {σ : St} {H : Hp} {s : Shared} {A : Around} {E : Value → Shared → Prop} {Q : Value → Shared → Prop} {c : Value} {b : Bool}
end
end L2
namespace L2
open PySem PySem.Spec PyProof.Rows
structure Room (k : Nat) (A : Around) : Prop where
  hd : A.handled = none
  dp : A.depth + 3 * k + 5 < recursionLimit
  un : A.units + 16 * k + 200 < cLine
  gd : A.guards = some []
theorem Room.mono {j k : Nat} {A : Around} (r : Room k A) (h : j ≤ k) : Room j A := ⟨r.hd, by have := r.dp; omega, by have := r.un; omega, r.gd⟩
theorem Room.deeper {k : Nat} {A : Around} (r : Room (k + 1) A) (env : Env) : Room k (A.deeper env) :=
  ⟨r.hd, by have := r.dp; show A.depth + 1 + 3 * k + 5 < _; omega, by have := r.un; show A.units + 3 + 16 * k + 200 < _; omega, r.gd⟩
theorem make_depth {A : Around} {C : Addr} {us : List Value} {kw : List (Str × Value)} : (A.under (.builtin "type.__call__" ⟨.ref C :: us, kw⟩)).depth = A.depth + 1 := by
  first | rfl | simp [Around.under, Code.weight, Code.isCreation, Code.isGuard, Code.isCaller, Code.frames, Code.isFrame, guardIds]
theorem make_units {A : Around} {C : Addr} {us : List Value} {kw : List (Str × Value)} : (A.under (.builtin "type.__call__" ⟨.ref C :: us, kw⟩)).units = A.units + 1 := by
  first | rfl | simp [Around.under, Code.cUnits, Code.frames, Code.isFrame]
theorem Room.make {k : Nat} {A : Around} (r : Room (k + 1) A) (C : Addr) (us : List Value) (kw : List (Str × Value)) : Room k (A.under (.builtin "type.__call__" ⟨.ref C :: us, kw⟩)) :=
  ⟨r.hd, by have := r.dp; rw [make_depth]; omega, by have := r.un; rw [make_units]; omega, by first | exact r.gd | simpa [Around.under, Code.guards, Code.isGuard, pushGuards, guardIds] using r.gd⟩
theorem Room.depth {k : Nat} {A : Around} (r : Room k A) : A.depth < recursionLimit := by have := r.dp; omega
theorem Room.units {k : Nat} {A : Around} (r : Room k A) : A.units + 64 < cLine := by have := r.un; omega
def tNil : TA := fun _ H Q => Q [] H
def tCons (ta : TE) (tr : TA) : TA := fun σ H Q => ta σ H fun x H1 => tr σ H1 fun xs H2 => Q (x :: xs) H2
section
variable {X : Cx} {e : Expr} {es : List Expr} {te : TE} {t : TA} {pos : Pos}
theorem pa_nil : PA X [] tNil := fun _ _ _ _ H Q I h => Calls.spliced_nil ⟨[], H, I, .nil, h⟩
theorem pa_cons (ha : PE X e te) (hr : PA X es t) (hs : starEach (e :: es) X.env = (false, eval e X.env) :: starEach es X.env := by rfl) : PA X (e :: es) (tCons te t) := by
  intro pos pins s σ H Q I h
  rw [hs]
  show wpAny _ _ (spliced ((false, eval e X.env) :: backTo pos (starEach es X.env))) _ _ s
  refine Calls.spliced_cons (thn (ha pins s σ H _ I h) fun u s1 ⟨x, H1, I1, r1, q1⟩ => ?_)
  exact thn (hr pos pins s1 σ H1 _ I1 q1) fun us s2 ⟨xs, H2, I2, r2, q2⟩ => ⟨x :: xs, H2, I2, .cons r1 r2, q2⟩
def tTup (t : TA) : TE := fun σ H Q => t σ H fun xs H1 => xs.length ≤ sizeLine ∧ ∀ p, H1 p = none → Q (.ref p) (upd H1 p (.tup xs))
def tLst (t : TA) : TE := fun σ H Q => t σ H fun xs H1 => xs.length ≤ sizeLine ∧ ∀ p, H1 p = none → Q (.ref p) (upd H1 p (.lst xs))
theorem pe_tup {x1} (h : PA X es t) : PE X (.Tuple es x1 pos) (tTup t) := by
  intro pins s σ H Q I hq
  refine wpAny_Tuple_spliced (thn (h pos pins s σ H _ I hq) fun us s1 ⟨xs, H1, I1, r, z, q⟩ => ⟨by rw [← r.length]; exact z, ?_⟩)
  have hf : H1 s1.heap.objs.size = none := I1.hok.fresh (Nat.le_refl _)
  refine ⟨.ref s1.heap.objs.size, upd H1 s1.heap.objs.size (.tup xs), I1.laid (t' := s1.toks) (fun b u e => Heap.get?_push_of_some _ e) (Nat.le_refl _) ?_, rfl, q _ hf⟩
  exact ⟨z, us, r, ⟨_, Heap.get?_push_size _ rfl, rfl, _, rfl⟩⟩
theorem pe_lst (h : PA X es t) : PE X (.List es pos) (tLst t) := by
  intro pins s σ H Q I hq
  refine wpAny_List_spliced (thn (h pos pins s σ H _ I hq) fun us s1 ⟨xs, H1, I1, r, z, q⟩ => ⟨by rw [← r.length]; exact z, ?_⟩)
  have hf : H1 s1.heap.objs.size = none := I1.hok.fresh (Nat.le_refl _)
  refine ⟨.ref s1.heap.objs.size, upd H1 s1.heap.objs.size (.lst xs), I1.laid (t' := s1.toks) (fun b u e => Heap.get?_push_of_some _ e) (Nat.le_refl _) ?_, rfl, q _ hf⟩
  exact ⟨z, us, 0, r, Heap.get?_push_size _ rfl⟩
end
abbrev Sp := List V → Hp → VK → XK → Prop
abbrev CXT := List Env → Hp → Shared → XK → Value → Shared → Prop
structure Env0 (P : Program) (w : World) (K : PySem.W.Frag) (mg : Str → Option Value) (base : Heap) (A : Around) (outer : List Env) (s : Shared) (H : Hp) : Prop where
  frames : A.frames = some outer
  mod : Mod K mg base
  bs : ∀ b o, base.get? b = some o → s.heap.get? b = some o ∧ H b = none
  bsz : base.objs.size ≤ s.heap.objs.size
  funs : s.heap.FunFrames base outer
  frf : ∀ b ∈ frs outer, H b = none
  hok : HOk P w H s.heap
  bare : AllBare s.gens
def CE (outer : List Env) (P : Program) (w : World) (H : Hp) (s : Shared) (Q : VK) (u : Value) (s' : Shared) : Prop :=
  ∃ v H', s'.os = s.os ∧ AllBare s'.gens ∧ Un (frs outer) [] H H' s.heap s'.heap ∧ HOk P w H' s'.heap ∧ RelV v u ∧ Q v H'
def CR (CX : CXT) (outer : List Env) (P : Program) (w : World) (H : Hp) (s : Shared) (Q : VK) (E : XK) (r : Result) (s' : Shared) : Prop :=
  match r with
  | .ok (.ret u) => CE outer P w H s Q u s'
  | .ok _ => False
  | .error e => CX outer H s E e s'
structure FnOk (P : Program) (w : World) (K : PySem.W.Frag) (mg : Str → Option Value) (base : Heap) (CX : CXT) (k : Nat) (f : Addr) (fd : FuncData) (ps : List Str) (sp : Sp) : Prop where
  len : ∀ vs H Q E, sp vs H Q E → vs.length = ps.length
  run : ∀ (A : Around) (outer : List Env) (s : Shared) (H : Hp) (args : Args) (us : List Value) (vs : List V) (Q : VK) (E : XK), Room k A → Env0 P w K mg base A outer s H → BindsTo s fd args (ps.zip us) → Vals vs us → sp vs H Q E →
    codeAny (model P w) A (.call (.ref f) args) (CR CX outer P w H s Q E) s
theorem Env0.make {P : Program} {w : World} {K : PySem.W.Frag} {mg : Str → Option Value} {base : Heap} {A : Around} {outer : List Env} {s : Shared} {H : Hp} (e : Env0 P w K mg base A outer s H) (C : Addr) (us : List Value) (kw : List (Str × Value)) :
    Env0 P w K mg base (A.under (.builtin "type.__call__" ⟨.ref C :: us, kw⟩)) outer s H := ⟨by first | exact e.frames | (simpa [Around.under, Code.envs, Code.isFrame, pushEnvs] using e.frames), e.mod, e.bs, e.bsz, e.funs, e.frf, e.hok, e.bare⟩
section
variable {X : Cx} {pins : List (Addr × Obj)} {σ : St} {H : Hp} {s s' : Shared}
theorem Inv.env0 (I : Inv X pins σ H s) : Env0 X.prog X.w X.K X.mg X.base X.A X.stack s H :=
  ⟨I.ok.frames, I.ok.mod, I.bs, Nat.le_trans I.ok.bsz I.sz, I.stack, I.stkFree, I.hok, I.bare⟩
theorem Inv.after {Q : VK} {u : Value} (I : Inv X pins σ H s) (h : CE X.stack X.prog X.w H s Q u s') : EP X pins σ Q u s' := by
  obtain ⟨v, H', os, bare, un, hok, r, q⟩ := h
  obtain ⟨hh, g, d, t, os'⟩ := s'
  obtain rfl : os' = s.os := os
  exact ⟨v, H', I.call (h' := hh) (g' := g) (d' := d) (t' := t) (ch := []) un hok bare (fun b z => absurd z (by simp)), r, q⟩
end
def tCall (sp : Sp) (dvs : List V) (E : XK) (t : TA) : TE := fun σ H Q => t σ H fun vs H1 => sp (vs ++ dvs) H1 Q E
def tMeth (C : Addr) (m : Str) (sp : Sp) (dvs : List V) (E : XK) (ta : TE) (t : TA) : TE := fun σ H Q => ta σ H fun x H1 => ∃ a dx fs, x = .ref a ∧ H1 a = some (.ins C dx fs) ∧ fs.lookup m = none ∧
  t σ H1 fun vs H2 => sp (x :: (vs ++ dvs)) H2 Q E
def tMake (C : Addr) (sp : Sp) (dvs : List V) (E : XK) (t : TA) : TE := fun σ H Q => t σ H fun vs H1 => ∀ x dx, H1 x = none → H1 dx = none → dx ≠ x →
  sp (.ref x :: (vs ++ dvs)) (upd (upd H1 dx (.own x)) x (.ins C dx [])) (fun v H2 => v = .non ∧ Q (.ref x) H2) E
def Binds (K : PySem.W.Frag) (fd : FuncData) (ps : List Str) (ds : List Value) : Prop :=
  ∀ (s : Shared) (us : List Value), K.In s.heap → (us ++ ds).length = ps.length → BindsTo s fd ⟨us, []⟩ (ps.zip (us ++ ds))
theorem Binds.all {K : PySem.W.Frag} {fd : FuncData} {ps : List Str} (h : ∀ us : List Value, us.length = ps.length → bindArgs fd ⟨us, []⟩ = pure (ps.zip us)) : Binds K fd ps [] := fun s us _ hl => by
  rw [List.append_nil] at hl ⊢
  exact .of_eq (h us hl)
def Passes (CX : CXT) (X : Cx) (E : XK) : Prop := ∀ (pins : List (Addr × Obj)) (σ : St) (H : Hp) (s : Shared) (e : Value) (s' : Shared), Inv X pins σ H s → CX X.stack H s E e s' → X.xe e s'
section
variable {X : Cx} {CX : CXT} {k : Nat} {f C : Addr} {fd : FuncData} {ps : List Str} {sp : Sp} {dvs : List V} {ds : List Value} {E : XK} {x m : Str} {p pos apos : Pos} {e o : Expr} {es : List Expr} {ta : TE} {t : TA}
theorem run_fn {pins : List (Addr × Obj)} {σ : St} {H : Hp} {s : Shared} {Q : VK} {us : List Value} {vs : List V} (F : FnOk X.prog X.w X.K X.mg X.base CX k f fd ps sp) (hr : Room k X.A) (hb : Binds X.K fd ps ds) (hd : Vals dvs ds) (hx : Passes CX X E)
    (I : Inv X pins σ H s) (r : Vals vs us) (h : sp (vs ++ dvs) H Q E) : wpAny (model X.prog X.w) X.A (call (.ref f) us) (EP X pins σ Q) X.xe s := by
  have r2 : Vals (vs ++ dvs) (us ++ ds) := r.append hd
  have hl : (us ++ ds).length = ps.length := by rw [← r2.length]; exact F.len _ _ _ _ h
  refine wpAny_call (codeAny_mono (F.run X.A X.stack s H ⟨us, []⟩ (us ++ ds) (vs ++ dvs) Q E hr I.env0 (hb s us I.kIn hl) r2 h) fun r s' hq => ?_)
  cases r with
  | error e => exact hx pins σ H s e s' I hq
  | ok fl =>
    cases fl with
    | ret u => exact I.after hq
    | next => exact False.elim hq
    | brk => exact False.elim hq
    | cont => exact False.elim hq
theorem pe_call (F : FnOk X.prog X.w X.K X.mg X.base CX k f fd ps sp) (hr : Room k X.A) (hg : Gl X x) (hm : X.mg x = some (.ref f)) (hk : PySem.W.keepIn X.K (.ref f) = true) (hb : Binds X.K fd ps ds) (hd : Vals dvs ds) (hx : Passes CX X E)
    (ha : PA X (e :: es) t) (hdb : (x == ("__debug__" : Str)) = false := by decide) (he : starEach (e :: es) X.env = (false, eval e X.env) :: starEach es X.env := by rfl) (hpl : (backTo pos (starEach es X.env)).any (·.1) = false := by rfl) :
    PE X (.Call (.Name x p) (e :: es) [] pos) (tCall sp dvs E t) := by
  intro pins s σ H Q I h
  refine wpAny_Call_Name_kw (ld_glob I hg hm ?_ hdb)
  refine PySem.W.callWith_K (h₀ := X.base) I.ok.mod.kin hk (thn (ha pos pins s σ H _ I h) fun us s1 ⟨vs, H1, I1, r, q⟩ => ⟨I1.kIn, ?_⟩) he hpl
  exact run_fn F hr hb hd hx I1 r q
theorem pe_call0 (F : FnOk X.prog X.w X.K X.mg X.base CX k f fd ps sp) (hr : Room k X.A) (hg : Gl X x) (hm : X.mg x = some (.ref f)) (hk : PySem.W.keepIn X.K (.ref f) = true) (hb : Binds X.K fd ps ds) (hd : Vals dvs ds) (hx : Passes CX X E)
    (hdb : (x == ("__debug__" : Str)) = false := by decide) : PE X (.Call (.Name x p) [] [] pos) (tCall sp dvs E tNil) := by
  intro pins s σ H Q I h
  refine wpAny_Call_Name_kw (ld_glob I hg hm ?_ hdb)
  exact PySem.W.callWith_K0 I.kIn hk (run_fn (us := []) F hr hb hd hx I .nil h)
theorem pe_meth {pl : Sem Bool} (he : PE X o ta) (c : Cls X.K C) (hm : Meth X.K C m f) (F : FnOk X.prog X.w X.K X.mg X.base CX k f fd ps sp) (hr : Room k X.A) (hb : Binds X.K fd ps ds) (hd : Vals dvs ds) (hx : Passes CX X E) (ha : PA X (e :: es) t)
    (hst : starEach (e :: es) X.env = (false, eval e X.env) :: starEach es X.env := by rfl) (hpl : (backTo pos (starEach es X.env)).any (·.1) = false := by rfl)
    (ht : eval (.Call (.Attribute o m apos) (e :: es) [] pos) X.env = (do
      let ov ← eval o X.env
      standAt apos.atName
      let (f, first) ← holding [ov] (getMethod ov m pl)
      callWith pos f first (backTo pos (starEach (e :: es) X.env)) (backToKw pos (keywordEach [] X.env))) := by rfl) :
    PE X (.Call (.Attribute o m apos) (e :: es) [] pos) (tMeth C m sp dvs E ta t) := by
  intro pins s σ H Q I h
  refine PySem.W.methodCall_KW (pl := pl) (thn (he pins s σ H _ I h) fun u s1 ⟨x, H1, I1, rx, a, dx, fs, ex, ea, l, q⟩ => ?_) ht
  subst ex
  obtain rfl : u = Value.ref a := rx
  refine getmeth_ok I1 ea c hm l ?_
  refine PySem.W.callWith_K (first := [.ref a]) (h₀ := X.base) I.ok.mod.kin hm.kp (thn (ha pos pins s1 σ H1 _ I1 q) fun us s2 ⟨vs, H2, I2, r, q2⟩ => ⟨I2.kIn, ?_⟩) hst hpl
  exact run_fn (us := .ref a :: us) (vs := .ref a :: vs) F hr hb hd hx I2 (.cons rfl r) q2
theorem pe_meth0 {pl : Sem Bool} (he : PE X o ta) (c : Cls X.K C) (hm : Meth X.K C m f) (F : FnOk X.prog X.w X.K X.mg X.base CX k f fd ps sp) (hr : Room k X.A) (hb : Binds X.K fd ps ds) (hd : Vals dvs ds) (hx : Passes CX X E)
    (ht : eval (.Call (.Attribute o m apos) [] [] pos) X.env = (do
      let ov ← eval o X.env
      standAt apos.atName
      let (f, first) ← holding [ov] (getMethod ov m pl)
      callWith pos f first (backTo pos (starEach [] X.env)) (backToKw pos (keywordEach [] X.env))) := by rfl) :
    PE X (.Call (.Attribute o m apos) [] [] pos) (tMeth C m sp dvs E ta tNil) := by
  intro pins s σ H Q I h
  refine PySem.W.methodCall_KW (pl := pl) (thn (he pins s σ H _ I h) fun u s1 ⟨x, H1, I1, rx, a, dx, fs, ex, ea, l, q⟩ => ?_) ht
  subst ex
  obtain rfl : u = Value.ref a := rx
  refine getmeth_ok I1 ea c hm l ?_
  exact PySem.W.callWith_K0 (first := [.ref a]) I1.kIn hm.kp (run_fn (us := [.ref a]) (vs := [.ref a]) F hr hb hd hx I1 (.cons rfl .nil) q)
structure Mk (K : PySem.W.Frag) (C f : Addr) : Prop where
  makes : PySem.W.makesIn K C = true
  init : PySem.W.findIn K (.ref C) "__init__" = some (some (.ref f))
  fn : PySem.W.isFn K (.ref f) = true
  kp : PySem.W.keepIn K (.ref C) = true
theorem run_make {pins : List (Addr × Obj)} {σ : St} {H : Hp} {s : Shared} {Q : VK} {us : List Value} {vs : List V} (M : Mk X.K C f) (F : FnOk X.prog X.w X.K X.mg X.base CX k f fd ps sp) (hr : Room (k + 1) X.A) (hb : Binds X.K fd ps ds) (hd : Vals dvs ds)
    (hx : Passes CX X E) (I : Inv X pins σ H s) (r : Vals vs us)
    (h : ∀ x dx, H x = none → H dx = none → dx ≠ x → sp (.ref x :: (vs ++ dvs)) (upd (upd H dx (.own x)) x (.ins C dx [])) (fun v H2 => v = .non ∧ Q (.ref x) H2) E) :
    wpAny (model X.prog X.w) X.A (call (.ref C) us) (EP X pins σ Q) X.xe s := by
  have hq := h (s.heap.objs.size + 1) s.heap.objs.size (I.hok.fresh (Nat.le_succ _)) (I.hok.fresh (Nat.le_refl _)) (Nat.ne_of_lt (Nat.lt_succ_self _))
  have I2 := Inv.made (C := C) I
  have r2 : Vals (V.ref (s.heap.objs.size + 1) :: (vs ++ dvs)) (Value.ref (s.heap.objs.size + 1) :: (us ++ ds)) := .cons rfl (r.append hd)
  have hl : (Value.ref (s.heap.objs.size + 1) :: us ++ ds).length = ps.length := by
    have e := r2.length
    rw [F.len _ _ _ _ hq] at e
    exact e.symm
  refine wpAny_call (make_map (f := f) I.kIn M.makes M.init (beq_iff_eq.mp M.fn) (codeAny_mono (F.run _ X.stack _ _ ⟨Value.ref (s.heap.objs.size + 1) :: us, []⟩ (Value.ref (s.heap.objs.size + 1) :: (us ++ ds)) _ _ E (hr.make C us [])
    (I2.env0.make C us []) (hb _ (Value.ref (s.heap.objs.size + 1) :: us) I2.kIn hl) r2 hq) fun r s' hq' => ?_))
  cases r with
  | error e => exact hx pins σ _ _ e s' I2 hq'
  | ok fl =>
    cases fl with
    | ret u =>
      obtain ⟨v, H', I3, rv, ev, q3⟩ := I2.after hq'
      subst ev
      exact ⟨rv, ⟨V.ref (s.heap.objs.size + 1), H', I3, rfl, q3⟩⟩
    | next => exact False.elim hq'
    | brk => exact False.elim hq'
    | cont => exact False.elim hq'
theorem pe_make (M : Mk X.K C f) (F : FnOk X.prog X.w X.K X.mg X.base CX k f fd ps sp) (hr : Room (k + 1) X.A) (hg : Gl X x) (hm : X.mg x = some (.ref C)) (hb : Binds X.K fd ps ds) (hd : Vals dvs ds) (hx : Passes CX X E)
    (ha : PA X (e :: es) t) (hdb : (x == ("__debug__" : Str)) = false := by decide) (he : starEach (e :: es) X.env = (false, eval e X.env) :: starEach es X.env := by rfl) (hpl : (backTo pos (starEach es X.env)).any (·.1) = false := by rfl) :
    PE X (.Call (.Name x p) (e :: es) [] pos) (tMake C sp dvs E t) := by
  intro pins s σ H Q I h
  refine wpAny_Call_Name_kw (ld_glob I hg hm ?_ hdb)
  refine PySem.W.callWith_K (h₀ := X.base) I.ok.mod.kin M.kp (thn (ha pos pins s σ H _ I h) fun us s1 ⟨vs, H1, I1, r, q⟩ => ⟨I1.kIn, ?_⟩) he hpl
  exact run_make M F hr hb hd hx I1 r q
end
section
variable {X : Cx} {CX : CXT} {k : Nat} {f C : Addr} {fd : FuncData} {ps ks : List Str} {sp : Sp} {E : XK} {x m : Str} {p pos apos kpos : Pos} {e o : Expr} {es : List Expr} {kws : List Keyword} {te ta : TE} {t tk : TA} {nm : Option Str}
variable {g : List Value → List Value → List Value} {gV : List V → List V → List V}
end
structure FnScope (N P : List Str) (sc : Scope) : Prop where
  kind : sc.kind = .function
  co : sc.isCoroutine = false
  gen : sc.isGenerator = false
  nd : N.Nodup
  pre : N.take P.length = P
  par : ∀ x ∈ P, sc.names.lookup x = some .local ∨ sc.names.lookup x = some .cell
  nofree : ∀ y ∈ sc.names, y.2 ≠ .free
theorem bindL_out {kindOf : Str → Option NameKind} {x : Str} : ∀ {binds : List (Str × Value)} {m : Str → Option Value}, (∀ v, (x, v) ∉ binds) → bindL kindOf binds m x = m x
  | [], _, _ => rfl
  | (n, v) :: r, m, h => by
    unfold bindL
    rw [bindL_out fun w hw => h w (List.mem_cons_of_mem _ hw)]
    split
    · have : x ≠ n := by rintro rfl; exact h v List.mem_cons_self
      simp [this]
    · rfl
theorem bindC_out {kindOf : Str → Option NameKind} {x : Str} : ∀ {binds : List (Str × Value)} {m : Str → Option Value}, (∀ v, (x, v) ∉ binds) → bindC kindOf binds m x = m x
  | [], _, _ => rfl
  | (n, v) :: r, m, h => by
    unfold bindC
    rw [bindC_out fun w hw => h w (List.mem_cons_of_mem _ hw)]
    split
    · rfl
    · have : x ≠ n := by rintro rfl; exact h v List.mem_cons_self
      simp [this]
theorem bindL_get {kindOf : Str → Option NameKind} {x : Str} {v : Value} : ∀ {P : List Str} {vs : List Value} {i : Nat} {m : Str → Option Value}, P.Nodup → P[i]? = some x → vs[i]? = some v → kindOf x = some .local →
    bindL kindOf (P.zip vs) m x = some v
  | [], _, _, _, _, h, _, _ => by simp at h
  | _ :: _, [], _, _, _, _, h, _ => by simp at h
  | p :: P, w :: vs, 0, m, nd, h1, h2, hk => by
    simp at h1 h2; subst h1; subst h2
    show bindL kindOf ((p, w) :: P.zip vs) m p = _
    unfold bindL
    rw [bindL_out fun v hv => (List.nodup_cons.mp nd).1 (List.of_mem_zip hv).1, if_pos hk]
    simp
  | p :: P, w :: vs, i + 1, m, nd, h1, h2, hk => by
    show bindL kindOf ((p, w) :: P.zip vs) m x = _
    unfold bindL
    exact bindL_get (i := i) (List.nodup_cons.mp nd).2 (by simpa using h1) (by simpa using h2) hk
theorem bindC_get {kindOf : Str → Option NameKind} {x : Str} {v : Value} : ∀ {P : List Str} {vs : List Value} {i : Nat} {m : Str → Option Value}, P.Nodup → P[i]? = some x → vs[i]? = some v → kindOf x ≠ some .local →
    bindC kindOf (P.zip vs) m x = some v
  | [], _, _, _, _, h, _, _ => by simp at h
  | _ :: _, [], _, _, _, _, h, _ => by simp at h
  | p :: P, w :: vs, 0, m, nd, h1, h2, hk => by
    simp at h1 h2; subst h1; subst h2
    show bindC kindOf ((p, w) :: P.zip vs) m p = _
    unfold bindC
    rw [bindC_out fun v hv => (List.nodup_cons.mp nd).1 (List.of_mem_zip hv).1, if_neg hk]
    simp
  | p :: P, w :: vs, i + 1, m, nd, h1, h2, hk => by
    show bindC kindOf ((p, w) :: P.zip vs) m x = _
    unfold bindC
    exact bindC_get (i := i) (List.nodup_cons.mp nd).2 (by simpa using h1) (by simpa using h2) hk
def start (N : List Str) (vs : List V) : St := vs.map some ++ List.replicate (N.length - vs.length) none
def cxOf (CX : CXT) (P : Program) (w : World) (K : PySem.W.Frag) (mg : Str → Option Value) (base : Heap) (N : List Str) (qual : Str) (scope : Scope) (f : Addr) (cd : Value) (A : Around) (outer : List Env) (s : Shared) (H : Hp) (E : XK) : Cx where
  prog := P
  w := w
  K := K
  mg := mg
  base := base
  A := A.deeper (envOfC qual scope s.heap.objs.size f cd)
  N := N
  s₀ := s
  H₀ := H
  env := envOfC qual scope s.heap.objs.size f cd
  outer := outer
  stack := envOfC qual scope s.heap.objs.size f cd :: outer
  ex := []
  calm := true
  fn := fun _ => true
  pn := []
  xe := fun e s' => wpAny (model P w) (A.deeper (envOfC qual scope s.heap.objs.size f cd)) (leaving (envOfC qual scope s.heap.objs.size f cd) e) (fun _ s'' => CX outer H s E e s'') (fun e' s'' => CX outer H s E e' s'') s'
theorem cell_has {sc : Scope} {n : Nat} {x : Str} (h : sc.names.lookup x = some .cell) : ∃ c, (cellsFrom n sc.names []).lookup x = some c := by
  have q := PySem.W.cellsFrom_some sc.names n [] (.inl h)
  exact Option.isSome_iff_exists.mp q
theorem inv_start {CX : CXT} {P : Program} {w : World} {K : PySem.W.Frag} {mg : Str → Option Value} {base : Heap} {N ps : List Str} {qual : Str} {scope : Scope} {f : Addr} {cd : Value} {A : Around} {outer : List Env} {s s1 : Shared} {H : Hp} {E : XK} {us : List Value} {vs : List V}
    (S : FnScope N ps scope) (hd : A.handled = none) (e0 : Env0 P w K mg base A outer s H) (hl : vs.length = ps.length) (r : Vals vs us)
    (x : InCallC s s.heap.objs.size (bindL (envOfC qual scope s.heap.objs.size f cd).kindOf (ps.zip us) fun _ => none) (cellsFrom (s.heap.objs.size + 1) scope.names []) (bindC (envOfC qual scope s.heap.objs.size f cd).kindOf (ps.zip us) fun _ => none) s1) :
    Inv (cxOf CX P w K mg base N qual scope f cd A outer s H E) [] (start N vs) H s1 := by
  have hpl : ps.length ≤ N.length := by have := congrArg List.length S.pre; rw [List.length_take] at this; omega
  obtain ⟨h1, tk, rfl, hk⟩ := x.done
  have noA : ∀ b : Addr, b ∉ (cxOf CX P w K mg base N qual scope f cd A outer s H E).ex := fun b z => absurd (show b ∈ ([] : List Addr) from z) (by simp)
  refine ⟨⟨e0.mod, S.kind, rfl, rfl, Nat.le_refl _, fun y z c h1 h2 => ?_, fun y hy => ?_, fun y c _ h => ?_, fun _ => hd, Around.frames_deeper e0.frames, .inr ⟨rfl, rfl⟩, fun b z => absurd z (noA b), e0.bs, e0.bsz, fun b _ _ => noA b, fun b z => absurd z (noA b), e0.funs, e0.frf⟩,
    rfl, e0.bare, Un.kept hk, ⟨_, x.toInCall.ns, fun i y v h1 h2 h3 => ?_⟩, fun y c h => ⟨_, x.cell y c h⟩, e0.hok.fresh (Nat.le_refl _), fun y c h => ?_, fun p hp => absurd (show p ∈ ([] : List (Addr × Obj)) from hp) (by simp), e0.hok.kept hk, ?_⟩
  · exact name_of_addr x.apart (PySem.mem_of_lookup h1) (PySem.mem_of_lookup h2)
  · have hy : scope.names.lookup y = some .cell ∨ scope.names.lookup y = some .free := hy
    rcases hy with hy | hy
    · exact cell_has hy
    · exact absurd rfl (S.nofree _ (PySem.mem_of_lookup hy))
  · exact Nat.le_of_lt (x.above y c (PySem.mem_of_lookup h))
  · have hi : i < vs.length := by
      unfold start at h2
      by_cases hi : i < vs.length
      · exact hi
      · rw [List.getElem?_append_right (by simpa using hi)] at h2
        rw [List.getElem?_replicate] at h2
        split at h2 <;> cases h2
    have ha : vs[i]? = some v := by
      unfold start at h2
      rw [List.getElem?_append_left (by simpa using hi), List.getElem?_map] at h2
      cases e : vs[i]? with
      | none => rw [e] at h2; cases h2
      | some a => rw [e] at h2; cases h2; rfl
    obtain ⟨u, hu, rv⟩ := r.get ha
    have hp : ps[i]? = some y := by
      rw [← S.pre, List.getElem?_take_of_lt (by omega)]; exact h1
    have ndP : ps.Nodup := by rw [← S.pre]; exact S.nd.sublist (List.take_sublist _ _)
    refine ⟨u, rv, ?_⟩
    rcases S.par y (List.mem_of_getElem? hp) with k | k
    · exact .inl ⟨k, bindL_get ndP hp hu k⟩
    · obtain ⟨c, e⟩ := cell_has (n := s.heap.objs.size + 1) k
      refine .inr ⟨.inl k, c, e, ?_⟩
      have q := x.cell y c e
      rw [bindC_get ndP hp hu (by show scope.names.lookup y ≠ _; rw [k]; decide)] at q
      exact q
  · exact e0.hok.fresh (Nat.le_of_lt (x.above y c (PySem.mem_of_lookup h)))
  · unfold start
    show _ = N.length
    rw [List.length_append, List.length_map, List.length_replicate]
    omega
theorem fn_of {CX : CXT} {P : Program} {w : World} {K : PySem.W.Frag} {mg : Str → Option Value} {base : Heap} {k : Nat} {f : Addr} {name qual : Str} {params : Arguments} {body : List Stmt} {scope : Scope} {dV kV doc pm cdv ct oc : Value} {an od : Option Addr}
    {osl : Array (Option Value)} {N ps : List Str} {sp : Sp} (lk : K.lookup f = some ⟨oc, od, .func (PySem.W.fnOf name qual params body scope dV kV doc pm an cdv ct), osl⟩) (hcd : PySem.W.codeIn K cdv qual = true) (S : FnScope N ps scope)
    (len : ∀ vs H Q E, sp vs H Q E → vs.length = ps.length)
    (hbody : ∀ (A : Around) (outer : List Env) (s : Shared) (H : Hp) (vs : List V) (Q : VK) (E : XK), Room k (A.deeper (envOfC qual scope s.heap.objs.size f cdv)) → sp vs H Q E →
      ∃ t, PSs (cxOf CX P w K mg base N qual scope f cdv A outer s H E) body t ∧ t { nx := fun _ H' => Q .non H', rt := Q } (start N vs) H) :
    FnOk P w K mg base CX (k + 1) f (PySem.W.fnOf name qual params body scope dV kV doc pm an cdv ct) ps sp := by
  refine ⟨len, fun A outer s H args us vs Q E hr e0 hb r hsp => ?_⟩
  have hl := len _ _ _ _ hsp
  have KX : K.In s.heap := e0.mod.kin.keeps fun b o e => (e0.bs b o e).1
  have lim : s.heap.NoLimit := e0.mod.nolimit.keeps fun b o e => (e0.bs b o e).1
  have hkind : ∀ y ∈ ps.zip us, scope.names.lookup y.1 = some .local ∨ (scope.names.lookup y.1 = some .cell ∧ ((cellsFrom (s.heap.objs.size + 1) scope.names []).lookup y.1).isSome = true) := fun ⟨n, v⟩ hy => by
    rcases S.par n (List.of_mem_zip hy).1 with q | q
    · exact .inl q
    · exact .inr ⟨q, PySem.W.cellsFrom_some _ _ _ (.inl q)⟩
  refine codeAny_call_function hr.depth (KX _ _ lk) rfl S.co S.gen rfl (PySem.W.codeRec_of KX hcd) (hb _ _ _ _ ?_)
  refine wpAny_newFunctionEnv_cells S.kind hkind fun env he s1 x => ?_
  subst he
  refine ⟨lim.keeps x.toInCall.keep, codeAny_func ?_⟩
  obtain ⟨t, ht, hq⟩ := hbody A outer s H vs Q E (hr.deeper _) hsp
  have I : Inv (cxOf CX P w K mg base N qual scope f cdv A outer s H E) [] (start N vs) H s1 := inv_start S hr.hd e0 hl r x
  refine wpAny_mono (ht [] s1 (start N vs) H _ I hq) (fun fl s' hs => ?_) fun e s' hs => hs
  have fin : ∀ {σ' : St} {H' : Hp} {v : V} {u : Value}, Inv (cxOf CX P w K mg base N qual scope f cdv A outer s H E) [] σ' H' s' → RelV v u → Q v H' → CE outer P w H s Q u s' :=
    fun {σ' H' v u} J rv q => ⟨v, H', J.os, J.bare, J.base, J.hok, rv, q⟩
  cases fl with
  | ret u =>
    obtain ⟨v, σ', H', J, rv, q⟩ := hs
    exact fin J rv q
  | next =>
    obtain ⟨σ', H', J, q⟩ := hs
    exact fin (v := V.non) (u := Value.none) J rfl q
  | brk =>
    obtain ⟨_, _, _, q⟩ := hs
    exact False.elim q
  | cont =>
    obtain ⟨_, _, _, q⟩ := hs
    exact False.elim q
end L2
namespace L2
open PySem PySem.Spec PyProof.Rows
section
variable {X : Cx} {x : Str} {p pos : Pos} {e : Expr} {es : List Expr} {t : TA} {id T : String} {r : List V → Hp → VK → Prop}
def tCB (r : List V → Hp → VK → Prop) (t : TA) : TE := fun σ H Q => t σ H fun vs H1 => r vs H1 Q
theorem pe_callB (hc : CallR X (.builtin id) r) (hg : Gl X x) (hm : X.mg x = none) (hv : bootBuiltins x = some (.builtin id)) (ha : PA X (e :: es) t) (hn : x ≠ "__name__" := by decide) (hdb : (x == ("__debug__" : Str)) = false := by decide)
    (he : starEach (e :: es) X.env = (false, eval e X.env) :: starEach es X.env := by rfl) (hpl : (backTo pos (starEach es X.env)).any (·.1) = false := by rfl) : PE X (.Call (.Name x p) (e :: es) [] pos) (tCB r t) := by
  intro pins s σ H Q I h
  refine wpAny_Call_Name_kw (ld_blt I hg hm hv ?_ hn hdb)
  exact PyProof.Rows.callWith_builtin1 (thn (ha pos pins s σ H _ I h) fun us s1 ⟨vs, H1, I1, r1, q1⟩ => hc pins s1 σ H1 vs us Q I1 r1 q1) he hpl
theorem pe_callTy (hc : CallR X (.type T) r) (hg : Gl X x) (hm : X.mg x = none) (hv : bootBuiltins x = some (.type T)) (ha : PA X (e :: es) t) (hn : x ≠ "__name__" := by decide) (hdb : (x == ("__debug__" : Str)) = false := by decide)
    (he : starEach (e :: es) X.env = (false, eval e X.env) :: starEach es X.env := by rfl) (hpl : (backTo pos (starEach es X.env)).any (·.1) = false := by rfl) : PE X (.Call (.Name x p) (e :: es) [] pos) (tCB r t) := by
  intro pins s σ H Q I h
  refine wpAny_Call_Name_kw (ld_blt I hg hm hv ?_ hn hdb)
  exact PyProof.Rows.callWith_type1 (thn (ha pos pins s σ H _ I h) fun us s1 ⟨vs, H1, I1, r1, q1⟩ => hc pins s1 σ H1 vs us Q I1 r1 q1) he hpl
end
end L2
namespace HT
open PySem PyProof.Rows
section
open PySem.SeqAt
open PySem.AutoSeq1 (wpAny_loadPart')
open PySem.MeetsSeq PySem.MeetsSeq2 PySem.MeetsSeq3
end
section
variable {prog : Program} {w : World} {A : Around} {E : Value → Shared → Prop} {s : Shared}
def sIx (n d : Nat) : Option Int → Nat
  | none => d
  | some v => if v < 0 then (v + (n : Int)).toNat else min v.toNat n
end
end HT
namespace L2
open PySem PySem.Spec PyProof.Rows
abbrev TO := St → Hp → (Option Int → Hp → Prop) → Prop
def PO (X : Cx) (e : Option Expr) (t : TO) : Prop :=
  ∀ (pins : List (Addr × Obj)) (s : Shared) (σ : St) (H : Hp) (Q : Option Int → Hp → Prop), Inv X pins σ H s → t σ H Q →
    wpAny (model X.prog X.w) X.A (evalPart e X.env) (fun u s' => ∃ o H', Inv X pins σ H' s' ∧ IsPart u o ∧ Q o H') X.xe s
def tNoPart : TO := fun _ H Q => Q none H
def tPart (t : TE) : TO := fun σ H Q => t σ H fun x H1 => ∃ i, x = .int i ∧ Q (some i) H1
section
variable {X : Cx} {e : Expr} {te : TE} {lo hi : Option Expr} {tl th : TO} {pos p2 : Pos}
theorem po_none : PO X none tNoPart := by
  intro pins s σ H Q I h
  rw [evalPart_none]
  exact wpAny_pure ⟨none, H, I, .none, h⟩
theorem po_some (h : PE X e te) : PO X (some e) (tPart te) := by
  intro pins s σ H Q I hw
  rw [evalPart_some]
  refine thn (h pins s σ H _ I hw) fun u s1 ⟨x, H1, I1, r1, q1⟩ => ?_
  obtain ⟨i, rfl, q⟩ := q1
  obtain ⟨t, rfl⟩ := r1
  exact ⟨some i, H1, I1, .int i t, q⟩
def SlR (X : Cx) (r : V → Option Int → Option Int → Hp → VK → Prop) : Prop :=
  ∀ (pins : List (Addr × Obj)) (s : Shared) (σ : St) (H : Hp) (x : V) (v vl vu : Value) (lo hi : Option Int) (sl : Addr) (Q : VK), Inv X pins σ H s → RelV x v → s.heap.IsSliceOf sl vl vu .none → IsPart vl lo → IsPart vu hi → r x lo hi H Q →
    ∃ T id, typeLookup (.type T) "__getitem__" = pure (some (.builtin id)) ∧ s.TypeIs v T ∧ wpAny (model X.prog X.w) X.A (getItem v (.ref sl)) (EP X pins σ Q) X.xe s
def tSl (r : V → Option Int → Option Int → Hp → VK → Prop) (te : TE) (tl th : TO) : TE := fun σ H Q => te σ H fun x H1 => tl σ H1 fun l H2 => th σ H2 fun u H3 => r x l u H3 Q
theorem pe_slice {r : V → Option Int → Option Int → Hp → VK → Prop} (hr : SlR X r) (he : PE X e te) (hl : PO X lo tl) (hu : PO X hi th) : PE X (.Subscript e (.Slice lo hi none p2) pos) (tSl r te tl th) := by
  intro pins s σ H Q I h
  refine Subscript_ (thn (he pins s σ H _ I h) fun v s1 ⟨x, H1, I1, r1, q1⟩ => ?_)
  refine wpAny_Slice (thn (hl pins s1 σ H1 _ I1 q1) fun vl s2 ⟨l, H2, I2, pl, q2⟩ => thn (hu pins s2 σ H2 _ I2 q2) fun vu s3 ⟨u, H3, I3, pu, q3⟩ => ?_)
  rw [evalPart_none]
  refine wpAny_pure ?_
  have I4 : Inv X pins σ H3 { s3 with heap := s3.heap.push { cls := .type "slice", data := .fields #[vl, vu, .none] } } := I3.kept (t' := s3.toks) fun b ob q => Heap.get?_push_of_some _ q
  obtain ⟨T, id, hT, ht, hg⟩ := hr pins { s3 with heap := s3.heap.push { cls := .type "slice", data := .fields #[vl, vu, .none] } } σ H3 x v vl vu l u s3.heap.objs.size Q I4 r1 (Heap.IsSliceOf.new ..) pl pu q3
  show wpAny (model X.prog X.w) X.A (subscriptTail e (.Slice lo hi none p2) v (.ref s3.heap.objs.size)) (EP X pins σ Q) X.xe { s3 with heap := s3.heap.push { cls := .type "slice", data := .fields #[vl, vu, .none] } }
  exact tail_any (ops := [.ref s3.heap.objs.size, v]) ht hT hg (by with_unfolding_all rfl)
def cutV (xs : List V) (lo hi : Option Int) : List V := (xs.drop (HT.sIx xs.length 0 lo)).take (HT.sIx xs.length xs.length hi - HT.sIx xs.length 0 lo)
theorem cutV_length (xs : List V) (lo hi : Option Int) : (cutV xs lo hi).length ≤ xs.length := by
  unfold cutV
  rw [List.length_take, List.length_drop]
  omega
end
end L2
namespace L2
open PySem PySem.Spec PyProof.Rows
def ixN (n : Nat) (i : Int) : Option Nat := if 0 ≤ i then (if i < n then some i.toNat else none) else if -(n : Int) ≤ i then some (i + n).toNat else none
def atI {α : Type} (xs : List α) (i : Int) : Option α := (ixN xs.length i).bind fun j => xs[j]?
theorem ixN_seq {n : Nat} {i : Int} {j : Nat} (h : ixN n i = some j) : seqIndex? i n = some j ∧ j < n ∧ -(n : Int) ≤ i ∧ i < n := by
  unfold ixN at h
  by_cases h0 : 0 ≤ i
  · rw [if_pos h0] at h
    by_cases h1 : i < n
    · rw [if_pos h1] at h
      have e : i.toNat = j := Option.some.inj h
      exact ⟨by rw [seqIndex_of h0 h1, e], by omega, by omega, h1⟩
    · rw [if_neg h1] at h; cases h
  · rw [if_neg h0] at h
    by_cases h1 : -(n : Int) ≤ i
    · rw [if_pos h1] at h
      have e : (i + n).toNat = j := Option.some.inj h
      exact ⟨by rw [seqIndex_neg (by omega) h1, e], by omega, h1, by omega⟩
    · rw [if_neg h1] at h; cases h
theorem atI_get {α : Type} {xs : List α} {i : Int} {v : α} (h : atI xs i = some v) : ∃ j, seqIndex? i xs.length = some j ∧ xs[j]? = some v ∧ j < xs.length ∧ -(xs.length : Int) ≤ i ∧ i < xs.length := by
  unfold atI at h
  cases e : ixN xs.length i with
  | none => rw [e] at h; cases h
  | some j =>
    rw [e] at h
    obtain ⟨h1, h2, h3, h4⟩ := ixN_seq e
    exact ⟨j, h1, h, h2, h3, h4⟩
theorem atI_nat {α : Type} {xs : List α} {j : Nat} {v : α} (h : xs[j]? = some v) : atI xs (j : Int) = some v := by
  have hj : j < xs.length := (List.getElem?_eq_some_iff.mp h).1
  have e : ixN xs.length (j : Int) = some j := by
    unfold ixN
    rw [if_pos (by omega), if_pos (by omega)]; simp
  unfold atI; rw [e]; exact h
def PlainIx (b : Expr) : Prop := ∀ o i, subscripted b false o i = operate [o, i] (getItem o i)
def IxR (X : Cx) (r : R2) : Prop :=
  ∀ (value slice : Expr) (pins : List (Addr × Obj)) (s : Shared) (σ : St) (H : Hp) (x y : V) (v u : Value) (Q : VK), Inv X pins σ H s → RelV x v → RelV y u → r x y H Q →
    subscripted slice false v u = operate [v, u] (getItem v u) → wpAny (model X.prog X.w) X.A (subscriptTail value slice v u) (EP X pins σ Q) X.xe s
def MtR (X : Cx) (id : String) (r : V → List V → Hp → VK → Prop) : Prop :=
  ∀ (pins : List (Addr × Obj)) (s : Shared) (σ : St) (H : Hp) (x : V) (xs : List V) (v : Value) (us : List Value) (Q : VK), Inv X pins σ H s → RelV x v → Vals xs us → r x xs H Q →
    wpAny (model X.prog X.w) X.A (call (.builtin id) (v :: us)) (EP X pins σ Q) X.xe s
section
variable {X : Cx} {a b : Expr} {ta tb : TE} {pos : Pos}
theorem pe_ix {r : R2} (hr : IxR X r) (ha : PE X a ta) (hb : PE X b tb) (hs : PlainIx b) : PE X (.Subscript a b pos) (tOp r ta tb) := by
  intro pins s σ H Q I h
  exact Subscript_ (binT ha hb I h fun v u s2 x y H2 I2 rx ry q => hr a b pins s2 σ H2 x y v u Q I2 rx ry q (hs _ _))
def rIxL (K : PySem.W.Frag) : R2 := fun x y H Q => ∃ p xs i v, x = .ref p ∧ y = .int i ∧ SqL K H p xs ∧ atI xs i = some v ∧ Q v H
def rIxT (K : PySem.W.Frag) : R2 := fun x y H Q => ∃ p xs i v, x = .ref p ∧ y = .int i ∧ SqT K H p xs ∧ atI xs i = some v ∧ Q v H
def rIxS : R2 := fun x y H Q => ∃ z i c, x = .str z ∧ y = .int i ∧ z.length ≤ sizeLine ∧ atI z.cps.toList i = some c ∧ Q (.str ⟨#[c]⟩) H
theorem ix_list : IxR X (rIxL X.K) := by
  intro value slice pins s σ H x y v u Q I rx ry h hs
  obtain ⟨p, xs, i, z, rfl, rfl, hq, he, q⟩ := h
  cases rx
  obtain ⟨t, rfl⟩ := ry
  obtain ⟨its, r, pl, hz⟩ := I.list hq
  obtain ⟨j, h1, h2, h3, h4, h5⟩ := atI_get he
  obtain ⟨w, ew, rw'⟩ := r.get h2
  have hl := r.length
  have hn := line63
  have fin : EP X pins σ Q w s := ⟨z, H, I, rw', q⟩
  by_cases h0 : 0 ≤ i
  · have hj : i.toNat = j := by
      rw [seqIndex_of h0 h5] at h1
      exact Option.some.inj h1
    exact item_listR pl.isList h0 (by omega) (by rw [hj]; simpa using ew) fin hs
  · have hj : (i + (its.toArray.size : Int)).toNat = j := by
      rw [seqIndex_neg (by omega) h4] at h1
      rw [List.size_toArray, ← hl]
      exact Option.some.inj h1
    exact subscriptTail_builtinR (x := w) pl.isList.typeIs slot_list_getitem.lookup
      (wpAny_getItem_list_neg (Q := fun r s' => r = w ∧ EP X pins σ Q r s') pl.isList (by omega) (by rw [List.size_toArray] <;> omega) (by omega) (by rw [hj]; simpa using ew) ⟨rfl, fin⟩) hs
theorem ix_tup : IxR X (rIxT X.K) := by
  intro value slice pins s σ H x y v u Q I rx ry h hs
  obtain ⟨p, xs, i, z, rfl, rfl, hq, he, q⟩ := h
  cases rx
  obtain ⟨t, rfl⟩ := ry
  obtain ⟨its, r, pl, hz⟩ := I.tuple hq
  obtain ⟨j, h1, h2, h3, h4, h5⟩ := atI_get he
  obtain ⟨w, ew, rw'⟩ := r.get h2
  have hl := r.length
  have hn := line63
  have fin : EP X pins σ Q w s := ⟨z, H, I, rw', q⟩
  exact subscriptTail_builtinR (x := w) pl.typeIs slot_tuple_getitem.lookup
    (getItem_tuple (j := j) (Q := fun r s' => r = w ∧ EP X pins σ Q r s') pl (by omega) (by omega) (by rw [List.size_toArray, ← hl]; exact h1) (by simpa using ew) ⟨rfl, fin⟩) hs
theorem ix_str : IxR X rIxS := by
  intro value slice pins s σ H x y v u Q I rx ry h hs
  obtain ⟨z, i, c, rfl, rfl, hz, he, q⟩ := h
  obtain ⟨t, rfl⟩ := rx
  obtain ⟨t', rfl⟩ := ry
  obtain ⟨j, h1, h2, h3, h4, h5⟩ := atI_get he
  have hl : z.cps.toList.length = z.length := by simp [Str.length]
  rw [hl] at h1 h4 h5
  have hn := line63
  exact tail_any (typeIs_str s z t) slot_str_getitem.lookup (getItem_str (c := c) (by
    have e1 : decide (i < -(2 ^ 63 : Int)) = false := decide_eq_false (by omega)
    have e2 : decide (i ≥ 2 ^ 63) = false := decide_eq_false (by omega)
    rw [e1, e2, Bool.or_false]) (by rw [h1]; simpa using h2) ⟨.str ⟨#[c]⟩, H, I.tok _, ⟨_, rfl⟩, q⟩) hs
theorem mapSeq_set (its : List Value) (n j : Nat) (u : Value) : Obj.mapSeq (·.setIfInBounds j u) { cls := .type "list", data := .seq its.toArray n } = { cls := .type "list", data := .seq (its.set j u).toArray n } := by
  simp [Obj.mapSeq]
theorem Inv.lst {pins : List (Addr × Obj)} {σ : St} {H : Hp} {s : Shared} {p : Addr} {xs : List V} (I : Inv X pins σ H s) (h : H p = some (.lst xs)) :
    ∃ (its : List Value) (n : Nat), Vals xs its ∧ s.heap.get? p = some { cls := .type "list", data := .seq its.toArray n } ∧ xs.length ≤ sizeLine := by
  obtain ⟨z, its, n, r, e⟩ := I.hok p _ h
  exact ⟨its, n, r, e, z⟩
theorem Inv.lstUpd {pins : List (Addr × Obj)} {σ : St} {H : Hp} {s : Shared} {p : Addr} {xs ys : List V} {its its' : List Value} {n n' : Nat} {f : Obj → Obj} (I : Inv X pins σ H s) (h : H p = some (.lst xs))
    (ho : s.heap.get? p = some { cls := .type "list", data := .seq its.toArray n }) (hf : f { cls := .type "list", data := .seq its.toArray n } = { cls := .type "list", data := .seq its'.toArray n' }) (r : Vals ys its') (hz : ys.length ≤ sizeLine) (t : Nat) :
    Inv X pins σ (upd H p (.lst ys)) { s with heap := s.heap.update p f, toks := t } := by
  have e : (s.heap.update p f).get? p = some { cls := .type "list", data := .seq its'.toArray n' } := by
    rw [Heap.get?_update_self f ho (by rw [hf] <;> rfl), hf]
  refine I.write (x := p) (e := p) (by rw [h]; trivial) (.inl rfl) (fun b u hb q => (Heap.get?_update_other _ _ (Ne.symm hb)).trans q) ⟨_, e⟩ ?_
  exact ⟨hz, its', n', r, e⟩
def rSetL : V → V → V → Hp → (Hp → Prop) → Prop := fun o i v H Q => ∃ p xs k j, o = .ref p ∧ i = .int k ∧ H p = some (.lst xs) ∧ ixN xs.length k = some j ∧ Q (upd H p (.lst (xs.set j v)))
theorem set_list : PSet X rSetL := by
  intro pins s σ H o i v ov iv u Q I ro ri rv h
  obtain ⟨p, xs, k, j, rfl, rfl, hp, hj, q⟩ := h
  cases ro
  obtain ⟨t, rfl⟩ := ri
  obtain ⟨its, n, r, ho, hz⟩ := I.lst hp
  obtain ⟨h1, h2, h3, h4⟩ := ixN_seq hj
  have hl := r.length
  have hn := line63
  have I' : Inv X pins σ (upd H p (.lst (xs.set j v))) { s with heap := s.heap.update p (Obj.mapSeq (·.setIfInBounds j u)) } :=
    I.lstUpd hp ho (mapSeq_set its n j u) (r.set rv j) (by rw [List.length_set]; exact hz) s.toks
  by_cases h0 : 0 ≤ k
  · have hk : k.toNat = j := by
      rw [seqIndex_of h0 h4] at h1
      exact Option.some.inj h1
    exact PySem.W.ki_setAt ho h0 (by omega) (by rw [List.size_toArray, ← hl]; exact h4) (by rw [hk]; exact ⟨_, I', q⟩)
  · have hk : (k + (its.toArray.size : Int)).toNat = j := by
      rw [seqIndex_neg (by omega) h3] at h1
      rw [List.size_toArray, ← hl]
      exact Option.some.inj h1
    exact PySem.W.ki_setBack ho (by omega) (by rw [List.size_toArray, ← hl]; exact h3) (by omega) (by rw [hk]; exact ⟨_, I', q⟩)
theorem slice_bounds (lo hi : Option Int) (n : Nat) : (sliceBounds lo hi none n).1 = ((HT.sIx n 0 lo : Nat) : Int) ∧ (sliceBounds lo hi none n).2.1 = ((HT.sIx n n hi : Nat) : Int) ∧ (sliceBounds lo hi none n).2.2 = 1 := by
  refine ⟨?_, ?_, rfl⟩
  · cases lo with
    | none => simp [sliceBounds, HT.sIx]
    | some i =>
      simp only [sliceBounds, HT.sIx, Option.getD_none, show (1 : Int) > 0 by decide, if_true]
      by_cases h : i < 0
      · simp only [h, if_true] <;> omega
      · simp only [h, if_false] <;> omega
  · cases hi with
    | none => simp [sliceBounds, HT.sIx]
    | some i =>
      simp only [sliceBounds, HT.sIx, Option.getD_none, show (1 : Int) > 0 by decide, if_true]
      by_cases h : i < 0
      · simp only [h, if_true] <;> omega
      · simp only [h, if_false] <;> omega
theorem slicePick_cut (its : List Value) (lo hi : Option Int) : slicePick its.toArray lo hi none = ((its.drop (HT.sIx its.length 0 lo)).take (HT.sIx its.length its.length hi - HT.sIx its.length 0 lo)).toArray := by
  obtain ⟨h1, h2, h3⟩ := slice_bounds lo hi its.toArray.size
  unfold slicePick
  rw [h1, h2, h3]
  simp only [sliceRange_one, pick_run, List.size_toArray] <;> rfl
def rSlL (K : PySem.W.Frag) : V → Option Int → Option Int → Hp → VK → Prop := fun x lo hi H Q => ∃ a xs, x = .ref a ∧ SqL K H a xs ∧ ∀ p, H p = none → Q (.ref p) (upd H p (.lst (cutV xs lo hi)))
theorem sl_list : SlR X (rSlL X.K) := by
  intro pins s σ H x v vl vu lo hi sl Q I rx hs pl pu h
  obtain ⟨a, xs, rfl, hx, q⟩ := h
  cases rx
  obtain ⟨its, r, ht, hz⟩ := I.list hx
  have hlen := r.length
  refine ⟨"list", _, slot_list_getitem.lookup, ht.isList.typeIs, ?_⟩
  refine wpAny_getItem_list_slice ht.isList hs pl pu .none (by simp) ?_ (by rw [List.size_toArray] <;> omega)
  rw [slicePick_cut, ← hlen]
  refine ⟨.ref s.heap.objs.size, _, I.laid (t' := s.toks) (o := .lst (cutV xs lo hi)) (fun b ob q => Heap.get?_push_of_some _ q) (Nat.le_refl _) ?_, rfl, q _ (I.hok.fresh (Nat.le_refl _))⟩
  exact ⟨Nat.le_trans (cutV_length xs lo hi) hz, _, 0, (r.drop (HT.sIx xs.length 0 lo)).take (HT.sIx xs.length xs.length hi - HT.sIx xs.length 0 lo), Heap.get?_push_size _ rfl⟩
def flatV : V → Bool
  | .non => true
  | .bl _ => true
  | .int _ => true
  | .str _ => true
  | _ => false
def eqV : V → V → Bool
  | .non, .non => true
  | .bl a, .bl b => a == b
  | .bl a, .int b => (if a then 1 else 0) == b
  | .int a, .bl b => a == (if b then 1 else 0)
  | .int a, .int b => a == b
  | .str a, .str b => a == b
  | _, _ => false
theorem eqAt_V {A : Around} {s : Shared} {y x : V} {u v : Value} (ry : RelV y u) (rx : RelV x v) (fy : flatV y = true) (fx : flatV x = true) : SeqAt.EqAt A s u v (eqV y x) := by
  cases y with
  | non =>
    cases ry
    cases x with
    | non => cases rx; exact SeqAt.EqAt.same _
    | bl b => cases rx; exact SeqAt.EqAt.none_bool b
    | int b => obtain ⟨t, rfl⟩ := rx; exact SeqAt.EqAt.none_int b t
    | str b => obtain ⟨t, rfl⟩ := rx; exact SeqAt.EqAt.none_str b t
    | _ => exact absurd (show false = true from fx) Bool.false_ne_true
  | bl a =>
    cases ry
    cases x with
    | non => cases rx; exact SeqAt.EqAt.bool_none a
    | bl b => cases rx; exact SeqAt.EqAt.bool_bool a b
    | int b => obtain ⟨t, rfl⟩ := rx; exact SeqAt.EqAt.bool_int a b t
    | str b => obtain ⟨t, rfl⟩ := rx; exact SeqAt.EqAt.bool_str a b t
    | _ => exact absurd (show false = true from fx) Bool.false_ne_true
  | int a =>
    obtain ⟨t', rfl⟩ := ry
    cases x with
    | non => cases rx; exact SeqAt.EqAt.int_none a t'
    | bl b => cases rx; exact SeqAt.EqAt.int_bool a t' b
    | int b => obtain ⟨t, rfl⟩ := rx; exact SeqAt.EqAt.int_int a t' b t
    | str b => obtain ⟨t, rfl⟩ := rx; exact SeqAt.EqAt.int_str a t' b t
    | _ => exact absurd (show false = true from fx) Bool.false_ne_true
  | str a =>
    obtain ⟨t', rfl⟩ := ry
    cases x with
    | non => cases rx; exact SeqAt.EqAt.str_none a t'
    | bl b => cases rx; exact SeqAt.EqAt.str_bool a t' b
    | int b => obtain ⟨t, rfl⟩ := rx; exact SeqAt.EqAt.str_int a t' b t
    | str b => obtain ⟨t, rfl⟩ := rx; exact SeqAt.EqAt.str_str a t' b t
    | _ => exact absurd (show false = true from fx) Bool.false_ne_true
  | _ => exact absurd (show false = true from fy) Bool.false_ne_true
def eqU (x : V) (u : Value) : Bool := match u with
  | .none => eqV .non x
  | .bool b => eqV (.bl b) x
  | .int i _ => eqV (.int i) x
  | .str z _ => eqV (.str z) x
  | _ => false
theorem eqU_of {x y : V} {u : Value} (r : RelV y u) (f : flatV y = true) : eqU x u = eqV y x := by
  cases y with
  | non => cases r; rfl
  | bl b => cases r; rfl
  | int i => obtain ⟨t, rfl⟩ := r; rfl
  | str z => obtain ⟨t, rfl⟩ := r; rfl
  | _ => exact absurd (show false = true from f) Bool.false_ne_true
theorem any_eqU {x : V} : ∀ {xs : List V} {us : List Value}, Vals xs us → xs.all flatV = true → us.any (eqU x) = xs.any fun y => eqV y x
  | _, _, .nil, _ => rfl
  | y :: xs, u :: us, .cons r t, f => by
    rw [List.all_cons, Bool.and_eq_true] at f
    rw [List.any_cons, List.any_cons, eqU_of r f.1, any_eqU t f.2]
theorem mem_eqAt {A : Around} {s : Shared} {x : V} {v : Value} (rx : RelV x v) (fx : flatV x = true) : ∀ {xs : List V} {us : List Value}, Vals xs us → xs.all flatV = true → ∀ u ∈ us, SeqAt.EqAt A s u v (eqU x u)
  | _, _, .nil, _ => fun u hu => by cases hu
  | y :: xs, u :: us, .cons r t, f => fun u' hu => by
    rw [List.all_cons, Bool.and_eq_true] at f
    rcases List.mem_cons.mp hu with rfl | hu
    · rw [eqU_of r f.1]; exact eqAt_V r rx f.1 fx
    · exact mem_eqAt rx fx t f.2 u' hu
def inV (x : V) (xs : List V) : Bool := xs.any fun y => eqV y x
def rIn (K : PySem.W.Frag) (neg : Bool) : R2 := fun x y H Q => ∃ p xs, y = .ref p ∧ (SqL K H p xs ∨ SqT K H p xs) ∧ flatV x = true ∧ xs.all flatV = true ∧ Q (.bl (if neg then !inV x xs else inV x xs)) H
theorem op_in_seq : OpR X (compareOp .In) (rIn X.K false) := by
  intro pins s σ H x y v u Q I rx ry h
  obtain ⟨p, xs, rfl, hq, fx, fs, q⟩ := h
  cases ry
  rcases hq with hq | hq
  · obtain ⟨its, r, pl, hz⟩ := I.list hq
    refine SeqAt.in_listAt (eqU x) pl.isList (fun w hw => mem_eqAt rx fx r fs w (by simpa using hw)) ⟨.bl _, H, I, rfl, ?_⟩
    rw [show its.toArray.any (eqU x) = its.any (eqU x) by simp, any_eqU r fs]
    exact q
  · obtain ⟨its, r, pl, hz⟩ := I.tuple hq
    refine SeqAt.in_tupleAt (eqU x) pl (fun w hw => mem_eqAt rx fx r fs w (by simpa using hw)) ⟨.bl _, H, I, rfl, ?_⟩
    rw [show its.toArray.any (eqU x) = its.any (eqU x) by simp, any_eqU r fs]
    exact q
theorem call_len_seq : CallR X (.builtin "len") (fun xs H Q => ∃ p ys, xs = [.ref p] ∧ (SqL X.K H p ys ∨ SqT X.K H p ys) ∧ Q (.int ys.length) H) := by
  intro pins s σ H xs us Q I r h
  obtain ⟨p, ys, rfl, hq, q⟩ := h
  obtain ⟨u, rfl, rx⟩ := vals1 r
  cases rx
  have hn := line63
  rcases hq with hq | hq
  · obtain ⟨its, r', pl, hz⟩ := I.list hq
    have hlen := r'.length
    exact Calls.call_len_list pl.isList (by simp only [List.size_toArray] <;> omega) ⟨.int ys.length, H, I.tok _, ⟨s.toks + 1, by rw [List.size_toArray, hlen]⟩, q⟩
  · obtain ⟨its, r', pl, hz⟩ := I.tuple hq
    have hlen := r'.length
    exact len_tuple pl (by simp only [List.size_toArray] <;> omega) ⟨.int ys.length, H, I.tok _, ⟨s.toks + 1, by rw [List.size_toArray, hlen]⟩, q⟩
theorem call_len_str : CallR X (.builtin "len") (fun xs H Q => ∃ z, xs = [.str z] ∧ z.length ≤ sizeLine ∧ Q (.int z.length) H) := by
  intro pins s σ H xs us Q I r h
  obtain ⟨z, rfl, hz, q⟩ := h
  obtain ⟨u, rfl, t, rfl⟩ := vals1 r
  have hn := line63
  exact len_str (by omega) ⟨.int z.length, H, I.tok _, ⟨_, rfl⟩, q⟩
def tyV (K : PySem.W.Frag) (T : String) (x : V) (H : Hp) : Prop := match x with
  | .str _ => T = "str"
  | .int _ => T = "int"
  | .ref p => (T = "list" ∧ ∃ xs, SqL K H p xs) ∨ (T = "tuple" ∧ ∃ o, K.lookup p = some o ∧ o.cls = .type "tuple" ∧ o.dict = none) ∨
      (T = "dict" ∧ ((∃ kvs, H p = some (.dK kvs)) ∨ ∃ kvs, H p = some (.dT kvs))) ∨ (T = "set" ∧ ∃ S n, H p = some (.set S n))
  | _ => False
theorem tyV_is {pins : List (Addr × Obj)} {σ : St} {H : Hp} {s : Shared} {T : String} {x : V} {v : Value} (I : Inv X pins σ H s) (r : RelV x v) (ty : tyV X.K T x H) :
    s.TypeIs v T ∧ ∀ a, v = .ref a → ∃ ob, s.heap.get? a = some ob ∧ ob.dict = none := by
  cases x with
  | str z =>
    obtain ⟨t, rfl⟩ := r
    cases (show T = "str" from ty)
    exact ⟨typeIs_str s z t, fun _ e => nomatch e⟩
  | int i =>
    obtain ⟨t, rfl⟩ := r
    cases (show T = "int" from ty)
    exact ⟨typeIs_int s i t, fun _ e => nomatch e⟩
  | ref p =>
    cases r
    rcases ty with ⟨rfl, xs, hq⟩ | ⟨rfl, o, hk, hc, hd⟩ | ⟨rfl, hk⟩ | ⟨rfl, S, n, hk⟩
    · obtain ⟨its, _, pl, _⟩ := I.list hq
      refine ⟨pl.isList.typeIs, fun a e => ?_⟩
      cases e
      obtain ⟨o, n, e, c, hd, _⟩ := pl
      exact ⟨o, e, hd⟩
    · refine ⟨⟨o, I.kIn p o hk, hc⟩, fun a e => ?_⟩
      cases e
      exact ⟨o, I.kIn _ o hk, hd⟩
    · have z : ∃ o, s.heap.get? p = some o ∧ o.ExactDict := by
        rcases hk with ⟨kvs, hk⟩ | ⟨kvs, hk⟩
        · obtain ⟨_, _, _, _, o, _, _, e, ex, _⟩ := I.hok p _ hk
          exact ⟨o, e, ex⟩
        · obtain ⟨_, _, _, _, o, _, _, e, ex, _⟩ := I.hok p _ hk
          exact ⟨o, e, ex⟩
      obtain ⟨o, e, ex⟩ := z
      refine ⟨⟨o, e, ex.1⟩, fun a e2 => ?_⟩
      cases e2
      exact ⟨o, e, ex.2.1⟩
    · obtain ⟨o, _, _, _, e, ex, _⟩ := I.hok p _ hk
      refine ⟨⟨o, e, ex.1⟩, fun a e2 => ?_⟩
      cases e2
      exact ⟨o, e, ex.2.1⟩
  | _ => exact False.elim ty
def tBM0 (K : PySem.W.Frag) (T : String) (r : V → List V → Hp → VK → Prop) (to : TE) : TE := fun σ H Q => to σ H fun x H1 => tyV K T x H1 ∧ r x [] H1 Q
def tBM (K : PySem.W.Frag) (T : String) (r : V → List V → Hp → VK → Prop) (to : TE) (t : TA) : TE := fun σ H Q => to σ H fun x H1 => tyV K T x H1 ∧ t σ H1 fun xs H2 => r x xs H2 Q
variable {o e : Expr} {es : List Expr} {to : TE} {t : TA} {name : Str} {apos cpos : Pos} {T id : String} {r : V → List V → Hp → VK → Prop}
theorem pe_bm0 (pa : PlainAttrs T) (slot : Slot T name id) (hty : typeOf (.builtin id) = pure (.type "method_descriptor")) (hm : MtR X id r) (ho : PE X o to)
    (hbase : attributeBase o name X.env (eval o X.env) = eval o X.env := by rfl) (hline : (apos.endLine == cpos.line) = true := by rfl) : PE X (.Call (.Attribute o name apos) [] [] cpos) (tBM0 X.K T r to) := by
  intro pins s σ H Q I h
  refine wpAny_Call_method0_late hbase hline (thn (ho pins s σ H _ I h) fun v s1 ⟨x, H1, I1, r1, ty, q1⟩ => ?_)
  obtain ⟨h1, h2⟩ := tyV_is I1 r1 ty
  exact ⟨T, id, pa, slot, hty, h1, h2, Calls.callWith_builtin rfl (PySem.evalArgs_none (hm pins s1 σ H1 x [] v [] Q I1 r1 .nil q1))⟩
theorem pe_bm (pa : PlainAttrs T) (slot : Slot T name id) (hty : typeOf (.builtin id) = pure (.type "method_descriptor")) (hm : MtR X id r) (ho : PE X o to) (ha : PA X (e :: es) t)
    (hbase : attributeBase o name X.env (eval o X.env) = eval o X.env := by rfl)
    (hfew : ((backTo cpos (starEach (e :: es) X.env)).all (fun x => !x.1) && (backToKw cpos (keywordEach [] X.env)).all (fun x => x.1.isSome)
      && decide ((e :: es).length + ([] : List Keyword).length + (if ([] : List Keyword).isEmpty then 0 else 1) < 30)) = true := by rfl)
    (hline : (apos.endLine == cpos.line) = true := by rfl) (hs : starEach (e :: es) X.env = (false, eval e X.env) :: starEach es X.env := by rfl) (hplain : (backTo cpos (starEach es X.env)).any (·.1) = false := by rfl) :
    PE X (.Call (.Attribute o name apos) (e :: es) [] cpos) (tBM X.K T r to t) := by
  intro pins s σ H Q I h
  refine wpAny_Call_method_late hbase hfew hline rfl (thn (ho pins s σ H _ I h) fun v s1 ⟨x, H1, I1, r1, ty, q1⟩ => ?_)
  obtain ⟨h1, h2⟩ := tyV_is I1 r1 ty
  refine ⟨T, id, pa, slot, hty, h1, h2, ?_⟩
  have hA := ha cpos pins s1 σ H1 _ I1 q1
  rw [hs] at hA ⊢
  refine Calls.callWith_builtin (by show (false || (backTo cpos (starEach es X.env)).any (·.1)) = false; rw [hplain] <;> rfl) (Calls.evalArgs_plain ?_)
  exact thn hA fun us s2 ⟨vs, H2, I2, r2, q2⟩ => hm pins s2 σ H2 x vs v us Q I2 r1 r2 q2
end
end L2
namespace L2
open PySem PySem.Spec PyProof.Rows
def MtM (X : Cx) (id : String) (r : V → List V → Hp → VK → Prop) : Prop :=
  ∀ (pins : List (Addr × Obj)) (s : Shared) (σ : St) (H : Hp) (x : V) (xs : List V) (v : Value) (us : List Value) (Q : VK), Inv X pins σ H s → RelV x v → Vals xs us → r x xs H Q →
    wpAny (model X.prog X.w) X.A (call (.builtin id) (v :: us)) (EP X pins σ Q) X.xe s
theorem Vals.one : ∀ {x : V} {us : List Value}, Vals [x] us → ∃ u, us = [u] ∧ RelV x u
  | _, _, .cons r .nil => ⟨_, rfl, r⟩
theorem Vals.two : ∀ {x y : V} {us : List Value}, Vals [x, y] us → ∃ u v, us = [u, v] ∧ RelV x u ∧ RelV y v
  | _, _, _, .cons r (.cons q .nil) => ⟨_, _, rfl, r, q⟩
theorem Vals.zero : ∀ {us : List Value}, Vals [] us → us = []
  | _, .nil => rfl
theorem Vals.dropLast {xs : List V} {us : List Value} (h : Vals xs us) : Vals xs.dropLast us.dropLast := by
  induction h with
  | nil => exact .nil
  | cons r t ih =>
    cases t with
    | nil => exact .nil
    | cons q t' => exact .cons r ih
theorem erase_last {α : Type} (l : List α) : l.eraseIdx (l.length - 1) = l.dropLast := by
  induction l with
  | nil => rfl
  | cons a r ih =>
    cases r with
    | nil => rfl
    | cons b r =>
      have e : (a :: b :: r).length - 1 = ((b :: r).length - 1) + 1 := by
        have h1 : (a :: b :: r).length = r.length + 2 := rfl
        have h2 : (b :: r).length = r.length + 1 := rfl
        omega
      rw [e, List.eraseIdx_cons_succ, ih]
      all_goals rfl
section
variable {X : Cx} {pins : List (Addr × Obj)} {σ : St} {H : Hp} {s : Shared} {l b : Addr} {xs ys zs : List V}
theorem Inv.lset {its its' : List Value} {n : Nat} {f : Array Value → Array Value} {t' : Nat} (I : Inv X pins σ H s) (hH : H l = some (.lst xs))
    (e : s.heap.get? l = some { cls := .type "list", data := .seq its.toArray n }) (hf : f its.toArray = its'.toArray) (hv : Vals ys its') (hz : ys.length ≤ sizeLine) :
    Inv X pins σ (upd H l (.lst ys)) { s with heap := s.heap.update l (Obj.mapSeq f), toks := t' } := by
  have q := PySem.IsL.update e f
  rw [hf] at q
  refine I.write (x := l) (e := l) (by rw [hH]; exact trivial) (.inl rfl) (fun b' u hb hu => (Heap.get?_update_other s.heap (Obj.mapSeq f) (Ne.symm hb)).trans hu) ⟨_, q⟩ ?_
  exact ⟨hz, its', _, hv, q⟩
theorem Inv.lnew {its : List Value} {t' : Nat} (I : Inv X pins σ H s) (hv : Vals ys its) (hz : ys.length ≤ sizeLine) :
    Inv X pins σ (upd H s.heap.objs.size (.lst ys)) { s with heap := s.heap.push { cls := .type "list", data := .seq its.toArray }, toks := t' } :=
  I.laid (fun _ _ q => Heap.get?_push_of_some _ q) (Nat.le_refl _) ⟨hz, its, 0, hv, Heap.get?_push_size _ rfl⟩
theorem Inv.fresh (I : Inv X pins σ H s) : H s.heap.objs.size = none := I.hok.fresh (Nat.le_refl _)
theorem Inv.lstM (I : Inv X pins σ H s) (hH : H l = some (.lst xs)) : xs.length ≤ sizeLine ∧ ∃ (its : List Value) (n : Nat), Vals xs its ∧ xs.length = its.length ∧ s.heap.get? l = some { cls := .type "list", data := .seq its.toArray n } := by
  obtain ⟨z, its, n, r, e⟩ := I.hok l _ hH
  exact ⟨z, its, n, r, r.length, e⟩
end
section
variable {X : Cx}
def rAppend : V → List V → Hp → VK → Prop := fun x vs H Q => ∃ l xs y, x = .ref l ∧ vs = [y] ∧ H l = some (.lst xs) ∧ xs.length < sizeLine ∧ Q .non (upd H l (.lst (xs ++ [y])))
theorem mt_append : MtM X "list.append" rAppend := by
  intro pins s σ H x vs v us Q I rx rv h
  obtain ⟨l, xs, y, rfl, rfl, hH, hz, q⟩ := h
  cases rx
  obtain ⟨u, rfl, ru⟩ := rv.one
  obtain ⟨z, its, n, r, hl, e⟩ := I.lstM hH
  refine call_meets F.slot_list_append ⟨_, e, rfl⟩ F.entry_list_append (F.args_list_append_2 _ _) (PySem.list_append l its.toArray n u (by rw [List.size_toArray]; omega)) ⟨e, ?_⟩
  refine ⟨.non, _, I.lset (its' := its ++ [u]) hH e (by simp) (r.append (.cons ru .nil)) ?_, rfl, q⟩
  rw [List.length_append, List.length_singleton]
  omega
def rPop : V → List V → Hp → VK → Prop := fun x vs H Q => ∃ l xs y, x = .ref l ∧ vs = [] ∧ H l = some (.lst xs) ∧ xs[xs.length - 1]? = some y ∧ Q y (upd H l (.lst xs.dropLast))
theorem mt_pop : MtM X "list.pop" rPop := by
  intro pins s σ H x vs v us Q I rx rv h
  obtain ⟨l, xs, y, rfl, rfl, hH, hy, q⟩ := h
  cases rx
  have hus := rv.zero
  subst hus
  obtain ⟨z, its, n, r, hl, e⟩ := I.lstM hH
  obtain ⟨u, hu, ru⟩ := r.get hy
  have hy' : its.toArray[its.toArray.size - 1]? = some u := by
    show its.toArray[its.length - 1]? = some u
    rw [← Array.getElem?_toList, ← hl]
    exact hu
  refine call_meets F.slot_list_pop ⟨_, e, rfl⟩ F.entry_list_pop (F.args_list_pop_1 _) (MeetsSeq.list_pop_last l its.toArray n u hy' (by rw [List.size_toArray]; omega)) ⟨e, ?_⟩
  refine ⟨y, _, I.lset (its' := its.dropLast) hH e ?_ r.dropLast ?_, ru, q⟩
  · show its.toArray.eraseIdxIfInBounds (its.toArray.size - 1) = its.dropLast.toArray
    rw [List.size_toArray, List.eraseIdxIfInBounds_toArray, erase_last]
  · rw [List.length_dropLast]
    omega
def rCat : R2 := fun x y H Q => ∃ l b xs zs, x = .ref l ∧ y = .ref b ∧ H l = some (.lst xs) ∧ H b = some (.lst zs) ∧ xs.length + zs.length ≤ sizeLine ∧ ∀ p, H p = none → Q (.ref p) (upd H p (.lst (xs ++ zs)))
theorem op_cat : OpR X (binaryOp .Add) rCat := by
  intro pins s σ H x y v u Q I rx ry h
  obtain ⟨l, b, xs, zs, rfl, rfl, hH, hB, hz, q⟩ := h
  cases rx
  cases ry
  obtain ⟨z, its, n, r, hl, e⟩ := I.lstM hH
  obtain ⟨z2, its2, n2, r2, hl2, e2⟩ := I.lstM hB
  refine PySem.P.add_list e e2 ?_ (by rw [List.size_toArray, List.size_toArray]; omega)
  have ea : its.toArray ++ its2.toArray = (its ++ its2).toArray := by simp
  rw [ea]
  exact ⟨.ref _, _, I.lnew (t' := s.toks) (r.append r2) (by rw [List.length_append]; omega), rfl, q _ I.fresh⟩
theorem len_rep {α : Type} (xs : List α) (k : Nat) : (List.replicate k xs).flatten.length = k * xs.length := by
  induction k with
  | zero => simp
  | succ k ih => rw [List.replicate_succ, List.flatten_cons, List.length_append, ih, Nat.succ_mul, Nat.add_comm]
end
section
variable {prog : Program} {w : World} {A : Around} {E : Value → Shared → Prop} {s : Shared}
end
section
variable {X : Cx}
end
end L2
namespace Att
open PySem PySem.W PySem.Calls PyProof.Rows
theorem ints_of_wellAll {P : Params} {h : Heap} : ∀ (ns : List Int) (vs : List Value), WellAll P h vs (ns.map WData.int) → IntsAre vs ns := by
  intro ns
  induction ns with
  | nil =>
    intro vs w
    rw [List.map_nil] at w
    cases w
    exact .nil
  | cons n ns ih =>
    intro vs w
    rw [List.map_cons] at w
    cases w with
    | cons a b =>
      cases a
      exact .cons _ _ (ih _ b)
theorem script_of {l : OpenLaw} {n : Nat} (hn : l.most = some n) {P : Params} {h : Heap} {args : List WData} {vals : List Value}
    (hpre : l.row.toRowW.claim.pre args = true) (hwl : WellAll P h vals args) :
    ∃ a vs ns, vals = [Value.ref a] ∧ args = [WData.list (ns.map WData.int)] ∧ h.get? a = some { cls := .type "list", data := .seq vs.toArray } ∧ IntsAre vs ns ∧ ns.length ≤ n := by
  have hsh : WShape.hasAll [] args [.list .int] = true := (pre_splitW hpre).1
  have hc : l.pre.holds [] { args := args } = true := (pre_splitW hpre).2
  obtain ⟨d, r, rfl, h1, h2⟩ := hasAllW_cons hsh
  obtain rfl := hasAllW_nil h2
  obtain ⟨xs, rfl, h3⟩ := hasW_list h1
  obtain ⟨ns, rfl⟩ := items_int h3
  have hlen : ns.length ≤ n := by
    unfold OpenLaw.pre at hc
    have h4 : (WTm.not (.lt (.lit (.int (n : Int))) (.len (.arg 0)))).holds [] { args := [.list (ns.map .int)] } = true := by
      have h4 := (holds_andW hc).1
      rw [hn] at h4
      exact h4
    have h5 := condW_of h4 (w_not (w_lt w_lit (w_len_list (w_arg rfl))))
    rw [List.length_map] at h5
    refine Nat.le_of_not_lt fun q => ?_
    have q' : (n : Int) < ((ns.length : Nat) : Int) := by omega
    first
      | (rw [decide_eq_true q'] at h5; exact absurd h5 (by decide))
      | (simp at h5; omega)
  cases hwl with
  | cons w1 w2 =>
    cases w2
    cases w1 with
    | list ho hall => exact ⟨_, _, ns, rfl, rfl, ho, ints_of_wellAll ns _ hall, hlen⟩
theorem post_true (l : OpenLaw) (args : List WData) : l.row.toRowW.claim.post args (.bool true) args = true :=
  postW_of (r := l.row.toRowW) (X := (true == true))
    (show WShape.has [] (.bool true) .bool = true by first | rfl | decide | simp [WShape.has, WShape.arms, WShape.armsAll])
    (show (WTm.eq .res (.lit (.bool true))).value [] { args := args, res := some (.bool true), after := args } = some (.bool (true == true)) from w_eq_bool (w_res rfl) w_lit) rfl
theorem attach_call {l : OpenLaw} {n : Nat} {q : Program} {loose : List Str} {XP : (Str → Option Value) → Heap → Prop} {YP : World → Heap → Prop} {d : DefRec}
    (hn : l.most = some n) (hdf : d.params.defaults = [])
    (call : ∀ (w : World) (s₀ s₁ : Shared) (mg mb : Str → Option Value) (fa : Addr) (o : Obj) (pm cd doc : Value) (a : Addr) (vs : List Value) (ns : List Int),
      Ground q loose [] XP w s₀ mg mb s₁.heap → YP w s₁.heap →
      s₁.heap.get? fa = some o → o.data = .func (docDef d.name d.params d.body d.scope pm cd doc) → s₁.heap.CodeRec cd d.name → mg d.name = some (.ref fa) →
      s₁.heap.get? a = some { cls := .type "list", data := .seq vs.toArray } → IntsAre vs ns → ns.length ≤ n → s₁.gens = #[] →
      codeAny (model l.prog w) callerA (.call (.ref fa) ⟨[.ref a], []⟩) (fun r s' => r = .ok (.ret (.bool true)) ∧ OldK s₁.heap s'.heap ∧ s'.os = s₁.os ∧ AllBare s'.gens) s₁) :
    WalkO q loose XP YP l.row.toRowW d [] (fun f vs => PySem.call f vs) := by
  intro w s₀ s₁ mg mb G Y fa o pm cd doc dV kV ho hd hcd hD hmg hg args vals as hpre hlay hrd hwl hlo
  obtain rfl : dV = .none := Dflts.none hD hdf
  obtain rfl : kV = .none := Dflts.noKw hD
  obtain ⟨a, vs, ns, rfl, rfl, hobj, hints, hlen⟩ := script_of hn hpre hwl
  refine enter_call (codeAny_mono (call w s₀ s₁ mg mb fa o pm cd doc a vs ns G Y ho (fd_plain hd) hcd hmg hobj hints hlen hg) fun r s' hq => ?_)
  obtain ⟨rfl, h2, h3, h4⟩ := hq
  exact ⟨.inl ⟨.bool true, .bool true, [], rfl, fun _ => rfl, .bool true, post_true l _, fun _ => ⟨List.Pairwise.nil, fun _ hm => (nomatch hm)⟩⟩, h2, h3, h4⟩
section
variable {prog : Program} {w : World} {A : Around} {E : Value → Shared → Prop} {s : Shared} {K : Frag}
end
end Att
namespace L2
open PySem PySem.Spec PyProof.Rows
theorem vals_ints : ∀ {vs : List Value} {ns : List Int}, IntsAre vs ns → Vals (ns.map V.int) vs
  | _, _, .nil => .nil
  | _, _, .cons n t h => .cons ⟨t, rfl⟩ (vals_ints h)
def Only (H : Hp) : Prop := ∀ b, H b = none ∨ ∃ o xs, H b = some (.frz o (.lst xs))
theorem law_call {P : Program} {w : World} {K : PySem.W.Frag} {mg mb : Str → Option Value} {CX : CXT} {k : Nat} {fa a : Addr} {fd : FuncData} {x : Str} {sp : Sp} {s₁ : Shared} {vs : List Value} {ns : List Int}
    (KX : K.In s₁.heap) (hns : s₁.heap.Ns mainGlobals mg) (hb : s₁.heap.Ns builtinsNs mb) (hbb : ∀ x : Str, x ≠ "__name__" → mb x = bootBuiltins x) (hlim : s₁.heap.NoLimit) (hg : s₁.gens = #[])
    (ha : s₁.heap.get? a = some { cls := .type "list", data := .seq vs.toArray }) (hi : IntsAre vs ns) (hl : ns.length ≤ sizeLine) (hr : Room k callerA)
    (F : ∀ base : Heap, K.In base → base.Ns mainGlobals mg → FnOk P w K mg base CX k fa fd [x] sp) (hbind : ∀ (s : Shared) (u : Value), BindsTo s fd ⟨[u], []⟩ [(x, u)])
    (hsp : ∀ H : Hp, Only H → SqL K H a (ns.map V.int) → sp [.ref a] H (fun v _ => v = .bl true) fun _ _ _ => False)
    (hCX : ∀ H e s', CX [] H s₁ (fun _ _ _ => False) e s' → False) :
    codeAny (model P w) callerA (.call (.ref fa) ⟨[.ref a], []⟩) (fun r s' => r = .ok (.ret (.bool true)) ∧ OldK s₁.heap s'.heap ∧ s'.os = s₁.os ∧ AllBare s'.gens) s₁ := by
  have rv := vals_ints hi
  have lenV := hi.length
  have core : ∀ H : Hp, Only H → SqL K H a (ns.map V.int) → HOk P w H s₁.heap → (∀ b, H b ≠ none → b = a) → (H a ≠ none → K.lookup a = none) →
      codeAny (model P w) callerA (.call (.ref fa) ⟨[.ref a], []⟩) (fun r s' => r = .ok (.ret (.bool true)) ∧ OldK s₁.heap s'.heap ∧ s'.os = s₁.os ∧ AllBare s'.gens) s₁ := by
    intro H hO hS hok hA hK
    have base_of : ∀ {b : Addr} {o : Obj}, s₁.heap.get? b = some o → H b = none → (hidT s₁.heap H).get? b = some o := fun e n => hidT_get e n
    have noA : ∀ {b : Addr} {o : Obj} {es : Array DictEntry} {ep : Nat}, s₁.heap.get? b = some o → o.data = .dict es ep → H b = none := fun {b o es ep} e d => by
      cases q : H b with
      | none => rfl
      | some u =>
        have e' : b = a := hA b (by rw [q]; simp)
        subst e'
        rw [ha] at e; cases e
        have d' : Data.seq vs.toArray _ = Data.dict es ep := d
        cases d'
    have nsK : ∀ {b : Addr} {m : Str → Option Value}, s₁.heap.Ns b m → (hidT s₁.heap H).Ns b m := fun {b m} ⟨o, es, ep, e, d, r⟩ => ⟨o, es, ep, base_of e (noA e d), d, r⟩
    have hKb : K.In (hidT s₁.heap H) := fun b o e => base_of (KX b o e) (by
      cases q : H b with
      | none => rfl
      | some u =>
        have e' : b = a := hA b (by rw [q]; simp)
        subst e'
        rw [hK (by rw [q]; simp)] at e; cases e)
    have hM : Mod K mg (hidT s₁.heap H) := ⟨hKb, nsK hns, ⟨mb, nsK hb, hbb⟩, let ⟨mc, h1, h2⟩ := hlim; ⟨mc, nsK h1, h2⟩⟩
    have e0 : Env0 P w K mg (hidT s₁.heap H) callerA [] s₁ H := ⟨rfl, hM, fun b o e => of_hidT e, Nat.le_of_eq (hidT_size _ _), trivial, fun b hb => absurd (show b ∈ ([] : List Addr) from hb) (by simp), hok, .of_eq hg⟩
    refine codeAny_mono ((F _ hKb (nsK hns)).run callerA [] s₁ H ⟨[.ref a], []⟩ [.ref a] [.ref a] _ _ hr e0 (hbind s₁ (.ref a)) (.cons rfl .nil) (hsp H hO hS)) fun r s' h => ?_
    cases r with
    | error e => exact (hCX H e s' h).elim
    | ok fl =>
      cases fl with
      | next => exact False.elim h
      | brk => exact False.elim h
      | cont => exact False.elim h
      | ret u =>
        obtain ⟨v, H', os, bare, un, hok', r', q⟩ := h
        have q' : v = .bl true := q
        subst q'
        obtain rfl : u = Value.bool true := r'
        refine ⟨rfl, OldK.of_keep fun b o e => ?_, os, bare⟩
        cases q : H b with
        | none => exact un.keep b o e q (by intro z; exact absurd (show b ∈ ([] : List Addr) from z) (by simp)) (by simp)
        | some u =>
          rcases hO b with z | ⟨ob, xs, z⟩
          · rw [q] at z; cases z
          · have z2 := un.frzs b ob _ z
            obtain ⟨e1, _⟩ := hok b _ z
            obtain ⟨e2, _⟩ := hok' b _ z2
            rw [e] at e1; cases e1
            exact e2
  cases hk : K.lookup a with
  | some o =>
    have e := KX a o hk
    rw [ha] at e
    cases e
    refine core (fun _ => none) (fun _ => .inl rfl) (.inr ⟨_, vs.toArray, _, hk, rfl, rfl, rfl, by rw [List.size_toArray, lenV]; exact hl, by simpa using rv⟩) (fun b u z => by have z' : (none : Option HO) = some u := z; cases z') (fun b z => absurd rfl z) fun z => absurd rfl z
  | none =>
    refine core (fun b => if b = a then some (.frz { cls := .type "list", data := .seq vs.toArray } (.lst (ns.map V.int))) else none) (fun b => ?_) (.inl (.inr ⟨{ cls := .type "list", data := .seq vs.toArray }, if_pos rfl⟩)) (fun b u z => ?_) (fun b z => ?_) fun _ => hk
    · by_cases hb : b = a
      · exact .inr ⟨_, _, if_pos hb⟩
      · exact .inl (if_neg hb)
    · by_cases hb : b = a
      · have z' := (if_pos hb).symm.trans z
        cases z'
        subst hb
        exact ⟨ha, by rw [List.length_map]; exact hl, vs, _, rv, ha⟩
      · have z' := (if_neg hb).symm.trans z
        cases z'
    · by_cases hb : b = a
      · exact hb
      · exact absurd (if_neg hb) z
end L2
namespace L2
open PySem PySem.Spec PyProof.Rows
theorem walk_of {l : PySem.W.OpenLaw} {n k : Nat} {q : Program} {loose : List Str} {XP : (Str → Option Value) → Heap → Prop} {YP : World → Heap → Prop} {d : DefRec} {K : Params → PySem.W.Frag} {CX : World → CXT} {sp : World → Sp} {x : Str}
    (hn : l.most = some n) (hn2 : n ≤ sizeLine) (hdf : d.params.defaults = []) (hr : Room k callerA)
    (hY : ∀ (w : World) (h : Heap), YP w h → (K w.params).In h)
    (F : ∀ (w : World) (mg : Str → Option Value) (fa : Addr) (h : Heap), (K w.params).In h → h.Ns mainGlobals mg → mg d.name = some (.ref fa) →
      ∃ fd : FuncData, (∀ (s : Shared) (u : Value), BindsTo s fd ⟨[u], []⟩ [(x, u)]) ∧
        ∀ base : Heap, (K w.params).In base → base.Ns mainGlobals mg → FnOk l.prog w (K w.params) mg base (CX w) k fa fd [x] (sp w))
    (hsp : ∀ (w : World) (H : Hp) (a : Addr) (ns : List Int), ns.length ≤ n → Only H → SqL (K w.params) H a (ns.map V.int) → sp w [.ref a] H (fun v _ => v = .bl true) fun _ _ _ => False)
    (hCX : ∀ (w : World) (H : Hp) (s : Shared) (e : Value) (s' : Shared), CX w [] H s (fun _ _ _ => False) e s' → False) :
    PySem.W.WalkO q loose XP YP l.row.toRowW d [] (fun f vs => PySem.call f vs) := by
  refine Att.attach_call hn hdf fun w s₀ s₁ mg mb fa o pm cd doc a vs ns G Y ho hd hcd hmg hobj hints hlen hg => ?_
  have KX := hY w _ Y
  obtain ⟨fd, hb, hF⟩ := F w mg fa _ KX G.T.g hmg
  exact law_call KX G.T.g G.T.b G.T.builtins G.T.nolimit hg hobj hints (Nat.le_trans hlen hn2) hr hF hb (fun H hO hS => hsp w H a ns hlen hO hS) fun H e s' => hCX w H s₁ e s'
end L2
namespace L2
open PySem PySem.Spec PyProof.Rows
def defArgs (s : Stmt) : Arguments := match s with
  | .FunctionDef _ a _ _ _ _ _ _ _ _ => a
  | _ => { posonlyargs := [], args := [], vararg := none, kwonlyargs := [], kw_defaults := [], kwarg := none, defaults := [] }
def defBody (s : Stmt) : List Stmt := match s with
  | .FunctionDef _ _ b _ _ _ _ _ _ _ => b
  | _ => []
def defScope (s : Stmt) : Scope := match s with
  | .FunctionDef _ _ _ _ _ _ sc _ _ _ => sc
  | _ => { kind := .function, names := [], isGenerator := false, isCoroutine := false }
abbrev CX0 : CXT := fun _ _ _ _ _ _ => False
abbrev E0 : XK := fun _ _ _ => False
theorem pass0 {X : Cx} : Passes CX0 X E0 := fun _ _ _ _ _ _ _ h => h.elim
structure Fun (K : PySem.W.Frag) (x qual : Str) (st : Stmt) (f : Addr) (fd : FuncData) : Prop where
  ex : ∃ (oc : Value) (od : Option Addr) (kV doc pm : Value) (an : Option Addr) (cdv ct : Value) (osl : Array (Option Value)),
    fd = PySem.W.fnOf x qual (defArgs st) (defBody st) (defScope st) .none kV doc pm an cdv ct ∧ K.lookup f = some ⟨oc, od, .func fd, osl⟩ ∧ PySem.W.codeIn K cdv qual = true
  kp : PySem.W.keepIn K (.ref f) = true
section
variable {P : Program} {w : World} {K : PySem.W.Frag} {mg : Str → Option Value} {base : Heap}
theorem Fun.ok {x qual : Str} {st : Stmt} {f : Addr} {fd : FuncData} {N ps : List Str} {k : Nat} {sp : Sp} (F : Fun K x qual st f fd) (S : FnScope N ps (defScope st)) (len : ∀ vs H Q E, sp vs H Q E → vs.length = ps.length)
    (hbody : ∀ (cdv : Value) (A : Around) (outer : List Env) (s : Shared) (H : Hp) (vs : List V) (Q : VK) (E : XK), Room k (A.deeper (envOfC qual (defScope st) s.heap.objs.size f cdv)) → sp vs H Q E →
      ∃ t, PSs (cxOf CX0 P w K mg base N qual (defScope st) f cdv A outer s H E).nox (defBody st) t ∧ t { nx := fun _ H' => Q .non H', rt := Q } (start N vs) H) : FnOk P w K mg base CX0 (k + 1) f fd ps sp := by
  obtain ⟨oc, od, kV, doc, pm, an, cdv, ct, osl, rfl, lk, hcd⟩ := F.ex
  refine fn_of lk hcd S len fun A outer s H vs Q E hr hsp => ?_
  obtain ⟨t, h, q⟩ := hbody cdv A outer s H vs Q E hr hsp
  exact ⟨t, h.nox, q⟩
theorem Fun.binds {x qual : Str} {st : Stmt} {f : Addr} {fd : FuncData} {ps : List Str} (F : Fun K x qual st f fd)
    (h : ∀ (kV doc pm : Value) (an : Option Addr) (cdv ct : Value) (us : List Value), us.length = ps.length → bindArgs (PySem.W.fnOf x qual (defArgs st) (defBody st) (defScope st) .none kV doc pm an cdv ct) ⟨us, []⟩ = pure (ps.zip us)) : Binds K fd ps [] := by
  obtain ⟨oc, od, kV, doc, pm, an, cdv, ct, osl, rfl, lk, hcd⟩ := F.ex
  exact .all (h kV doc pm an cdv ct)
theorem fun_mk {x qual : Str} {st : Stmt} {f : Addr} {oc : Value} {od an : Option Addr} {osl : Array (Option Value)} {kV doc pm cdv ct : Value} (l : K.lookup f = some ⟨oc, od, .func (PySem.W.fnOf x qual (defArgs st) (defBody st) (defScope st) .none kV doc pm an cdv ct), osl⟩)
    (c : PySem.W.codeIn K cdv qual = true) (k : PySem.W.keepIn K (.ref f) = true) : Fun K x qual st f (PySem.W.fnOf x qual (defArgs st) (defBody st) (defScope st) .none kV doc pm an cdv ct) := ⟨⟨oc, od, kV, doc, pm, an, cdv, ct, osl, rfl, l, c⟩, k⟩
end
theorem small1000 {n : Nat} (h : n ≤ 1000) : n < sizeLine := Nat.lt_of_le_of_lt h (by decide)
section
variable {X : Cx}
theorem pv (i : Nat) {x : Str} {pos : Pos} (hN : X.N[i]? = some x := by rfl) (hv : Vis X.env.scope x := by first | exact Or.inl rfl | exact Or.inr (Or.inl rfl) | exact Or.inr (Or.inr rfl)) (hd : (x == ("__debug__" : Str)) = false := by decide)
    (hcd : (x == ("__classdict__" : Str)) = false := by decide) : PE X (.Name x pos) (tVar i) := pe_var hN hv hd hcd
end
theorem iteF {A B : Prop} (h : B) : if false = true then A else B := by
  rw [if_neg Bool.false_ne_true]
  exact h
theorem iteT {A B : Prop} (h : A) : if true = true then A else B := by
  rw [if_pos rfl]
  exact h
theorem ite2 {c A B : Prop} [Decidable c] (h1 : c → A) (h2 : ¬ c → B) : if c then A else B := by
  by_cases h : c
  · rw [if_pos h]
    exact h1 h
  · rw [if_neg h]
    exact h2 h
theorem iteNS {c A B : Prop} [Decidable c] (hc : c) (h : B) : if (!decide c) = true then A else B := by
  rw [decide_eq_true hc]
  exact iteF h
def Same (H H' : Hp) : Prop := ∀ b o, H b = some o → H' b = some o
theorem Same.refl (H : Hp) : Same H H := fun _ _ h => h
theorem Same.trans {H H1 H2 : Hp} (a : Same H H1) (b : Same H1 H2) : Same H H2 := fun c o h => b c o (a c o h)
theorem Same.free {H H' : Hp} (e : Same H H') {l : Addr} (h : H' l = Option.none) : H l = Option.none := by
  cases q : H l with
  | none => rfl
  | some o =>
    rw [e l o q] at h
    cases h
end L2
set_option maxHeartbeats 4000000
set_option exponentiation.threshold 2000
namespace L2
open PySem PySem.Spec PyProof.Rows
section
variable {X : Cx}
def CDivB (_ j : Int) : Prop := j ≠ 0 ∧ j.natAbs < 2 ^ 1000
theorem op_fdivB : OpR X (binaryOp .FloorDiv) (rI CDivB fun i j => .int (i.fdiv j)) :=
  opI fun _ _ _ _ _ _ _ hc q => floordiv_int hc.1 q (.inl (PyProof.noPylong_of_log2 (Nat.lt_of_lt_of_le ((Nat.log2_lt (by have := hc.1; omega)).mpr hc.2) (by decide))))
mutual
inductive DA (K : PySem.W.Frag) (ok : Addr → Prop) (H : Hp) : V → PyData → Prop
  | non : DA K ok H .non .none
  | bl (b : Bool) : DA K ok H (.bl b) (.bool b)
  | int (i : Int) : DA K ok H (.int i) (.int i)
  | str (x : Str) : DA K ok H (.str x) (.str x)
  | lst {a : Addr} {vs : List V} {ds : List PyData} : ok a → SqL K H a vs → DAs K ok H vs ds → DA K ok H (.ref a) (.list ds)
  | tup {a : Addr} {vs : List V} {ds : List PyData} : ok a → SqT K H a vs → DAs K ok H vs ds → DA K ok H (.ref a) (.tuple ds)
inductive DAs (K : PySem.W.Frag) (ok : Addr → Prop) (H : Hp) : List V → List PyData → Prop
  | nil : DAs K ok H [] []
  | cons {v : V} {d : PyData} {vs : List V} {ds : List PyData} : DA K ok H v d → DAs K ok H vs ds → DAs K ok H (v :: vs) (d :: ds)
end
abbrev any (_ : Addr) : Prop := True
def Keep (ok : Addr → Prop) (H H' : Hp) : Prop := ∀ b o, ok b → H b = some o → H' b = some o
theorem Keep.refl (ok : Addr → Prop) (H : Hp) : Keep ok H H := fun _ _ _ h => h
theorem Same.keep {ok : Addr → Prop} {H H' : Hp} (e : Same H H') : Keep ok H H' := fun b o _ h => e b o h
theorem Keep.seq {K : PySem.W.Frag} {ok : Addr → Prop} {H H' : Hp} {a : Addr} {xs : List V} (e : Keep ok H H') (n : ok a) (h : SqL K H a xs) : SqL K H' a xs := by
  rcases h with (h | ⟨o, h⟩) | h
  · exact .inl (.inl (e _ _ n h))
  · exact .inl (.inr ⟨o, e _ _ n h⟩)
  · exact .inr h
theorem Keep.seqT {K : PySem.W.Frag} {ok : Addr → Prop} {H H' : Hp} {a : Addr} {xs : List V} (e : Keep ok H H') (n : ok a) (h : SqT K H a xs) : SqT K H' a xs := by
  rcases h with (h | ⟨o, h⟩) | h
  · exact .inl (.inl (e _ _ n h))
  · exact .inl (.inr ⟨o, e _ _ n h⟩)
  · exact .inr h
theorem Same.seqT {K : PySem.W.Frag} {H H' : Hp} {a : Addr} {xs : List V} (e : Same H H') (h : SqT K H a xs) : SqT K H' a xs := (e.keep (ok := any)).seqT trivial h
theorem Same.upd {H : Hp} {p : Addr} {o : HO} (h : H p = none) : Same H (upd H p o) := fun b u e => by rw [upd_ne (ne_of_none e h)]; exact e
mutual
theorem DA.mono {K : PySem.W.Frag} {ok ok' : Addr → Prop} {H H' : Hp} (e : Keep ok H H') (m : ∀ a, ok a → ok' a) : ∀ {v : V} {d : PyData}, DA K ok H v d → DA K ok' H' v d
  | _, _, .non => .non
  | _, _, .bl b => .bl b
  | _, _, .int i => .int i
  | _, _, .str x => .str x
  | _, _, .lst n s r => .lst (m _ n) (e.seq n s) (DAs.mono e m r)
  | _, _, .tup n s r => .tup (m _ n) (e.seqT n s) (DAs.mono e m r)
theorem DAs.mono {K : PySem.W.Frag} {ok ok' : Addr → Prop} {H H' : Hp} (e : Keep ok H H') (m : ∀ a, ok a → ok' a) : ∀ {v : List V} {d : List PyData}, DAs K ok H v d → DAs K ok' H' v d
  | _, _, .nil => .nil
  | _, _, .cons a r => .cons (DA.mono e m a) (DAs.mono e m r)
end
mutual
theorem DA.reads {ok : Addr → Prop} {pins : List (Addr × Obj)} {σ : St} {H : Hp} {s : Shared} (I : Inv X pins σ H s) : ∀ {v : V} {d : PyData} {u : Value}, DA X.K ok H v d → RelV v u → ∃ as, Reads s.heap u d as
  | _, _, _, .non, r => by cases r; exact ⟨_, .none⟩
  | _, _, _, .bl b, r => by cases r; exact ⟨_, .bool b⟩
  | _, _, _, .int i, r => by obtain ⟨t, rfl⟩ := r; exact ⟨_, .int i t⟩
  | _, _, _, .str x, r => by obtain ⟨t, rfl⟩ := r; exact ⟨_, .str x t⟩
  | _, _, _, .lst _ h q, r => by
    cases r
    obtain ⟨its, rv, ⟨o, n, e, c, _, d⟩, _⟩ := I.list h
    obtain ⟨as, p⟩ := DAs.reads I q rv
    exact ⟨_, .list e c d (by simpa using p)⟩
  | _, _, _, .tup _ h q, r => by
    cases r
    obtain ⟨its, rv, ⟨o, e, c, n, d⟩, _⟩ := I.tuple h
    obtain ⟨as, p⟩ := DAs.reads I q rv
    exact ⟨_, .tuple e c d (by simpa using p)⟩
theorem DAs.reads {ok : Addr → Prop} {pins : List (Addr × Obj)} {σ : St} {H : Hp} {s : Shared} (I : Inv X pins σ H s) : ∀ {v : List V} {d : List PyData} {u : List Value}, DAs X.K ok H v d → Vals v u → ∃ as, ReadsAll s.heap u d as
  | _, _, _, .nil, r => by cases r; exact ⟨_, .nil⟩
  | _, _, _, .cons a q, r => by
    cases r with
    | cons r1 r2 =>
      obtain ⟨as, p⟩ := DA.reads I a r1
      obtain ⟨bs, p'⟩ := DAs.reads I q r2
      exact ⟨_, .cons p p'⟩
end
def rEqD (K : PySem.W.Frag) : R2 := fun x y H Q => ∃ d e, DA K any H x d ∧ DA K any H y e ∧ (d.canLay0 = true ∧ e.canLay0 = true ∧ d.depth ≤ 64) ∧ Q (.bl (PyData.eqv d e)) H
def rNeD (K : PySem.W.Frag) : R2 := fun x y H Q => ∃ d e, DA K any H x d ∧ DA K any H y e ∧ (d.canLay0 = true ∧ e.canLay0 = true ∧ d.depth ≤ 64) ∧ Q (.bl (!PyData.eqv d e)) H
theorem op_eqD (hu : X.A.units + 64 < cLine) : OpR X (compareOp .Eq) (rEqD X.K) := by
  intro pins s σ H x y v u Q I rx ry h
  obtain ⟨d, e, hd, he, ⟨l1, l2, l3⟩, q⟩ := h
  obtain ⟨as, p1⟩ := hd.reads I rx
  obtain ⟨bs, p2⟩ := he.reads I ry
  exact PySem.SeqAt.compareEq_reads p1 p2 l1 l2 (by omega) ⟨.bl _, H, I, rfl, q⟩
theorem op_neD (hu : X.A.units + 64 < cLine) : OpR X (compareOp .NotEq) (rNeD X.K) := by
  intro pins s σ H x y v u Q I rx ry h
  obtain ⟨d, e, hd, he, ⟨l1, l2, l3⟩, q⟩ := h
  obtain ⟨as, p1⟩ := hd.reads I rx
  obtain ⟨bs, p2⟩ := he.reads I ry
  exact PySem.SeqAt.compareNe_reads p1 p2 l1 l2 (by omega) ⟨.bl _, H, I, rfl, q⟩
end
theorem iteNP {c A B : Prop} [Decidable c] (hc : ¬ c) (h : A) : if (!decide c) = true then A else B := by
  rw [decide_eq_false hc]
  exact iteT h
theorem itDP {c A B : Prop} [Decidable c] (hc : c) (h : A) : if decide c = true then A else B := by
  rw [decide_eq_true hc]
  exact iteT h
theorem itDN {c A B : Prop} [Decidable c] (hc : ¬ c) (h : B) : if decide c = true then A else B := by
  rw [decide_eq_false hc]
  exact iteF h
structure Dn (K : PySem.W.Frag) (mg : Str → Option Value) (x : Str) (st : Stmt) (ps : List Str) (f : Addr) (fd : FuncData) : Prop where
  fn : Fun K x x st f fd
  gl : mg x = some (.ref f)
  bd : Binds K fd ps []
section
variable {X : Cx} {k : Nat} {f : Addr} {fd : FuncData} {x : Str} {st : Stmt} {ps : List Str} {sp : Sp} {e : Expr} {es : List Expr} {p pos : Pos} {t : TA}
theorem pe_fn (D : Dn X.K X.mg x st ps f fd) (G : FnOk X.prog X.w X.K X.mg X.base CX0 k f fd ps sp) (hr : Room k X.A) (hg : Gl X x) (ha : PA X (e :: es) t) (hdb : (x == ("__debug__" : Str)) = false := by decide)
    (hs : starEach (e :: es) X.env = (false, eval e X.env) :: starEach es X.env := by rfl) (hpl : (backTo pos (starEach es X.env)).any (·.1) = false := by rfl) : PE X (.Call (.Name x p) (e :: es) [] pos) (tCall sp [] E0 t) :=
  pe_call G hr hg D.gl D.fn.kp D.bd .nil pass0 ha hdb hs hpl
end
end L2
namespace L2
open PySem PySem.Spec PyProof.Rows
def clOf (cells : List (Str × Addr)) : List (Str × NameKind) → List (Str × Addr) → List (Str × Addr)
  | [], acc => acc
  | (n, k) :: r, acc => clOf cells r (if (k == .free) = true then (match cells.lookup n with | some c => (n, c) :: acc | none => acc) else acc)
theorem lookup_relab {c : Str → NameKind → Bool} {y : Str} : ∀ (names : List (Str × NameKind)), (names.map fun (n, k) => if c n k = true then (n, NameKind.cell) else (n, k)).lookup y = (names.lookup y).map fun k => if c y k = true then NameKind.cell else k
  | [] => rfl
  | (n, k) :: r => by
    have ih := lookup_relab (c := c) (y := y) r
    show List.lookup y ((if c n k = true then (n, NameKind.cell) else (n, k)) :: _) = _
    cases hx : y == n with
    | true =>
      have e : y = n := by simpa using hx
      subst e
      by_cases hc : c y k = true
      · rw [if_pos hc]; simp [List.lookup_cons, hc]
      · rw [if_neg hc]; simp [List.lookup_cons, hc]
    | false =>
      by_cases hc : c n k = true
      · rw [if_pos hc]; simp only [List.lookup_cons, hx]; exact ih
      · rw [if_neg hc]; simp only [List.lookup_cons, hx]; exact ih
theorem relab_lookup {sc : Scope} {env : Env} {y : Str} {k : NameKind} (h : (relabel sc env).names.lookup y = some k) : ∃ k0, (y, k0) ∈ sc.names ∧ (k = k0 ∨ (k = .cell ∧ k0 = .free)) := by
  have e := lookup_relab (c := fun n k => k == NameKind.free && env.scope.kind == .function && env.kindOf n == some .cell) (y := y) sc.names
  have h' : (sc.names.map fun (n, k) => if (k == NameKind.free && env.scope.kind == .function && env.kindOf n == some .cell) = true then (n, NameKind.cell) else (n, k)).lookup y = some k := h
  rw [e] at h'
  cases q : sc.names.lookup y with
  | none => rw [q] at h'; cases h'
  | some k0 =>
    rw [q] at h'
    refine ⟨k0, PySem.mem_of_lookup q, ?_⟩
    have h'' : (if (k0 == NameKind.free && env.scope.kind == .function && env.kindOf y == some .cell) = true then NameKind.cell else k0) = k := Option.some.inj h'
    by_cases hc : (k0 == NameKind.free && env.scope.kind == .function && env.kindOf y == some .cell) = true
    · rw [if_pos hc] at h''
      refine .inr ⟨h''.symm, ?_⟩
      have := (Bool.and_eq_true_iff.mp (Bool.and_eq_true_iff.mp hc).1).1
      simpa using this
    · rw [if_neg hc] at h''
      exact .inl h''.symm
theorem clOf_sub {cells : List (Str × Addr)} : ∀ (names : List (Str × NameKind)) (acc : List (Str × Addr)), (∀ y c, acc.lookup y = some c → cells.lookup y = some c) → ∀ y c, (clOf cells names acc).lookup y = some c → cells.lookup y = some c
  | [], _, h => h
  | (n, k) :: r, acc, h => by
    refine clOf_sub r _ fun y c => ?_
    by_cases hk : (k == NameKind.free) = true
    · rw [if_pos hk]
      cases q : cells.lookup n with
      | none => exact h y c
      | some d =>
        intro e
        show cells.lookup y = some c
        have e' : List.lookup y ((n, d) :: acc) = some c := e
        rw [List.lookup_cons] at e'
        cases hx : y == n with
        | true =>
          rw [hx] at e'
          have : y = n := by simpa using hx
          subst this
          rw [q]; exact e'
        | false =>
          rw [hx] at e'
          exact h y c e'
    · rw [if_neg hk]
      exact h y c
theorem clOf_acc {cells : List (Str × Addr)} {y : Str} : ∀ (names : List (Str × NameKind)) (acc : List (Str × Addr)), (acc.lookup y).isSome = true → ((clOf cells names acc).lookup y).isSome = true
  | [], _, h => h
  | (n, k) :: r, acc, h => by
    refine clOf_acc r _ ?_
    by_cases hk : (k == NameKind.free) = true
    · rw [if_pos hk]
      cases q : cells.lookup n with
      | none => exact h
      | some d =>
        show (List.lookup y ((n, d) :: acc)).isSome = true
        rw [List.lookup_cons]
        cases hx : y == n with
        | true => rfl
        | false => exact h
    · rw [if_neg hk]; exact h
theorem clOf_has {cells : List (Str × Addr)} {y : Str} (hc : (cells.lookup y).isSome = true) : ∀ (names : List (Str × NameKind)) (acc : List (Str × Addr)), (y, NameKind.free) ∈ names → ((clOf cells names acc).lookup y).isSome = true
  | (n, k) :: r, acc, h => by
    rcases List.mem_cons.mp h with e | h
    · cases e
      refine clOf_acc r _ ?_
      rw [if_pos (by rfl)]
      obtain ⟨c, q⟩ := Option.isSome_iff_exists.mp hc
      rw [q]
      show (List.lookup y ((y, c) :: acc)).isSome = true
      rw [List.lookup_cons, beq_self_eq_true]
      rfl
    · exact clOf_has hc r _ h
theorem cellOf_some {env : Env} {y : Str} {c : Addr} (h : env.cells.lookup y = some c) : cellOf env y = pure c := by
  unfold cellOf
  rw [h]
theorem closure_of {sc : Scope} {env : Env} (h : ∀ y ∈ sc.names, y.2 = .free → (env.cells.lookup y.1).isSome = true) : closureFor sc env = pure (clOf env.cells sc.names []) := by
  have all : ∀ (names : List (Str × NameKind)) (acc : List (Str × Addr)), (∀ y ∈ names, y.2 = .free → (env.cells.lookup y.1).isSome = true) →
      (forIn names acc fun (x : Str × NameKind) (cs : List (Str × Addr)) => (do
        let (name, kind) := x
        if (kind == .free) = true then let c ← cellOf env name; pure (ForInStep.yield ((name, c) :: cs)) else pure (ForInStep.yield cs) : Sem (ForInStep (List (Str × Addr))))) = pure (clOf env.cells names acc) := by
    intro names
    induction names with
    | nil => intro acc _; rfl
    | cons a r ih =>
      intro acc hh
      obtain ⟨n, k⟩ := a
      rw [List.forIn_cons]
      by_cases hk : (k == NameKind.free) = true
      · obtain ⟨c, q⟩ := Option.isSome_iff_exists.mp (hh (n, k) List.mem_cons_self (by simpa using hk))
        simp only [hk, if_true, cellOf_some q, pure_bind]
        rw [ih _ fun y hy => hh y (List.mem_cons_of_mem _ hy)]
        show pure (clOf env.cells r ((n, c) :: acc)) = pure (clOf env.cells r (if (k == NameKind.free) = true then _ else acc))
        rw [if_pos hk, q]
      · simp only [hk, Bool.false_eq_true, if_false, pure_bind]
        rw [ih _ fun y hy => hh y (List.mem_cons_of_mem _ hy)]
        show pure (clOf env.cells r acc) = pure (clOf env.cells r (if (k == NameKind.free) = true then _ else acc))
        rw [if_neg hk]
  unfold closureFor
  first
    | exact (congrArg (fun z => z >>= pure) (all sc.names [] h)).trans (by simp)
    | (have e := all sc.names [] h
       simp only [bind_pure] at e ⊢
       exact e)
theorem cellsFrom_none {acc : List (Str × Addr)} : ∀ {names : List (Str × NameKind)} {n : Nat}, (∀ y ∈ names, y.2 ≠ .cell) → cellsFrom n names acc = acc
  | [], _, _ => rfl
  | (y, k) :: r, n, h => by
    unfold cellsFrom
    rw [if_neg (by simpa using h (y, k) List.mem_cons_self)]
    exact cellsFrom_none fun z hz => h z (List.mem_cons_of_mem _ hz)
theorem pushCells_none : ∀ {names : List (Str × NameKind)} {h : Heap}, (∀ y ∈ names, y.2 ≠ .cell) → pushCells h names = h
  | [], _, _ => rfl
  | (y, k) :: r, h, hn => by
    unfold pushCells
    rw [if_neg (by simpa using hn (y, k) List.mem_cons_self)]
    exact pushCells_none fun z hz => hn z (List.mem_cons_of_mem _ hz)
theorem newEnv_lc {M : Model} {A : Around} {E : Value → Shared → Prop} {s : Shared} {scope : Scope} {globals : Addr} {closure : List (Str × Addr)} {qual : Str} {func : Option Addr} {code : Value} {outer : Env} {builtins : Addr} {Q : Env → Shared → Prop}
    (hQ : Q (newEnv scope s.heap.objs.size globals (cellsFrom (s.heap.objs.size + 1) scope.names closure) qual func code (some outer) builtins) { s with heap := pushCells (s.heap.push { cls := .type "dict", data := .dict #[] }) scope.names }) :
    wpAny M A (newFunctionEnv scope globals closure [] qual func code (some outer) builtins) Q E s := by
  simp only [newFunctionEnv, Option.isSome_some, if_true]
  refine wpAny_bind (wpAny_alloc ?_)
  refine wpAny_bind (wpAny_layCells _ (fun name kind cells => by cases hkc : kind == NameKind.cell <;> simp [hkc]) _ _ _ _ ?_)
  rw [show ({ s with heap := s.heap.push { cls := .type "dict", data := .dict #[] } } : Shared).heap.objs.size = s.heap.objs.size + 1 from Heap.size_push ..]
  exact wpAny_bind (wpAny_pure (wpAny_pure hQ))
section
variable {X : Cx} {pins : List (Addr × Obj)} {σ : St} {H : Hp} {s : Shared} {sc : Scope} {x : Str} {fp : List Addr}
def tLc (ti : TI) (te : TE) : TE := fun σ H Q => ti σ H fun J H1 => ∀ D, H1 D = none → ∃ W : Nat → Nat → List V → Hp → Prop, (∃ m, W 0 m [] (upd H1 D (.lst []))) ∧
  ∀ i m ys H', W i m ys H' → H' D = some (.lst ys) ∧ ((J.stop i H' ∧ Q (.ref D) H') ∨ (J.go i H' ∧ ∀ z H2, J.yld i H' z H2 → te (σ ++ [some z]) H2 fun v H3 => H3 D = some (.lst ys) ∧ ys.length < sizeLine ∧ ∃ m', m' < m ∧ W (i + 1) m' (ys ++ [v]) (upd H3 D (.lst (ys ++ [v])))))
end
end L2
namespace L2
open PySem PySem.Spec PyProof.Rows
section
variable {X : Cx}
end
end L2
namespace L2
open PySem PySem.Spec PyProof.Rows
theorem lc_list {K : PySem.W.Frag} {a : Addr} {xs : List V} {te : TE} {Q : Hp → Prop} {σ : St} {H1 : Hp} {D : Addr} (Pv : Nat → List V → Hp → Prop) (h0 : Pv 0 [] (upd H1 D (.lst []))) (hl : ∀ i ys H', i ≤ xs.length → Pv i ys H' → SqL K H' a xs ∧ H' D = some (.lst ys))
    (hs : ∀ i x ys H', xs[i]? = some x → Pv i ys H' → te (σ ++ [some x]) H' fun v H3 => H3 D = some (.lst ys) ∧ ys.length < sizeLine ∧ Pv (i + 1) (ys ++ [v]) (upd H3 D (.lst (ys ++ [v])))) (hd : ∀ ys H', Pv xs.length ys H' → Q H')
    (mono : ∀ σ H Q Q', (∀ v H1, Q v H1 → Q' v H1) → te σ H Q → te σ H Q') :
    ∃ W : Nat → Nat → List V → Hp → Prop, (∃ m, W 0 m [] (upd H1 D (.lst []))) ∧
      ∀ i m ys H', W i m ys H' → H' D = some (.lst ys) ∧ (((Itl K a).stop i H' ∧ Q H') ∨ ((Itl K a).go i H' ∧ ∀ z H2, (Itl K a).yld i H' z H2 → te (σ ++ [some z]) H2 fun v H3 => H3 D = some (.lst ys) ∧ ys.length < sizeLine ∧ ∃ m', m' < m ∧ W (i + 1) m' (ys ++ [v]) (upd H3 D (.lst (ys ++ [v]))))) := by
  refine ⟨fun i m ys H' => m = xs.length - i ∧ i ≤ xs.length ∧ Pv i ys H', ⟨xs.length, by simp, Nat.zero_le _, h0⟩, ?_⟩
  rintro i m ys H' ⟨rfl, hi, p⟩
  obtain ⟨q, eD⟩ := hl i ys H' hi p
  refine ⟨eD, ?_⟩
  by_cases hlt : i < xs.length
  · refine .inr ⟨⟨xs, xs[i], q, by simp [hlt]⟩, fun z H2 y => ?_⟩
    obtain ⟨e, y⟩ := y
    subst e
    refine mono _ _ _ _ (fun v H3 ⟨z1, z2, z3⟩ => ⟨z1, z2, xs.length - (i + 1), by omega, rfl, hlt, z3⟩) (hs i z ys _ (y xs q) p)
  · have e : i = xs.length := by omega
    subst e
    exact .inl ⟨⟨xs, q, Nat.le_refl _⟩, hd ys H' p⟩
theorem lc_range {lo : Int} {n : Nat} {te : TE} {Q : Hp → Prop} {σ : St} {H1 : Hp} {D : Addr} (Pv : Nat → List V → Hp → Prop) (h0 : Pv 0 [] (upd H1 D (.lst []))) (hl : ∀ i ys H', i ≤ n → Pv i ys H' → H' D = some (.lst ys))
    (hs : ∀ i ys H', i < n → Pv i ys H' → te (σ ++ [some (.int (lo + (i : Nat)))]) H' fun v H3 => H3 D = some (.lst ys) ∧ ys.length < sizeLine ∧ Pv (i + 1) (ys ++ [v]) (upd H3 D (.lst (ys ++ [v])))) (hd : ∀ ys H', Pv n ys H' → Q H')
    (mono : ∀ σ H Q Q', (∀ v H1, Q v H1 → Q' v H1) → te σ H Q → te σ H Q') :
    ∃ W : Nat → Nat → List V → Hp → Prop, (∃ m, W 0 m [] (upd H1 D (.lst []))) ∧
      ∀ i m ys H', W i m ys H' → H' D = some (.lst ys) ∧ (((Itr lo n).stop i H' ∧ Q H') ∨ ((Itr lo n).go i H' ∧ ∀ z H2, (Itr lo n).yld i H' z H2 → te (σ ++ [some z]) H2 fun v H3 => H3 D = some (.lst ys) ∧ ys.length < sizeLine ∧ ∃ m', m' < m ∧ W (i + 1) m' (ys ++ [v]) (upd H3 D (.lst (ys ++ [v]))))) := by
  refine ⟨fun i m ys H' => m = n - i ∧ i ≤ n ∧ Pv i ys H', ⟨n, by simp, Nat.zero_le _, h0⟩, ?_⟩
  rintro i m ys H' ⟨rfl, hi, p⟩
  refine ⟨hl i ys H' hi p, ?_⟩
  by_cases hlt : i < n
  · refine .inr ⟨hlt, fun z H2 y => ?_⟩
    obtain ⟨e, y⟩ := y
    subst e y
    refine mono _ _ _ _ (fun v H3 ⟨z1, z2, z3⟩ => ⟨z1, z2, n - (i + 1), by omega, rfl, hlt, z3⟩) (hs i ys _ hlt p)
  · have e : i = n := by omega
    subst e
    exact .inl ⟨Nat.le_refl _, hd ys H' p⟩
end L2
namespace L2
open PySem PySem.Spec PyProof.Rows
section
variable {X : Cx}
end
end L2
namespace L2
open PySem PySem.Spec PyProof.Rows
section
variable {X : Cx} {pins : List (Addr × Obj)} {σ : List (Option V)} {H : Hp} {s : Shared} {h' : Heap}
end
section
variable {X : Cx}
end
end L2
namespace L2
open PySem PySem.Spec PyProof.Rows
def hid (y : Str) : Str := "." ++ y
def blkNs (N xs : List Str) : List Str := N.map (fun y => if y ∈ xs then hid y else y) ++ xs
structure LcScopes (S : Scope) (N : List Str) (sc : Scope) (xs : List Str) : Prop where
  uniq : (sc.names.map (·.1)).Nodup
  kind : sc.kind = .function
  names : ∀ y ∈ sc.names, y.2 = .local → sc.names.lookup y.1 = some .local
  loc : ∀ x ∈ xs, sc.names.lookup x = some .local
  free : ∀ y ∈ sc.names, y.2 = .free → S.names.lookup y.1 = some .cell ∨ S.names.lookup y.1 = some .free
  only : ∀ y ∈ sc.names, y.2 = .local → y.1 ∈ xs ∨ y.1 = ".0"
  noC : ∀ y ∈ sc.names, y.2 ≠ .cell
  ne : ∀ y ∈ sc.names, ∀ x ∈ xs, y.1 ≠ hid x
  dot : ∀ y ∈ N, y ≠ ".0"
  nd : (blkNs N xs).Nodup
def Cx.blks (X : Cx) (N' : List Str) (sc : Scope) (s₀ : Shared) (H₀ : Hp) (fp : List Addr) : Cx :=
  { X with N := N', s₀ := s₀, H₀ := H₀, env := compEnvC sc (clOf X.env.cells sc.names []) s₀.heap.objs.size X.env, outer := X.stack, stack := X.stack, ex := fp, fn := fun _ => false, pn := [], xe := fun _ _ => False }
section
variable {X : Cx} {pins : List (Addr × Obj)} {σ : St} {H : Hp} {s : Shared} {sc : Scope} {xs : List Str} {fp : List Addr}
theorem blkNs_len (N xs : List Str) : (blkNs N xs).length = N.length + xs.length := by simp [blkNs]
theorem blkNs_at {N xs : List Str} {i : Nat} {y : Str} (h : (blkNs N xs)[i]? = some y) (hi : i < N.length) : ∃ y0, N[i]? = some y0 ∧ ((y0 ∈ xs ∧ y = hid y0) ∨ (y0 ∉ xs ∧ y = y0)) := by
  unfold blkNs at h
  rw [List.getElem?_append_left (by simpa using hi), List.getElem?_map] at h
  cases q : N[i]? with
  | none => rw [q] at h; cases h
  | some y0 =>
    rw [q] at h
    refine ⟨y0, rfl, ?_⟩
    have h' : (if y0 ∈ xs then hid y0 else y0) = y := Option.some.inj h
    by_cases e : y0 ∈ xs
    · rw [if_pos e] at h'; exact .inl ⟨e, h'.symm⟩
    · rw [if_neg e] at h'; exact .inr ⟨e, h'.symm⟩
theorem Inv.has_cells (I : Inv X pins σ H s) {S : Scope} (L : LcScopes S X.N sc xs) (hS : X.env.scope = S) : ∀ y ∈ sc.names, y.2 = .free → (X.env.cells.lookup y.1).isSome = true := fun y hy hf => by
  have k : X.env.kindOf y.1 = some .cell ∨ X.env.kindOf y.1 = some .free := by
    show X.env.scope.names.lookup y.1 = _ ∨ X.env.scope.names.lookup y.1 = _
    rw [hS]
    exact L.free y hy hf
  obtain ⟨c, e⟩ := I.ok.has y.1 k
  rw [e]; rfl
theorem Inv.blks (I : Inv X pins σ H s) {S : Scope} (L : LcScopes S X.N sc xs) (hS : X.env.scope = S) (hf : ∀ b ∈ fp, FpOk X pins H b) (hb : ∀ b ∈ fp, b < s.heap.objs.size) {h1 : Heap} {tk : Nat} {m : Str → Option Value} (hn : h1.Ns s.heap.objs.size m)
    (hk : ∀ b o, s.heap.get? b = some o → h1.get? b = some o) : Inv (X.blks (blkNs X.N xs) sc s H fp) [] (σ ++ xs.map fun _ => none) H { s with heap := h1, toks := tk } := by
  have sub : ∀ y c, (clOf X.env.cells sc.names []).lookup y = some c → X.env.cells.lookup y = some c := clOf_sub sc.names [] fun _ _ z => by cases z
  have hasC : ∀ y, (y, NameKind.free) ∈ sc.names → ∃ c, (clOf X.env.cells sc.names []).lookup y = some c := fun y hy =>
    Option.isSome_iff_exists.mp (clOf_has (I.has_cells L hS (y, .free) hy rfl) sc.names [] hy)
  have kinds : ∀ y k, (relabel sc X.env).names.lookup y = some k → (k = .cell ∨ k = .free) → (y, NameKind.free) ∈ sc.names := fun y k e hk => by
    obtain ⟨k0, hm, q⟩ := relab_lookup e
    rcases q with rfl | ⟨_, rfl⟩
    · rcases hk with rfl | rfl
      · exact absurd rfl (L.noC _ hm)
      · exact hm
    · exact hm
  have stk := I.stkSub
  refine ⟨⟨I.ok.mod, L.kind, I.ok.glob, I.ok.blt, Nat.le_refl _, fun y z c e1 e2 => ?_, fun y hy => ?_, fun y c z e => ?_, I.ok.hd, I.ok.frames, .inl rfl, fun b hb' => ?_, I.bs, Nat.le_trans I.ok.bsz I.sz, fun b o e hb' => ?_, fun b hb' z => ?_, I.stack, I.stkFree⟩,
    rfl, I.bare, Un.kept hk, ⟨m, hn, fun i y v e1 e2 e3 => ?_⟩, fun y c e => ?_, I.hok.fresh (Nat.le_refl _), fun y c e => ?_, fun p hp => absurd (show p ∈ ([] : List (Addr × Obj)) from hp) (by simp), I.hok.kept hk, ?_⟩
  · exact I.ok.inj y z c (sub y c e1) (sub z c e2)
  · have hy' : (relabel sc X.env).names.lookup y = some .cell ∨ (relabel sc X.env).names.lookup y = some .free := hy
    rcases hy' with e | e
    · exact hasC y (kinds y _ e (.inl rfl))
    · exact hasC y (kinds y _ e (.inr rfl))
  · exact absurd (show false = true from z) (by decide)
  · obtain ⟨f0, f1, f2, f3, f4, f5⟩ := hf b hb'
    exact ⟨Nat.ne_of_lt (hb b hb'), fun y c e z => f4 y c (sub y c e) z⟩
  · obtain ⟨f0, f1, f2, f3, f4, f5⟩ := hf b hb'
    rcases f3 with z | z
    · exact I.ok.noex b o e z
    · exact absurd (Nat.lt_of_lt_of_le (Heap.lt_size (I.ok.bs b o e).1) z) (Nat.lt_irrefl _)
  · obtain ⟨f0, f1, f2, f3, f4, f5⟩ := hf b hb'
    rcases List.mem_cons.mp (stk b z) with q | q
    · exact f1 q
    · exact f2 q
  · have hl : σ.length = X.N.length := I.len
    have hi : i < X.N.length := by
      by_cases hi : i < σ.length
      · omega
      · rw [List.getElem?_append_right (by omega), List.getElem?_map] at e2
        cases q : xs[i - σ.length]? with
        | none => rw [q] at e2; cases e2
        | some n => rw [q] at e2; cases e2
    rw [List.getElem?_append_left (by omega)] at e2
    obtain ⟨y0, g1, g2⟩ := blkNs_at e1 hi
    have vis : ∃ k, (relabel sc X.env).names.lookup y = some k ∧ (k = .local ∨ k = .cell ∨ k = .free) := by
      rcases e3 with q | q | q
      · exact ⟨_, q, .inl rfl⟩
      · exact ⟨_, q, .inr (.inl rfl)⟩
      · exact ⟨_, q, .inr (.inr rfl)⟩
    obtain ⟨k, q, hk'⟩ := vis
    obtain ⟨k0, hm, q0⟩ := relab_lookup q
    rcases g2 with ⟨g2, rfl⟩ | ⟨g2, rfl⟩
    · exact absurd rfl (L.ne _ hm _ g2)
    · have hkc : k = .cell ∨ k = .free := by
        rcases hk' with rfl | z
        · exfalso
          rcases q0 with rfl | ⟨z, _⟩
          · rcases L.only _ hm rfl with z | z
            · exact g2 z
            · exact L.dot y (List.mem_of_getElem? g1) z
          · cases z
        · exact z
      have hfr : (y, NameKind.free) ∈ sc.names := kinds y k q hkc
      have visX : X.env.scope.names.lookup y = some .cell ∨ X.env.scope.names.lookup y = some .free := by rw [hS]; exact L.free _ hfr rfl
      obtain ⟨m0, _, hl0⟩ := I.loc
      obtain ⟨u, r, lk⟩ := hl0 i y v g1 e2 (.inr visX)
      refine ⟨u, r, ?_⟩
      rcases lk with ⟨z, _⟩ | ⟨_, c, ec, hc⟩
      · exfalso
        have z' : X.env.scope.names.lookup y = some .local := z
        rcases visX with w' | w' <;> rw [z'] at w' <;> cases w'
      · obtain ⟨c', ec'⟩ := hasC y hfr
        have : c' = c := Option.some.inj ((sub y c' ec').symm.trans ec)
        subst this
        refine .inr ⟨?_, c', ec', ?_⟩
        · rcases hkc with rfl | rfl
          · exact .inl q
          · exact .inr q
        · obtain ⟨o, ho, hd⟩ := hc
          exact ⟨o, hk _ _ ho, hd⟩
  · obtain ⟨v, o, ho, hd⟩ := I.cell y c (sub y c e)
    exact ⟨v, o, hk _ _ ho, hd⟩
  · exact I.freeC y c (sub y c e)
  · rw [List.length_append, List.length_map, I.len]
    exact (blkNs_len X.N xs).symm
def PTs (X : Cx) (ifs : List Expr) (t : TT) : Prop :=
  ∀ (pins : List (Addr × Obj)) (s : Shared) (σ : St) (H : Hp) (Q : Bool → Hp → Prop), Inv X pins σ H s → t σ H Q →
    wpAny (model X.prog X.w) X.A (forIn ifs true fun c r => if r = true then do let ok ← isTrue c X.env (eval c X.env); pure (ForInStep.yield ok) else pure (ForInStep.yield r)) (TP X pins σ Q) X.xe s
def tYes : TT := fun _ H Q => Q true H
theorem pts_nil : PTs X [] tYes := fun _ _ _ H _ I h => wpAny_tests_nil ⟨H, I, h⟩
theorem compLoopT {prog : Program} {w : World} {A : Around} {R : Result → Shared → Prop} {elt target iter : Expr} {ifs : List Expr} {scope : Scope} {pos : Pos} {it acc : Value} {env : Env} (I : Nat → Shared → Prop)
    (turn : ∀ n s, I n s → wpAny (model prog w) A (pyNext it) (fun r s₁ => match r with
      | none => R (.ok .next) s₁
      | some v => wpAny (model prog w) A (letOwnedTupleGo target it v) (fun _ s₁' => wpAny (model prog w) A (assign target env v) (fun _ s₂ =>
          wpAny (model prog w) A (forIn ifs true fun c r => if r = true then do let ok ← isTrue c env (eval c env); pure (ForInStep.yield ok) else pure (ForInStep.yield r)) (fun ok s₃ =>
            if ok = true then wpAny (model prog w) A (eval elt env) (fun x s₄ =>
              wpAny (model prog w) A (call (.builtin "list.append") [acc, x]) (fun _ s₅ => ∃ m, m < n ∧ I m s₅) (fun _ _ => False) s₄) (fun _ _ => False) s₃
            else ∃ m, m < n ∧ I m s₃) (fun _ _ => False) s₂) (fun _ _ => False) s₁') (fun _ _ => False) s₁) (fun _ _ => False) s)
    (n : Nat) (h : I n s) : codeAny (model prog w) A (.compLoop (.ListComp elt [⟨target, iter, ifs, 0⟩] scope pos) 0 it acc env) R s := by
  refine codeAny_loop rfl I (fun n s hI => ?_) n h
  show wpAny _ A ((compTurn (.ListComp elt [⟨target, iter, ifs, 0⟩] scope pos) 0 it acc env).onRaise (fun x => do noteFrame x env; theTreesLotGoes x)) _ _ s
  refine wpAny_noted ?_
  rw [compTurn_list]
  refine wpAny_bind (wpAny_standAt (wpAny_bind (wpAny_mono (turn n s hI) (fun r s₁ h₁ => ?_) fun _ _ z => z.elim)))
  cases r with
  | none => exact wpAny_pure h₁
  | some v =>
    refine wpAny_bind (wpAny_mono h₁ (fun _ s₁' h₁' => ?_) fun _ _ z => z.elim)
    refine wpAny_bind (wpAny_mono h₁' (fun _ s₂ h₂ => wpAny_bind (wpAny_mono h₂ (fun ok s₃ h₃ => ?_) fun _ _ z => z.elim)) fun _ _ z => z.elim)
    cases ok with
    | false => exact wpAny_pure ⟨rfl, h₃⟩
    | true =>
      exact wpAny_bind (wpAny_bind (wpAny_mono h₃ (fun x s₄ h₄ => wpAny_bind (wpAny_mono h₄ (fun _ s₅ h₅ => wpAny_pure (wpAny_pure ⟨rfl, h₅⟩)) fun _ _ z => z.elim)) fun _ _ z => z.elim))
def LcW (n : Nat) (J : It) (g : TG) (tt : TT) (te : TE) (σ : St) (H1 : Hp) (Q : VK) : Prop := ∀ D, H1 D = none → ∃ W : Nat → Nat → List V → Hp → Prop, (∃ m, W 0 m [] (upd H1 D (.lst []))) ∧
  ∀ i m ys H', W i m ys H' → H' D = some (.lst ys) ∧ ((J.stop i H' ∧ Q (.ref D) H') ∨ (J.go i H' ∧ ∀ z H2, J.yld i H' z H2 → ∀ os : St, os.length = n → g z (σ ++ os) H2 fun σ' H3 => (∃ os' : St, σ' = σ ++ os' ∧ os'.length = n) ∧ tt σ' H3 fun ok H4 =>
    if ok = true then te σ' H4 fun v H5 => H5 D = some (.lst ys) ∧ ys.length < sizeLine ∧ ∃ m', m' < m ∧ W (i + 1) m' (ys ++ [v]) (upd H5 D (.lst (ys ++ [v]))) else ∃ m', m' < m ∧ W (i + 1) m' ys H4))
theorem lcs_core {elt iter target : Expr} {ifs : List Expr} {pos : Pos} {g : TG} {tt : TT} {te : TE} {S : Scope} {use : Option (Value → Sem Unit)} {QQ : Value → Shared → Prop} {Q : VK} {it : Addr} {tn : Nat → Heap → Prop} {J : It} (hc : X.calm = true) (L : LcScopes S X.N sc xs) (hS : X.env.scope = S)
    (hg : ∀ (s₀ : Shared) (H₀ : Hp) (fp : List Addr), PG (X.blks (blkNs X.N xs) sc s₀ H₀ fp) target g) (ht : ∀ (s₀ : Shared) (H₀ : Hp) (fp : List Addr), PTs (X.blks (blkNs X.N xs) sc s₀ H₀ fp) ifs tt)
    (he : ∀ (s₀ : Shared) (H₀ : Hp) (fp : List Addr), PE (X.blks (blkNs X.N xs) sc s₀ H₀ fp) elt te)
    (I : Inv X pins σ H s) (T : Turn X.prog X.w X.K target J fp it tn) (st : tn 0 s.heap) (hf : ∀ b ∈ fp, FpOk X pins H b) (h : LcW xs.length J g tt te σ H Q)
    (fin : ∀ (D C : Addr) (H' : Hp) (s' : Shared) (m : Str → Option Value), Inv X pins σ H' s' → Q (.ref D) H' → s'.heap.Ns C m → H' C = none → s.heap.objs.size ≤ C → (∀ p ∈ X.pn ++ pins, p.1 ≠ C) → C ≠ X.env.locals → (∀ y c, X.env.cells.lookup y = some c → c ≠ C) → compPost (model X.prog X.w) X.A X.xe use QQ (.ref D) C (.ok .next) s') :
    wpAny (model X.prog X.w) X.A (newList []) (fun acc s₃ => wpAny (model X.prog X.w) X.A (newFunctionEnv sc X.env.globals (clOf X.env.cells sc.names []) [] X.env.qual none .none (some X.env)) (fun cenv s₄ =>
      codeAny (model X.prog X.w) X.A (.compStart (.ListComp elt [⟨target, iter, ifs, 0⟩] sc pos) 0 (.ref it) acc { cenv with scope := relabel sc X.env }) (compPost (model X.prog X.w) X.A X.xe use QQ acc cenv.locals) s₄) X.xe s₃) X.xe s := by
  refine wpAny_newObj_type ?_
  have hD : H s.heap.objs.size = none := I.hok.fresh (Nat.le_refl _)
  obtain ⟨W, ⟨m0, w0⟩, turn⟩ := h s.heap.objs.size hD
  have I2 : Inv X pins σ (upd H s.heap.objs.size (.lst [])) { s with heap := s.heap.push { cls := .type "list", data := .seq ([] : List Value).toArray } } := I.lnew (t' := s.toks) .nil (Nat.zero_le _)
  have lt0 : ∀ b ∈ fp, b < s.heap.objs.size := fun b hb => by
    obtain ⟨o, e, _⟩ := T.obj 0 s.heap st b hb
    exact Heap.lt_size e
  have hf2 : ∀ b ∈ fp, FpOk X pins (upd H s.heap.objs.size (.lst [])) b := fun b hb => by
    obtain ⟨f0, f⟩ := hf b hb
    exact ⟨by rw [upd_ne (Nat.ne_of_lt (lt0 b hb))]; exact f0, f⟩
  have st2 : tn 0 (s.heap.push { cls := .type "list", data := .seq ([] : List Value).toArray }) := T.keep 0 _ _ st fun b _ o e => Heap.get?_push_of_some _ e
  generalize hs2 : ({ s with heap := s.heap.push { cls := .type "list", data := .seq ([] : List Value).toArray } } : Shared) = s2 at I2
  have eh : s2.heap = s.heap.push { cls := .type "list", data := .seq ([] : List Value).toArray } := by rw [← hs2]
  have lt2 : ∀ b ∈ fp, b < s2.heap.objs.size := fun b hb => by rw [eh, Heap.size_push]; exact Nat.lt_succ_of_lt (lt0 b hb)
  rw [← eh] at st2
  have le2 : s.heap.objs.size ≤ s2.heap.objs.size := by rw [eh, Heap.size_push]; exact Nat.le_succ _
  show wpAny _ _ _ _ _ s2
  refine newEnv_lc ?_
  rw [cellsFrom_none L.noC, pushCells_none L.noC]
  have hns₁ : (s2.heap.push { cls := .type "dict", data := .dict #[] }).Ns s2.heap.objs.size _ := Heap.Ns.new s2.heap (.type "dict")
  have keep : ∀ b o, s2.heap.get? b = some o → (s2.heap.push { cls := .type "dict", data := .dict #[] }).get? b = some o := fun b o e => Heap.get?_push_of_some _ e
  generalize s2.heap.push { cls := .type "dict", data := .dict #[] } = h₁ at hns₁ keep ⊢
  have J0 : Inv (X.blks (blkNs X.N xs) sc s2 (upd H s.heap.objs.size (.lst [])) fp) [] (σ ++ xs.map fun _ => none) (upd H s.heap.objs.size (.lst [])) { s2 with heap := h₁ } := I2.blks (tk := s2.toks) L hS hf2 lt2 hns₁ keep
  have st3 : tn 0 h₁ := T.keep 0 _ _ st2 fun b _ o e => keep b o e
  have stat : ∀ {H' : Hp}, (∀ b ∈ fp, H' b = none) → ∀ b ∈ fp, FpOk (X.blks (blkNs X.N xs) sc s2 (upd H s.heap.objs.size (.lst [])) fp) [] H' b := fun {H'} hn b hb => by
    have o1 := J0.ok.exf b hb
    exact ⟨hn b hb, o1.1, J0.ok.exfs b hb, .inl hb, o1.2, fun p hp => absurd (show p ∈ ([] : List (Addr × Obj)) from hp) (by simp)⟩
  have loop : codeAny (model X.prog X.w) X.A (.compLoop (.ListComp elt [⟨target, iter, ifs, 0⟩] sc pos) 0 (.ref it) (.ref s.heap.objs.size) (compEnvC sc (clOf X.env.cells sc.names []) s2.heap.objs.size X.env))
      (compPost (model X.prog X.w) X.A X.xe use QQ (.ref s.heap.objs.size) s2.heap.objs.size) { s2 with heap := h₁ } := by
    refine compLoopT (fun n s' => ∃ i ys H' os, os.length = xs.length ∧ Inv (X.blks (blkNs X.N xs) sc s2 (upd H s.heap.objs.size (.lst [])) fp) [] (σ ++ os) H' s' ∧ tn i s'.heap ∧ (∀ b ∈ fp, H' b = none) ∧ W i n ys H') ?_ m0 ⟨0, [], _, xs.map fun _ => none, by simp, J0, st3, fun b hb => (hf2 b hb).1, w0⟩
    rintro n s4 ⟨i, ys, H4, os, los, J4, st4, fr4, w4⟩
    obtain ⟨hD4, tt'⟩ := turn i n ys H4 w4
    rcases tt' with ⟨stop, q⟩ | ⟨go, step⟩
    · refine thn (T.done (X.blks (blkNs X.N xs) sc s2 (upd H s.heap.objs.size (.lst [])) fp) rfl rfl rfl hc i [] s4 _ H4 _ J4 (stat fr4) st4 stop) fun r s5 ⟨hr, J5⟩ => ?_
      subst hr
      have I5 : Inv X pins σ H4 s5 := I2.call' J5.os J5.base J5.hok J5.bare fun b hb => by
        obtain ⟨f0, f1, f2, f3, f4, f5⟩ := hf2 b hb
        exact ⟨f3, f1, f4, f5⟩
      obtain ⟨m5, n5, _⟩ := J5.loc
      exact fin _ _ H4 s5 m5 I5 q n5 J5.free le2 (fun p hp z => by
          have := Heap.lt_size (I2.pin p hp).1
          rw [z] at this
          exact Nat.lt_irrefl _ this) (Nat.ne_of_gt I2.lt) (fun y c e z => by
          obtain ⟨v, o, ho, _⟩ := I2.cell y c e
          have := Heap.lt_size ho
          rw [z] at this
          exact Nat.lt_irrefl _ this)
    · refine thn (T.item (X.blks (blkNs X.N xs) sc s2 (upd H s.heap.objs.size (.lst [])) fp) rfl rfl rfl hc i [] s4 _ H4 _ J4 (stat fr4) st4 go) fun r s5 ⟨u, hr, h5⟩ => ?_
      subst hr
      refine thn h5 fun _ s6 ⟨z, H6, J6, r6, y6, st6, fr6⟩ => ?_
      have J6' := J6.pinned (stat fr6) (T.obj _ _ st6)
      refine thn (hg s2 (upd H s.heap.objs.size (.lst [])) fp _ s6 _ H6 z u _ J6' r6 (step z H6 y6 os los)) fun _ s7 ⟨σ7, H7, J7, ⟨os', e7, l7⟩, t7⟩ => ?_
      subst e7
      refine thn (ht s2 (upd H s.heap.objs.size (.lst [])) fp _ s7 _ H7 _ J7 t7) fun ok s8 ⟨H8, J8, t8⟩ => ?_
      cases ok with
      | false =>
        rw [if_neg Bool.false_ne_true] at t8 ⊢
        obtain ⟨m', hm, w8⟩ := t8
        refine ⟨m', hm, i + 1, ys, _, os', l7, J8.unpinned, T.keep _ _ _ st6 fun b hb o e => (J8.pin (b, o) (List.mem_append_right _ (List.mem_append_right _ (mem_pinsAt hb e)))).1, fun b hb => ?_, w8⟩
        obtain ⟨o', e', _⟩ := T.obj _ _ st6 b hb
        exact (J8.pin (b, o') (List.mem_append_right _ (List.mem_append_right _ (mem_pinsAt hb e')))).2.1
      | true =>
        rw [if_pos rfl] at t8 ⊢
        refine thn (he s2 (upd H s.heap.objs.size (.lst [])) fp _ s8 _ H8 _ J8 t8) fun vv s9 ⟨v, H9, J9, r9, hD9, hz9, m', hm, w9⟩ => ?_
        refine thn (mt_append (X := X.blks (blkNs X.N xs) sc s2 (upd H s.heap.objs.size (.lst [])) fp) _ s9 _ H9 (.ref s.heap.objs.size) [v] (.ref s.heap.objs.size) [vv] (fun _ H' => H' = upd H9 s.heap.objs.size (.lst (ys ++ [v]))) J9 rfl (.cons r9 .nil) ⟨_, ys, v, rfl, rfl, hD9, hz9, rfl⟩) fun _ s10 ⟨_, H10, J10, _, e10⟩ => ?_
        subst e10
        refine ⟨m', hm, i + 1, ys ++ [v], _, os', l7, J10.unpinned, T.keep _ _ _ st6 fun b hb o e => (J10.pin (b, o) (List.mem_append_right _ (List.mem_append_right _ (mem_pinsAt hb e)))).1, fun b hb => ?_, w9⟩
        obtain ⟨o', e', _⟩ := T.obj _ _ st6 b hb
        exact (J10.pin (b, o') (List.mem_append_right _ (List.mem_append_right _ (mem_pinsAt hb e')))).2.1
  refine codeAny_compStart_list loop (T.self _ 0 _ _ _ st3 loop)
def g2 (K : PySem.W.Frag) (n : Nat) : TG := gTup K 2 (gCons (gName n) (gCons (gName (n + 1)) gNil))
theorem pg_one {S : Scope} {x : Str} {px : Pos} (L : LcScopes S X.N sc [x]) (s₀ : Shared) (H₀ : Hp) (fp : List Addr) : PG (X.blks (blkNs X.N [x]) sc s₀ H₀ fp) (.Name x px) (gName X.N.length) := by
  refine pg_name L.nd ?_ (.inl (lookup_relabel_local (L.loc x (by simp)))) (.inr (lookup_relabel_local (L.loc x (by simp))))
  show (blkNs X.N [x])[X.N.length]? = some x
  unfold blkNs
  rw [List.getElem?_append_right (by simp)]
  simp
end
end L2
namespace L2
open PySem PySem.Spec PyProof.Rows
theorem lcw_one {n : Nat} {J : It} {te : TE} {σ : St} {H1 : Hp} {Q : VK} (hn : σ.length = n) (h : ∀ D, H1 D = none → ∃ W : Nat → Nat → List V → Hp → Prop, (∃ m, W 0 m [] (upd H1 D (.lst []))) ∧
    ∀ i m ys H', W i m ys H' → H' D = some (.lst ys) ∧ ((J.stop i H' ∧ Q (.ref D) H') ∨ (J.go i H' ∧ ∀ z H2, J.yld i H' z H2 → te (σ ++ [some z]) H2 fun v H3 => H3 D = some (.lst ys) ∧ ys.length < sizeLine ∧ ∃ m', m' < m ∧ W (i + 1) m' (ys ++ [v]) (upd H3 D (.lst (ys ++ [v])))))) :
    LcW 1 J (gName n) tYes te σ H1 Q := by
  subst hn
  intro D hD
  obtain ⟨W, w0, st⟩ := h D hD
  refine ⟨W, w0, fun i m ys H' hw => ?_⟩
  obtain ⟨e, d⟩ := st i m ys H' hw
  refine ⟨e, d.imp id fun ⟨go, yl⟩ => ⟨go, fun z H2 hy os los => ?_⟩⟩
  match os, los with
  | [o], _ =>
    have es : (σ ++ [o]).set σ.length (some z) = σ ++ [some z] := by
      rw [List.set_append_right _ _ (Nat.le_refl _), Nat.sub_self]
      rfl
    show (∃ os' : St, (σ ++ [o]).set σ.length (some z) = σ ++ os' ∧ os'.length = 1) ∧ tYes ((σ ++ [o]).set σ.length (some z)) H2 _
    rw [es]
    exact ⟨⟨[some z], rfl, rfl⟩, iteT (B := ∃ m', m' < m ∧ W (i + 1) m' ys H2) (yl z H2 hy)⟩
section
variable {X : Cx} {sc : Scope} {x : Str}
theorem pe_lc1 {elt iter : Expr} {px pos : Pos} {ti : TI} {te : TE} {S : Scope} (hc : X.calm = true) (L : LcScopes S X.N sc [x]) (hS : X.env.scope = S) (hi : PI X (.Name x px) iter ti)
    (he : ∀ (s₀ : Shared) (H₀ : Hp) (fp : List Addr), PE (X.blks (blkNs X.N [x]) sc s₀ H₀ fp) elt te) (hs : ∀ x, foldedSetIterable iter X.env x = pure x := by intro _; rfl) :
    PE X (.ListComp elt [⟨.Name x px, iter, [], 0⟩] sc pos) (tLc ti te) := by
  intro pins s σ H Q I h
  rw [eval_ListComp]
  refine wpAny_comprehension_free (use := none) rfl hs (closure_of (I.has_cells L hS)) L.kind L.names (thn (hi pins s σ H _ I h) fun xv s₁ h₁ => thn h₁ fun itv s₂ h₂ => ?_)
  obtain ⟨it, fp, tn, J, H2, rfl, I2, T, st2, f2, q2⟩ := h₂
  refine lcs_core hc L hS (pg_one L) (fun _ _ _ => pts_nil) he I2 T st2 f2 (lcw_one I2.len q2) ?_
  intro D C H' s' m I' q hn hC hle hp hL hcl
  refine ⟨m, hn, fun h' hs' => ?_⟩
  have I3 : Inv X pins σ H' { s' with heap := h' } := I'.turned (t' := s'.toks) (fun b o hb e => (hs'.2 b hb).trans e) hC hL (.inr (Nat.le_trans I2.sz hle)) hcl hp
  exact ⟨.ref D, H', I3, rfl, q⟩
end
end L2
namespace L2
open PySem PySem.Spec PyProof.Rows
section
variable {X : Cx} {sc : Scope} {x : Str}
end
end L2
namespace L2
open PySem PySem.Spec PyProof.Rows
section
variable {X : Cx}
end
end L2
namespace L2
open PySem PySem.Spec PyProof.Rows
section
variable {X : Cx}
end
end L2
namespace L2
open PySem PySem.Spec PyProof.Rows
section
variable {X : Cx}
end
end L2
namespace M11
abbrev G (a b : Int) : Int := (Int.gcd a b : Nat)
theorem gcd_step (a b : Int) : Int.gcd b (a.fmod b) = Int.gcd a b := by
  rw [Int.fmod_def, Int.gcd_sub_mul_left_right, Int.gcd_comm]
theorem fmod_small (a b : Int) (h : b ≠ 0) : (a.fmod b).natAbs < b.natAbs := by
  rcases Int.lt_or_lt_of_ne h with hb | hb
  · have e := Int.neg_fmod_neg a b
    have h1 := Int.fmod_nonneg_of_pos (-a) (b := -b) (by omega)
    have h2 := Int.fmod_lt_of_pos (-a) (b := -b) (by omega)
    omega
  · have h1 := Int.fmod_nonneg_of_pos a hb
    have h2 := Int.fmod_lt_of_pos a hb
    omega
theorem gcd_end (a : Int) : (if a < 0 then -a else a) = G a 0 := by
  show _ = ((Int.gcd a 0 : Nat) : Int)
  rw [Int.gcd_zero_right]
  split <;> omega
theorem gcd_stepN (l r : Int) : Int.gcd (r % l) l = Int.gcd l r := by
  have e : r % l = r - l * (r / l) := Int.emod_def r l
  rw [Int.gcd_comm, e, Int.gcd_sub_mul_left_right]
theorem gcd_abs (a b : Int) : Int.gcd (if a < 0 then -a else a) (if b < 0 then -b else b) = Int.gcd a b := by
  split <;> split <;> simp only [Int.gcd_neg, Int.neg_gcd]
def sgn (t b : Int) : Int := if b < 0 then -(G t b) else G t b
def low (t b : Int) : Int × Int := (t.fdiv (sgn t b), b.fdiv (sgn t b))
theorem sgn_ne {t b : Int} (h : b ≠ 0) : sgn t b ≠ 0 := by
  have := Int.gcd_pos_of_ne_zero_right t h
  unfold sgn G
  split <;> omega
theorem G_le {t b : Int} (h : b ≠ 0) : G t b ≤ (b.natAbs : Int) := by
  have h1 : Int.gcd t b ∣ b.natAbs := by
    have := Int.natAbs_dvd_natAbs.mpr (Int.gcd_dvd_right t b)
    simpa using this
  have h2 : 0 < b.natAbs := by omega
  exact Int.ofNat_le.mpr (Nat.le_of_dvd h2 h1)
theorem sgn_le {t b : Int} (h : b ≠ 0) : (sgn t b).natAbs ≤ b.natAbs := by
  have h1 := G_le (t := t) h
  have h2 : 0 ≤ G t b := Int.natCast_nonneg _
  unfold sgn
  generalize G t b = g at h1 h2 ⊢
  split <;> omega
theorem sgn_natAbs (t b : Int) : (sgn t b).natAbs = Int.gcd t b := by
  unfold sgn G
  split <;> omega
theorem sgn_dvd_l (t b : Int) : sgn t b ∣ t := by
  unfold sgn
  split
  · exact Int.neg_dvd.mpr (Int.gcd_dvd_left t b)
  · exact Int.gcd_dvd_left t b
theorem sgn_dvd_r (t b : Int) : sgn t b ∣ b := by
  unfold sgn
  split
  · exact Int.neg_dvd.mpr (Int.gcd_dvd_right t b)
  · exact Int.gcd_dvd_right t b
theorem low_spec {t b : Int} (h : b ≠ 0) : ∃ t' b', t = sgn t b * t' ∧ b = sgn t b * b' ∧ low t b = (t', b') ∧ 0 < b' ∧ Int.gcd t' b' = 1 := by
  have hn := sgn_ne (t := t) h
  obtain ⟨t', e1⟩ := sgn_dvd_l t b
  obtain ⟨b', e2⟩ := sgn_dvd_r t b
  refine ⟨t', b', e1, e2, ?_, ?_, ?_⟩
  · have f1 : t.fdiv (sgn t b) = t' := (congrArg (fun z => Int.fdiv z (sgn t b)) e1).trans (Int.mul_fdiv_cancel_left t' hn)
    have f2 : b.fdiv (sgn t b) = b' := (congrArg (fun z => Int.fdiv z (sgn t b)) e2).trans (Int.mul_fdiv_cancel_left b' hn)
    unfold low
    rw [f1, f2]
  · by_cases hb : b < 0
    · have hs : sgn t b < 0 := by
        have := Int.gcd_pos_of_ne_zero_right t h
        unfold sgn G
        rw [if_pos hb]
        omega
      by_cases hp : 0 < b'
      · exact hp
      · have := Int.mul_nonneg_of_nonpos_of_nonpos (a := sgn t b) (b := b') (by omega) (by omega)
        omega
    · have hs : 0 < sgn t b := by
        have := Int.gcd_pos_of_ne_zero_right t h
        unfold sgn G
        rw [if_neg hb]
        omega
      by_cases hp : 0 < b'
      · exact hp
      · have := Int.mul_nonpos_of_nonneg_of_nonpos (a := sgn t b) (b := b') (by omega) (by omega)
        omega
  · have g1 : Int.gcd (sgn t b * t') (sgn t b * b') = (sgn t b).natAbs * Int.gcd t' b' := Int.gcd_mul_left _ _ _
    rw [← e1, ← e2, sgn_natAbs] at g1
    have g2 := Int.gcd_pos_of_ne_zero_right t h
    have g3 : Int.gcd t b * Int.gcd t' b' = Int.gcd t b * 1 := by omega
    exact Nat.eq_of_mul_eq_mul_left g2 g3
theorem low_pos {t b : Int} (h : b ≠ 0) : 0 < (low t b).2 := by
  obtain ⟨t', b', _, _, e3, h', _⟩ := low_spec (t := t) h
  rw [e3]; exact h'
theorem low_cop {t b : Int} (h : b ≠ 0) : Int.gcd (low t b).1 (low t b).2 = 1 := by
  obtain ⟨t', b', _, _, e3, _, h'⟩ := low_spec (t := t) h
  rw [e3]; exact h'
theorem natAbs_le_of_mul {d x : Int} (h : d ≠ 0) : x.natAbs ≤ (d * x).natAbs := by
  rw [Int.natAbs_mul]
  exact Nat.le_mul_of_pos_left _ (by omega)
theorem low_le {t b : Int} (h : b ≠ 0) : (low t b).1.natAbs ≤ t.natAbs ∧ (low t b).2.natAbs ≤ b.natAbs := by
  obtain ⟨t', b', e1, e2, e3, _⟩ := low_spec (t := t) h
  have hn := sgn_ne (t := t) h
  rw [e3]
  have h1 := natAbs_le_of_mul (x := t') hn
  have h2 := natAbs_le_of_mul (x := b') hn
  rw [← e1] at h1
  rw [← e2] at h2
  exact ⟨h1, h2⟩
end M11
namespace M11
end M11
namespace L2
open PySem PySem.Spec PyProof.Rows
section
variable {X : Cx}
end
end L2
namespace L2
open PySem PySem.Spec PyProof.Rows
theorem dict_mapFields (o : Obj) (f : Array Value → Array Value) : (o.mapFields f).dict = o.dict := by
  unfold Obj.mapFields
  split <;> rfl
structure TrD (h base : Heap) (e : Addr) (cls : Value) (dd : Option Addr) (fl : Value) : Prop where
  ex : ∃ oe vs T oT ts, (h.get? e = some oe ∧ oe.cls = cls ∧ oe.dict = dd ∧ oe.data = .fields vs) ∧ vs[1]? = some (.ref T) ∧ base.get? T = none ∧ T ≠ e ∧ (h.get? T = some oT ∧ oT.data = .fields ts) ∧ ts[3]? = some fl ∧ (dd ≠ none → vs[2]? = some .none)
structure FlyD (base : Heap) (l : List Env) (e : Addr) (cls : Value) (dd : Option Addr) (fl : Value) (h : Heap) : Prop where
  stay : base.StaysIn h
  new : base.get? e = none
  frm : h.FunFrames base l
  tr : TrD h base e cls dd fl
section
variable {M : Model} {A : Around} {E : Value → Shared → Prop} {s : Shared} {base : Heap} {env : Env} {outer : List Env} {L e : Addr} {cls : Value} {dd : Option Addr}
theorem entryD {oe : Obj} {vs : Array Value} {head : Value} {had : Bool} {Q : Unit → Shared → Prop} (hA : A.frames = some (env :: outer)) (hl : s.heap.FunFrames base (env :: outer)) (hf : env.frame = some L)
    (he : s.heap.get? e = some oe) (hk : base.StaysIn s.heap) (hn : base.get? e = none) (hd : oe.data = .fields vs) (hz : 1 < vs.size) (hcx : oe.dict ≠ none → vs[2]? = some .none)
    (q : ∀ h', FlyD base (env :: outer) e oe.cls oe.dict (rawInt L) h' → s.heap.UpToSlots h' → Q () { s with heap := h' }) :
    wpAny M A (frameOf env >>= fun a => entryPlaceOf L had >>= fun pl => EntryCells.newEntry head a .none (rawInt L) .none pl >>= fun b => setField (.ref e) 1 b) Q E s := by
  have out : ∀ b o, s.heap.get? b = some o → (∀ ws, o.data ≠ .fields ws) → b ≠ e := fun b o ho hx z => by
    rw [z, he] at ho
    cases ho
    exact hx _ hd
  refine wpAny_bind (wpAny_frameOf_fun hA hl hf fun h1 so => wpAny_bind (wpAny_entryPlaceOf fun pl hp => ?_))
  have e1 : h1.get? e = some oe := by
    rw [so.2.1 e fun hm => ?_]
    · exact he
    · obtain ⟨_, o, ho, hx⟩ := hl.mem hm
      exact out e o ho hx rfl
  have k1 : base.StaysIn h1 := fun b o ho => by
    rw [so.2.1 b fun hm => by rw [(hl.mem hm).1] at ho; cases ho]
    exact hk b o ho
  unfold EntryCells.newEntry newFields
  refine wpAny_bind (wpAny_newObj_type ?_ (hp.sizeOk5 _ _ _ _ _))
  generalize hts : ([head, .ref L, .none, rawInt L, .none] ++ (if pl.isEmpty then List.replicate 6 Value.none else pl)).toArray = ts
  have t3 : ts[3]? = some (rawInt L) := by
    rw [← hts]
    rcases hp with rfl | ⟨_, _, _, _, _, _, _, rfl⟩ <;> simp
  have e2 : (h1.push { cls := .type "traceback", data := .fields ts }).get? e = some oe := Heap.get?_push_of_some _ e1
  have T2 : (h1.push { cls := .type "traceback", data := .fields ts }).get? h1.objs.size = some { cls := .type "traceback", data := .fields ts } := Heap.get?_push_size h1 rfl
  have nT : h1.objs.size ≠ e := Nat.ne_of_gt (Heap.lt_size e1)
  refine wpAny_setField e2 hd hz (q _ ⟨?_, hn, ?_, ?_⟩ ?_)
  · intro b o ho
    have : e ≠ b := fun z => by rw [← z, hn] at ho; cases ho
    rw [Heap.get?_update_other _ _ this]
    exact Heap.get?_push_of_some _ (k1 b o ho)
  · refine hl.of_keeps fun b o ho hx => ?_
    obtain ⟨sl, z⟩ := so.2.2 b o ho
    refine ⟨_, (Heap.get?_update_other _ _ (Ne.symm (out b o ho hx))).trans (Heap.get?_push_of_some _ z), rfl⟩
  · have d3 := Obj.data_mapFields hd fun ws => ws.setIfInBounds 1 (Value.ref h1.objs.size)
    refine ⟨_, _, h1.objs.size, _, ts, ⟨Heap.get?_update_self _ e2 (Obj.isFreed_of_fields d3), Obj.cls_mapFields _ _, dict_mapFields _ _, d3⟩, by simp [hz], k1.fresh, nT, ⟨(Heap.get?_update_other _ _ (Ne.symm nT)).trans T2, rfl⟩, t3, fun z => by rw [Array.getElem?_setIfInBounds_ne (by decide)]; exact hcx z⟩
  · intro b o ho hx
    obtain ⟨sl, z⟩ := so.2.2 b o ho
    exact ⟨sl, (Heap.get?_update_other _ _ (Ne.symm (out b o ho hx))).trans (Heap.get?_push_of_some _ z)⟩
theorem noteD0 {oe : Obj} {vs : Array Value} {Q : Unit → Shared → Prop} (hA : A.frames = some (env :: outer)) (hl : s.heap.FunFrames base (env :: outer)) (hf : env.frame = some L)
    (he : s.heap.get? e = some oe) (hk : base.StaysIn s.heap) (hn : base.get? e = none) (hd : oe.data = .fields vs) (h1 : vs[1]? = some .none) (hcx : oe.dict ≠ none → vs[2]? = some .none)
    (q : ∀ h', FlyD base (env :: outer) e oe.cls oe.dict (rawInt L) h' → s.heap.UpToSlots h' → Q () { s with heap := h' }) : wpAny M A (noteFrame (.ref e) env) Q E s := by
  unfold noteFrame
  rw [hf]
  refine wpAny_bind (wpAny_field he hd h1 ?_)
  exact entryD hA hl hf he hk hn hd (Array.getElem?_eq_some_iff.mp h1).1 hcx q
theorem noteD {Q : Unit → Shared → Prop} (hA : A.frames = some (env :: outer)) (hf : env.frame = some L) (fl : FlyD base (env :: outer) e cls dd .none s.heap)
    (q : ∀ h', FlyD base (env :: outer) e cls dd (rawInt L) h' → s.heap.UpToSlots h' → Q () { s with heap := h' }) : wpAny M A (noteFrame (.ref e) env) Q E s := by
  obtain ⟨oe, vs, T, oT, ts, ⟨he, hc, hdd, hd⟩, h1, nb, nT, ⟨hT, hdT⟩, h3, hcx⟩ := fl.tr.ex
  subst hc hdd
  unfold noteFrame
  rw [hf]
  refine wpAny_bind (wpAny_field he hd h1 ?_)
  rw [if_pos (by simp)]
  refine wpAny_bind (wpAny_field hT hdT h3 ?_)
  rw [if_neg (by simp [rawInt])]
  refine wpAny_bind (wpAny_setField hT hdT (Array.getElem?_eq_some_iff.mp h3).1 ?_)
  have oth : ∀ b, b ≠ T → (s.heap.update T (Obj.mapFields (·.setIfInBounds 3 Value.none))).get? b = s.heap.get? b := fun b hb => Heap.get?_update_other _ _ (Ne.symm hb)
  have out : ∀ b o, s.heap.get? b = some o → (∀ ws, o.data ≠ .fields ws) → b ≠ T := fun b o ho hx z => by
    rw [z, hT] at ho
    cases ho
    exact hx _ hdT
  refine entryD hA (fl.frm.of_keeps fun b o ho hx => ⟨o, (oth b (out b o ho hx)).trans ho, rfl⟩) hf ((oth e (Ne.symm nT)).trans he) (fun b o ho => ?_) fl.new hd (Array.getElem?_eq_some_iff.mp h1).1 hcx fun h' f' u => q h' f' fun b o ho hx => u b o ((oth b (out b o ho hx)).trans ho) hx
  have : b ≠ T := fun z => by rw [z, nb] at ho; cases ho
  exact (oth b this).trans (fl.stay b o ho)
theorem flightD {l : List Env} {v : Value} {Q : Unit → Shared → Prop} (fl : FlyD base l e cls dd v s.heap) (q : ∀ h', FlyD base l e cls dd .none h' → s.heap.UpToSlots h' → Q () { s with heap := h' }) : wpAny M A (setFlight (.ref e) none) Q E s := by
  obtain ⟨oe, vs, T, oT, ts, ⟨he, hc, hdd, hd⟩, h1, nb, nT, ⟨hT, hdT⟩, h3, hcx⟩ := fl.tr.ex
  have hz := (Array.getElem?_eq_some_iff.mp h3).1
  have out : ∀ b o, s.heap.get? b = some o → (∀ ws, o.data ≠ .fields ws) → T ≠ b := fun b o ho hx z => by
    rw [← z, hT] at ho
    cases ho
    exact hx _ hdT
  unfold setFlight
  refine wpAny_bind (wpAny_field he hd h1 ?_)
  rw [if_pos (by simp)]
  refine wpAny_setField hT hdT hz (q _ ⟨fun b o ho => ?_, fl.new, fl.frm.of_keeps fun b o ho hx => ⟨o, (Heap.get?_update_other _ _ (out b o ho hx)).trans ho, rfl⟩, ?_⟩ fun b o ho hx => ⟨o.slots, (Heap.get?_update_other _ _ (out b o ho hx)).trans ho⟩)
  · have : T ≠ b := fun z => by rw [← z, nb] at ho; cases ho
    exact (Heap.get?_update_other _ _ this).trans (fl.stay b o ho)
  · have d3 := Obj.data_mapFields hdT fun ws => ws.setIfInBounds 3 Value.none
    exact ⟨oe, vs, T, _, _, ⟨(Heap.get?_update_other _ _ nT).trans he, hc, hdd, hd⟩, h1, nb, nT, ⟨Heap.get?_update_self _ hT (Obj.isFreed_of_fields d3), d3⟩, by simp [hz], hcx⟩
theorem FlyD.pop {v : Value} {h : Heap} (x : FlyD base (env :: outer) e cls dd v h) : FlyD base outer e cls dd v h := ⟨x.stay, x.new, x.frm.2.2, x.tr⟩
theorem leaveD0 {oe : Obj} {vs : Array Value} {Q : Unit → Shared → Prop} (hA : A.frames = some (env :: outer)) (hl : s.heap.FunFrames base (env :: outer)) (hf : env.frame = some L)
    (he : s.heap.get? e = some oe) (hk : base.StaysIn s.heap) (hn : base.get? e = none) (hd : oe.data = .fields vs) (h1 : vs[1]? = some .none) (hcx : oe.dict ≠ none → vs[2]? = some .none)
    (q : ∀ h', FlyD base outer e oe.cls oe.dict .none h' → s.heap.UpToSlots h' → Q () { s with heap := h' }) : wpAny M A (leaving env (.ref e)) Q E s := by
  unfold leaving
  exact wpAny_bind (noteD0 hA hl hf he hk hn hd h1 hcx fun h' f' u => flightD f' fun h'' f'' u' => q h'' f''.pop (u.trans u'))
end
end L2
namespace L2
open PySem PySem.Spec PyProof.Rows
abbrev bmV : List Value := [.type "ValueError", .type "Exception", .type "BaseException", .type "object"]
structure Exc (K : PySem.W.Frag) (C : Addr) (bm : List Value) : Prop where
  ok : PySem.W.excIn K C bmV "ValueError.__new__" = true
  mro : ∃ oc od cd sl, K.lookup C = some ⟨oc, od, .cls cd, sl⟩ ∧ cd.mro = .ref C :: bm
  ga : PySem.W.findIn K (.ref C) "__getattribute__" = some (some (.builtin "BaseException.__getattribute__"))
  gt : PySem.W.findIn K (.ref C) "__getattr__" = some none
  cl : PySem.W.findIn K (.ref C) "__class__" = some (some (.builtin "object.__class__"))
structure ExcC (h : Heap) (C : Addr) (bm : List Value) : Prop where
  ob : ∃ N nm qn bs hd sn sub ab col dd k0 k1 k2 k3 k5 mN, h.get? C = some (excClassObj nm qn C N bs bm hd sn sub ab col dd k0 k1 k2 k3 k5 "ValueError.__new__") ∧ h.Ns N mN ∧ mN "__init__" = none ∧ OwnTail h bmV bm
theorem Exc.at {K : PySem.W.Frag} {C : Addr} {bm : List Value} (Z : Exc K C bm) {h : Heap} (X : K.In h) : ExcC h C bm := by
  obtain ⟨oc, od, cd, sl, lk, hm⟩ := Z.mro
  have q := Z.ok
  unfold PySem.W.excIn at q
  rw [lk] at q
  split at q
  case h_2 => cases q
  case h_1 e =>
    injection e with e
    injection e with e1 e2 e3 e4
    injection e3 with e3
    subst e1 e2 e3 e4
    split at q
    case h_2 => cases q
    case h_1 C' bm' k0 k1 k2 k3 n k5 hm' hs =>
      simp only [Bool.and_eq_true, beq_iff_eq, Bool.not_eq_true'] at q
      obtain ⟨⟨⟨⟨⟨r1, r2⟩, r3⟩, r4⟩, r5⟩, r6⟩ := q
      rw [hm] at hm'
      injection hm' with g1 g2
      subst g2 r2
      have hsl : sl = #[k0, k1, k2, k3, some (.builtin "ValueError.__new__"), k5] := by
        obtain ⟨l⟩ := sl
        simp only at hs
        rw [hs]
      subst hsl
      obtain ⟨nm, bs, mro, ns, qn, hd, sn, sub, ab, col, del⟩ := cd
      dsimp only at hm r3 r5 r6
      subst hm r3
      exact ⟨ns, nm, qn, bs, hd, sn, sub, ab, col, od, k0, k1, k2, k3, k5, _, X _ _ lk, .of_isNs (PySem.W.isNs_of_in X r5), PySem.W.nsMap_none_of_in X r5 r6, PySem.W.tail_of_in X r4⟩
structure ExcW (K : PySem.W.Frag) (C : Addr) (bm : List Value) : Prop where
  ob : ∀ h : Heap, K.In h → ∃ nm qn N bs hd sn sub ab col dd k0 k1 k2 k3 k5, h.get? C = some (excClassObj nm qn C N bs bm hd sn sub ab col dd k0 k1 k2 k3 k5 "ValueError.__new__") ∧ OwnTail h bmV bm
  ga : PySem.W.findIn K (.ref C) "__getattribute__" = some (some (.builtin "BaseException.__getattribute__"))
  gt : PySem.W.findIn K (.ref C) "__getattr__" = some none
  cl : PySem.W.findIn K (.ref C) "__class__" = some (some (.builtin "object.__class__"))
theorem Exc.w {K : PySem.W.Frag} {C : Addr} {bm : List Value} (Z : Exc K C bm) : ExcW K C bm := by
  refine ⟨fun h X => ?_, Z.ga, Z.gt, Z.cl⟩
  obtain ⟨N, nm, qn, bs, hd, sn, sub, ab, col, dd, k0, k1, k2, k3, k5, mN, hC, hN, hni, T⟩ := (Z.at X).ob
  exact ⟨_, _, _, _, _, _, _, _, _, _, _, _, _, _, _, hC, T⟩
def ExcO (a C : Addr) (dd : Option Addr) (h : Heap) : Prop := ∃ o vs, h.get? a = some o ∧ o.cls = .ref C ∧ o.dict = dd ∧ o.data = .fields vs ∧ (dd ≠ none → vs[2]? = some .none)
section
variable {prog : Program} {w : World} {A : Around} {E : Value → Shared → Prop} {h : Heap} {g : Array GenState} {d : Drawn} {t : Nat} {os : OsState} {a C : Addr} {o : Obj} {bm : List Value} {K : PySem.W.Frag}
theorem xcls_get {R : Result → Shared → Prop} (Z : ExcW K C bm) (X : K.In h) (hx : h.get? a = some o) (hc : o.cls = .ref C) (hq : R (.ok (.ret (.ref C))) ⟨h, g, d, t, os⟩) :
    codeAny (model prog w) A (.call (.builtin "getset_descriptor.__get__") ⟨[.builtin "object.__class__", .ref a, .ref C], []⟩) R ⟨h, g, d, t, os⟩ := by
  obtain ⟨nm, qn, N, bs, hd, sn, sub, ab, col, dd, k0, k1, k2, k3, k5, hC, T⟩ := Z.ob _ X
  have hT5 : (⟨h, g, d, t, os⟩ : Shared).TypeIs (.builtin "object.__class__") "getset_descriptor" := F.typeOf_object_class
  have hcB : (Value.ref C :: bm).contains (.type (".".intercalate ("object.__class__".cutAt '.').dropLast)) = true := by
    rw [F.owner_object_class, List.contains_cons, T.hasType (b := true) (by rfl)]
    rfl
  refine codeAny_call_builtin F.slot_gs_get.plain F.entry_gs_get (F.slot_gs_get.check _ _ _ _ _ _ _ _ hT5 (F.args_gs_get _ _ _) ?_)
  repeat (any_goals (first | assumption | (with_reducible refine wpAny_loadPart_at hx ?_; rw [hc]) | (with_reducible refine wpAny_isSubtype_exc hC ?_; rw [hcB]) | wp_step))
  refine ⟨Code.quiet_builtin _ (by decide +kernel), codeAny_builtin F.entry_object_class ?_⟩
  repeat (any_goals (first | assumption | (with_reducible refine wpAny_loadPart_at hx ?_; rw [hc]) | wp_step))
theorem xcls_entry {tk : Tok} {Q : Fin → Shared → Prop} (Z : ExcW K C bm) (X : K.In h) (hx : h.get? a = some o) (hc : o.cls = .ref C) (hq : Q (.done (.ret (.ref C))) ⟨h, g, d, t, os⟩) :
    wpAny (model prog w) A (Builtin.«object.__getattribute__» ⟨[.ref a, .str "__class__" tk], []⟩) Q E ⟨h, g, d, t, os⟩ := by
  have hT5 : (⟨h, g, d, t, os⟩ : Shared).TypeIs (.builtin "object.__class__") "getset_descriptor" := F.typeOf_object_class
  have f5 := F.typeOf_object_class
  have f6 := F.slot_gs_get.lookup
  have f7 := F.slot_gs_set.lookup
  have LK : ∀ M : Model, PySem.W.Looks M h (typeLookup (.ref C) "__class__") (some (.builtin "object.__class__")) := fun M => PySem.W.looks_findIn X Z.cl
  repeat (any_goals (first | assumption | (with_reducible refine wpAny_loadPart_at hx ?_; rw [hc]) | with_reducible refine (LK _).at ?_ | wp_step))
  refine xcls_get Z X hx hc ?_
  repeat (any_goals (first | assumption | wp_step))
theorem xcls_check {M : Model} {nameV : Value} {Q : Unit → Shared → Prop} (Z : ExcW K C bm) (X : K.In h) (hx : h.get? a = some o) (hc : o.cls = .ref C) (hq : Q () ⟨h, g, d, t, os⟩) : wpAny M A (checkBuiltinCall "BaseException.__getattribute__" ⟨[.ref a, nameV], []⟩) Q E ⟨h, g, d, t, os⟩ := by
  obtain ⟨nm, qn, N, bs, hd, sn, sub, ab, col, dd, k0, k1, k2, k3, k5, hC, T⟩ := Z.ob _ X
  have hk : builtinKind "BaseException.__getattribute__" = some .slot := by decide +kernel
  have hsplit : splitId "BaseException.__getattribute__" = some ("BaseException", "__getattribute__") := by decide +kernel
  have hcB : (Value.ref C :: bm).contains (.type "BaseException") = true := by rw [List.contains_cons, T.hasType (b := true) (by rfl)]; rfl
  have ha := F.args_bexc_ga (.ref a) nameV
  simp only [checkBuiltinCall, hk, hsplit]
  refine wpAny_bind ?_
  unfold isInstance
  repeat (first | (with_reducible refine wpAny_loadPart_at hx ?_; rw [hc]) | (with_reducible refine wpAny_isSubtype_exc hC ?_; rw [hcB]) | wp_step)
  exact hq
theorem xcls_by {tk : Tok} {Q : Value → Shared → Prop} (Z : ExcW K C bm) (X : K.In h) (hx : h.get? a = some o) (hc : o.cls = .ref C) (hq : Q (.ref C) ⟨h, g, d, t, os⟩) :
    wpAny (model prog w) A (getAttrBy (.ref a) (.str "__class__" tk) false) Q E ⟨h, g, d, t, os⟩ := by
  have FB := F.attrBase_ValueError
  have f3 := FB.ga.bind (.ref a)
  have hx2 : (Value.builtin "BaseException.__getattribute__" == Value.builtin "object.__getattribute__") = false := by decide +kernel
  have hx1 : (onTheHeap (Value.ref C) && Value.builtin "BaseException.__getattribute__" == Value.builtin "object.__getattribute__") = false := by rw [hx2]; rfl
  have L1 : ∀ M : Model, PySem.W.Looks M h (typeLookup (.ref C) "__getattribute__") (some (.builtin "BaseException.__getattribute__")) := fun M => PySem.W.looks_findIn X Z.ga
  have L2 : ∀ M : Model, PySem.W.Looks M h (typeLookup (.ref C) "__getattr__") none := fun M => PySem.W.looks_findIn X Z.gt
  repeat (any_goals (first | assumption | (with_reducible refine wpAny_loadPart_at hx ?_; rw [hc]) | with_reducible refine (L1 _).at ?_ | with_reducible refine (L2 _).at ?_ | wp_step))
  refine codeAny_call_builtin FB.ga.plain F.entry_bexc_ga (xcls_check Z X hx hc (xcls_entry Z X hx hc ?_))
  repeat (any_goals (first | assumption | wp_step))
theorem xcls_attr {Q : Option Value → Shared → Prop} (Z : ExcW K C bm) (X : K.In h) (hx : h.get? a = some o) (hc : o.cls = .ref C) (hq : Q (some (.ref C)) ⟨h, g, d, t + 1, os⟩) : wpAny (model prog w) A (getAttr? (.ref a) "__class__") Q E ⟨h, g, d, t, os⟩ := by
  unfold getAttr? getAttrBy?
  repeat (any_goals (first | assumption | with_reducible apply xcls_by Z X hx hc | wp_step))
end
end L2
namespace L2
open PySem PySem.Spec PyProof.Rows
section
variable {prog : Program} {w : World} {A : Around} {E : Value → Shared → Prop} {h : Heap} {g : Array GenState} {d : Drawn} {t : Nat} {os : OsState} {K : PySem.W.Frag} {C CK fI : Addr}
end
end L2
namespace L2
open PySem PySem.Spec PyProof.Rows
def RawX (a C : Addr) (dd : Option Addr) (h : Heap) : Prop := ∃ t0 : Addr, h.get? a = some ⟨.ref C, dd, .fields #[.ref t0, .none, .none, .none, .bool false, .none], #[]⟩
section
variable {prog : Program} {w : World} {A : Around} {E : Value → Shared → Prop} {s : Shared} {K : PySem.W.Frag} {C CK fI x : Addr} {name : Str} {v : Value}
end
end L2
namespace L2
open PySem PySem.Spec PyProof.Rows
section
variable {prog : Program} {w : World} {A : Around} {E : Value → Shared → Prop} {s : Shared} {K : PySem.W.Frag} {C CK fI x : Addr}
end
section
variable {X : Cx} {e a b : Expr} {es : List Expr} {te : TE} {t : Str → TE} {pos : Pos}
def PJ (X : Cx) (es : List Expr) (t : Str → TE) : Prop :=
  ∀ (pins : List (Addr × Obj)) (s : Shared) (σ : St) (H : Hp) (acc : Str) (Q : VK), Inv X pins σ H s → t acc σ H Q → wpAny (model X.prog X.w) X.A (joinParts acc (evalEach es X.env)) (EP X pins σ Q) X.xe s
def jNil : Str → TE := fun acc _ H Q => acc.length ≤ sizeLine ∧ Q (.str acc) H
def jCons (te : TE) (t : Str → TE) : Str → TE := fun acc σ H Q => te σ H fun x H1 => ∃ y, x = .str y ∧ (acc ++ y).length ≤ sizeLine ∧ t (acc ++ y) σ H1 Q
theorem pj_nil : PJ X [] jNil := fun _ _ _ H acc _ I h => joinParts_nil ⟨.str acc, H, I.tok _, ⟨_, rfl⟩, h.2⟩ h.1
theorem pj_cons (he : PE X e te) (hr : PJ X es t) : PJ X (e :: es) (jCons te t) := by
  intro pins s σ H acc Q I h
  refine joinParts_cons (thn (he pins s σ H _ I h) fun v s1 ⟨x, H1, I1, r1, y, ex, hz, q⟩ => ?_)
  subst ex
  obtain ⟨tk, rfl⟩ := r1
  exact ⟨hz, hr pins s1 σ H1 _ Q I1 q⟩
theorem pe_joined (h : PJ X (a :: b :: es) t) : PE X (.JoinedStr (a :: b :: es) pos) (t Str.empty) := fun pins s σ H Q I hq => JoinedStr_many (h pins s σ H Str.empty Q I hq)
theorem pe_fmtI (he : PE X e te) : PE X (.FormattedValue e (-1) none pos) (fun σ H Q => te σ H fun x H1 => ∃ i : Int, x = .int i ∧ i.natAbs.log2 < 1920 ∧ Q (.str (Str.ofString (toString i))) H1) := by
  intro pins s σ H Q I h
  refine FormattedValue_plain (thn (he pins s σ H _ I h) fun v s1 ⟨x, H1, I1, r1, i, ex, hi, q⟩ => ?_)
  subst ex
  obtain ⟨tk, rfl⟩ := r1
  exact formatField_int_small hi ⟨.str (Str.ofString (toString i)), H1, I1.tok _, ⟨_, rfl⟩, q⟩
end
end L2
namespace L2
open PySem PySem.Spec PyProof.Rows
def rawHO (a C : Addr) (dd : Option Addr) : HO := .ext (RawX a C dd)
theorem RawX.ok {P : Program} {w : World} {H : Hp} {h : Heap} {a C : Addr} {dd : Option Addr} (x : RawX a C dd h) : ObjOk P w H h a (rawHO a C dd) := by
  obtain ⟨t0, e⟩ := id x
  exact ⟨x, ⟨_, e⟩, fun h1 h2 ⟨t1, e1⟩ k => ⟨t1, k _ e1⟩⟩
section
variable {X : Cx} {pins : List (Addr × Obj)} {σ : St} {H : Hp} {s : Shared} {a C CK fI dx : Addr} {dd : Option Addr}
theorem Inv.raw (I : Inv X pins σ H s) (h : H a = some (rawHO a C dd)) : RawX a C dd s.heap := (I.hok a _ h).1
end
end L2
namespace L2
open PySem PySem.Spec PyProof.Rows
section
variable {X : Cx} {pins : List (Addr × Obj)} {σ : St} {H : Hp} {s : Shared} {a C CK fI dx : Addr} {dd : Option Addr} {k : Nat} {fd : FuncData} {ps : List Str} {sp : Sp}
def RaiseOkD (X : Cx) (C : Addr) (R : Addr → Option Addr → Hp → Prop) : Prop := ∀ (pins : List (Addr × Obj)) (σ : St) (H : Hp) (s : Shared) (a : Addr) (dd : Option Addr), Inv X pins σ H s → H a = some (rawHO a C dd) → R a dd H → X.xe (.ref a) s
end
end L2
namespace L2
open PySem PySem.Spec PyProof.Rows
def del (H : Hp) (a : Addr) : Hp := fun b => if b = a then none else H b
theorem del_ne {H : Hp} {a b : Addr} (h : b ≠ a) : del H a b = H b := if_neg h
theorem del_same {H : Hp} {a : Addr} : del H a a = none := if_pos rfl
theorem del_upd {H : Hp} {a : Addr} {o : HO} : del (upd H a o) a = del H a := by
  funext b
  by_cases h : b = a
  · subst h; rw [del_same, del_same]
  · rw [del_ne h, del_ne h, upd_ne h]
theorem del_new {H : Hp} {a : Addr} (h : H a = none) : del H a = H := by
  funext b
  by_cases hb : b = a
  · subst hb; rw [del_same, h]
  · rw [del_ne hb]
theorem some_of {P : Program} {w : World} {H : Hp} {h : Heap} {a : Addr} {o : HO} (x : ObjOk P w H h a o) : ∃ u, h.get? a = some u := by
  induction o with
  | lst xs => obtain ⟨_, _, _, _, e⟩ := x; exact ⟨_, e⟩
  | tup xs => obtain ⟨_, _, _, ob, e, _⟩ := x; exact ⟨_, e⟩
  | dK kvs => obtain ⟨_, _, _, _, o, _, _, e, _⟩ := x; exact ⟨_, e⟩
  | dT kvs => obtain ⟨_, _, _, _, o, _, _, e, _⟩ := x; exact ⟨_, e⟩
  | set S n => obtain ⟨o, _, _, _, e, _⟩ := x; exact ⟨_, e⟩
  | ins C dx fs => obtain ⟨_, _, _, e, _⟩ := x; exact ⟨_, e⟩
  | own y => exact x
  | xd fs => obtain ⟨_, ⟨_, _, _, e, _⟩, _⟩ := x; exact ⟨_, e⟩
  | rng lo hi => obtain ⟨_, _, _, e⟩ := x; exact ⟨_, e⟩
  | frz ob u ih => obtain ⟨e, _⟩ := x; exact ⟨_, e⟩
  | tbl ps => exact ⟨_, (show h.get? a = Option.some _ from x)⟩
  | met f y => exact ⟨_, (show h.get? a = Option.some _ from x)⟩
  | ext φ => obtain ⟨_, e, _⟩ := x; exact e
structure FlyO (outer : List Env) (H' : Hp) (s s' : Shared) (a C : Addr) (dd : Option Addr) : Prop where
  fly : ∃ B : Heap, FlyD B outer a (.ref C) dd .none s'.heap ∧ ∀ b o, b ∉ frs outer → s'.heap.get? b = some o → ((∃ o', s.heap.get? b = some o') ∨ H' b ≠ none) → B.get? b = some o
def CXd (P : Program) (w : World) : CXT := fun outer H s E e s' => ∃ (a C : Addr) (dd : Option Addr) (H' : Hp), e = .ref a ∧ E (.ref C) dd H' ∧ s'.os = s.os ∧ AllBare s'.gens ∧ Un (frs outer) [] H H' s.heap s'.heap ∧ HOk P w H' s'.heap ∧ H' a = none ∧ s.heap.get? a = none ∧ FlyO outer H' s s' a C dd
section
variable {P : Program} {w : World} {K : PySem.W.Frag} {mg : Str → Option Value} {base : Heap} {N : List Str} {qual : Str} {scope : Scope} {f : Addr} {cd : Value} {A : Around} {outer : List Env} {s₀ : Shared} {H₀ : Hp} {E : XK}
theorem raise_okD {C : Addr} : RaiseOkD (cxOf (CXd P w) P w K mg base N qual scope f cd A outer s₀ H₀ E) C (fun a dd H => H₀ a = none ∧ E (.ref C) dd (del H a)) := by
  intro pins σ H s a dd I ha hE
  obtain ⟨h0, hE⟩ := hE
  have stk : s.heap.FunFrames base (envOfC qual scope s₀.heap.objs.size f cd :: outer) := I.stack
  have free := I.stkFree
  have locF : ∀ b, b ∈ frs (envOfC qual scope s₀.heap.objs.size f cd :: outer) → b = s₀.heap.objs.size ∨ b ∈ frs outer := fun b hb => List.mem_cons.mp (I.stkSub b hb)
  have a0 : s₀.heap.get? a = none := by
    cases q : s₀.heap.get? a with
    | none => rfl
    | some o =>
      have := I.base.free a o q h0 (by simp [cxOf])
      rw [ha] at this
      cases this
  have nea : ∀ b o, s₀.heap.get? b = some o → b ≠ a := fun b o q z => by rw [z, a0] at q; cases q
  have inB : ∀ b o, s.heap.get? b = some o → b ≠ a → b ∉ frs (envOfC qual scope s₀.heap.objs.size f cd :: outer) → (PySem.W.hideAll s.heap (a :: frs (envOfC qual scope s₀.heap.objs.size f cd :: outer))).get? b = some o := fun b o q h1 h2 => PySem.W.hideAll_get _ q fun z => (List.mem_cons.mp z).elim h1 h2
  obtain ⟨t0, e0⟩ := I.raw ha
  have noB : (PySem.W.hideAll s.heap (a :: frs (envOfC qual scope s₀.heap.objs.size f cd :: outer))).get? a = none := PySem.W.hideAll_none _ (List.mem_cons_self ..)
  show wpAny (model P w) (A.deeper (envOfC qual scope s₀.heap.objs.size f cd)) (leaving (envOfC qual scope s₀.heap.objs.size f cd) (.ref a)) (fun _ s'' => CXd P w outer H₀ s₀ E (.ref a) s'') (fun e' s'' => CXd P w outer H₀ s₀ E e' s'') s
  refine leaveD0 (base := PySem.W.hideAll s.heap (a :: frs (envOfC qual scope s₀.heap.objs.size f cd :: outer))) (L := s₀.heap.objs.size) I.ok.frames
    (PySem.W.funFrames_hide stk fun env he b hb => List.mem_cons_of_mem _ (List.mem_filterMap.mpr ⟨env, he, hb⟩)) rfl e0 (fun b o q => PySem.W.of_hideAll _ q) noB rfl rfl (fun _ => rfl) fun h'' fl sm => ?_
  have keepB : ∀ b o, s.heap.get? b = some o → b ≠ a → b ∉ frs (envOfC qual scope s₀.heap.objs.size f cd :: outer) → h''.get? b = some o := fun b o q n1 n2 => fl.stay b o (inB b o q n1 n2)
  have ne0 : ∀ b o, s₀.heap.get? b = some o → b ≠ s₀.heap.objs.size := fun b o q => Nat.ne_of_lt (Heap.lt_size q)
  have slotB : ∀ b o, s.heap.get? b = some o → b ∈ frs (envOfC qual scope s₀.heap.objs.size f cd :: outer) → ∃ sl, h''.get? b = some { o with slots := sl } := fun b o q hm => by
    obtain ⟨_, o', q', hd⟩ := stk.mem hm
    rw [q] at q'
    cases q'
    exact sm b o q hd
  have trk : ∀ b u, H b = some u → b ∉ frs (envOfC qual scope s₀.heap.objs.size f cd :: outer) := fun b u q hm => by
    have := free b hm
    rw [q] at this
    cases this
  have dl : ∀ b u, H b = some u → b ≠ a → del H a b = some u := fun b u q n => (del_ne n).trans q
  refine ⟨a, C, dd, del H a, rfl, hE, I.os, I.bare, ⟨fun b o q n hb _ => ?_, fun b o q n hb _ => ?_, fun b o q n hb => ?_, fun b o q _ => ?_, fun b xs q => ?_, fun b o u q => ?_, fun b qs q => ?_⟩, fun b u q => ?_, del_same, a0, ⟨⟨_, fl, fun b o hb q z => ?_⟩⟩⟩
  · exact keepB b o (I.base.keep b o q n hb (by simp [cxOf])) (nea b o q) fun z => (locF b z).elim (ne0 b o q) hb
  · obtain ⟨sl, q1⟩ := I.base.slot b o q n hb (by simp [cxOf])
    by_cases hm : b ∈ frs (envOfC qual scope s₀.heap.objs.size f cd :: outer)
    · obtain ⟨sl', q2⟩ := slotB b _ q1 hm
      exact ⟨sl', q2⟩
    · exact ⟨sl, keepB b _ q1 (nea b o q) hm⟩
  · rw [del_ne (nea b o q)]
    exact I.base.free b o q n (by exact hb)
  · obtain ⟨o', q1⟩ := I.base.there b o q (by simp [cxOf])
    by_cases hm : b ∈ frs (envOfC qual scope s₀.heap.objs.size f cd :: outer)
    · obtain ⟨sl', q2⟩ := slotB b _ q1 hm
      exact ⟨_, q2⟩
    · exact ⟨_, keepB b _ q1 (nea b o q) hm⟩
  · have z := I.base.tups b xs q
    exact dl _ _ z fun y => by rw [y, ha] at z; cases z
  · have z := I.base.frzs b o u q
    exact dl _ _ z fun y => by rw [y, ha] at z; cases z
  · obtain ⟨m, z⟩ := I.base.tbls b qs q
    exact ⟨m, dl _ _ z fun y => by rw [y, ha] at z; cases z⟩
  · have nb : b ≠ a := fun z => by rw [z, del_same] at q; cases q
    rw [del_ne nb] at q
    refine (I.hok b u q).stay (fun c v hc z => keepB c v z ?_ ?_) (fun c z => dl _ _ z fun y => by rw [y, ha] at z; cases z) fun c xs z => dl _ _ z fun y => by rw [y, ha] at z; cases z
    · rcases hc with rfl | hc
      · exact nb
      · exact fun y => by rw [y, ha] at hc; cases hc
    · rcases hc with rfl | hc
      · exact trk c u q
      · exact trk c _ hc
  · obtain ⟨o1, q1, nb, hm⟩ : ∃ o1, s.heap.get? b = some o1 ∧ b ≠ a ∧ b ∉ frs (envOfC qual scope s₀.heap.objs.size f cd :: outer) := by
      rcases z with ⟨o', z⟩ | z
      · obtain ⟨o1, q1⟩ := I.base.there b o' z (by simp [cxOf])
        exact ⟨o1, q1, nea b o' z, fun y => (locF b y).elim (ne0 b o' z) hb⟩
      · have nb : b ≠ a := fun y => z (by rw [y]; exact del_same)
        rw [del_ne nb] at z
        cases hz : H b with
        | none => exact absurd hz z
        | some u =>
          obtain ⟨o1, q1⟩ := some_of (I.hok b u hz)
          exact ⟨o1, q1, nb, trk b u hz⟩
    have y := keepB b o1 q1 nb hm
    rw [q] at y
    cases y
    exact inB b o q1 nb hm
theorem Fun.okD {x qual : Str} {st : Stmt} {f : Addr} {fd : FuncData} {N ps : List Str} {k : Nat} {sp : Sp} (F : Fun K x qual st f fd) (S : FnScope N ps (defScope st)) (len : ∀ vs H Q E, sp vs H Q E → vs.length = ps.length)
    (hbody : ∀ (cdv : Value) (A : Around) (outer : List Env) (s : Shared) (H : Hp) (vs : List V) (Q : VK) (E : XK), Room k (A.deeper (envOfC qual (defScope st) s.heap.objs.size f cdv)) → sp vs H Q E →
      ∃ t, PSs (cxOf (CXd P w) P w K mg base N qual (defScope st) f cdv A outer s H E) (defBody st) t ∧ t { nx := fun _ H' => Q .non H', rt := Q } (start N vs) H) : FnOk P w K mg base (CXd P w) (k + 1) f fd ps sp := by
  obtain ⟨oc, od, kV, doc, pm, an, cdv, ct, osl, rfl, lk, hcd⟩ := F.ex
  exact fn_of lk hcd S len fun A outer s H vs Q E hr hsp => hbody cdv A outer s H vs Q E hr hsp
end
end L2
namespace L2
open PySem PySem.Spec PyProof.Rows
def excHO (a C : Addr) (dd : Option Addr) : HO := .ext (ExcO a C dd)
abbrev Cx.mark (X : Cx) (a : Addr) : Cx := { X with A := X.A.mark (some (.ref a)), calm := false, xe := fun _ _ => False }
section
variable {X : Cx} {pins : List (Addr × Obj)} {σ : St} {H : Hp} {s : Shared}
theorem Inv.mark (I : Inv X pins σ H s) (a : Addr) : Inv (X.mark a) pins σ H s :=
  ⟨⟨I.ok.mod, I.ok.kind, I.ok.glob, I.ok.blt, I.ok.above, I.ok.inj, I.ok.has, I.ok.cab, fun z => Bool.noConfusion z, I.ok.frames, I.ok.stk, I.ok.exf, I.ok.bs, I.ok.bsz, I.ok.noex, I.ok.exfs, I.ok.funs, I.ok.frf⟩,
    I.os, I.bare, I.base, I.loc, I.cell, I.free, I.freeC, I.pin, I.hok, I.len⟩
theorem Inv.unmark {a : Addr} (I : Inv (X.mark a) pins σ H s) (ok : X.Ok) : Inv X pins σ H s := ⟨ok, I.os, I.bare, I.base, I.loc, I.cell, I.free, I.freeC, I.pin, I.hok, I.len⟩
theorem xmatch {M : Model} {A : Around} {E : Value → Shared → Prop} {K : PySem.W.Frag} {h : Heap} {g : Array GenState} {d : Drawn} {t : Nat} {os : OsState} {e C CK : Addr} {o : Obj} {bm bmK : List Value} {Q : Bool → Shared → Prop} (Z : ExcW K C bm) (ZK : ExcW K CK bmK) (X : K.In h)
    (hx : h.get? e = some o) (hc : o.cls = .ref C) (hb : (Value.ref C :: bm).contains (.ref CK) = true) (hq : Q true ⟨h, g, d, t, os⟩) : wpAny M A (excMatches (.ref e) (.ref CK)) Q E ⟨h, g, d, t, os⟩ := by
  obtain ⟨nm, qn, N, bs, hd, sn, sub, ab, col, dd, k0, k1, k2, k3, k5, hC, T⟩ := Z.ob _ X
  obtain ⟨nm', qn', N', bs', hd', sn', sub', ab', col', dd', k0', k1', k2', k3', k5', hC', T'⟩ := ZK.ob _ X
  have hcB : (Value.ref CK :: bmK).contains (.type "BaseException") = true := by rw [List.contains_cons, T'.hasType (b := true) (by rfl), Bool.or_true]
  have f := tc_notTuple
  unfold excMatches
  repeat (first | (with_reducible refine wpAny_loadPart_at hx ?_; rw [hc]) | with_reducible refine wpAny_loadPart_at hC' ?_ | (with_reducible refine wpAny_isSubtype_exc hC' ?_; rw [hcB]) | (with_reducible refine wpAny_isSubtype_exc hC ?_; rw [hb]) | wp_step)
  exact hq
theorem Inv.landed {H' : Hp} {B h5 : Heap} {s' : Shared} (I : Inv X pins σ H s) (ho : s'.os = s.os) (hg : AllBare s'.gens) (u : Un (frs X.stack) [] H H' s.heap s'.heap) (hok : HOk X.prog X.w H' s'.heap)
    (hB : ∀ b o, b ∉ frs X.stack → s'.heap.get? b = some o → ((∃ o', s.heap.get? b = some o') ∨ H' b ≠ none) → B.get? b = some o) (hF : s'.heap.FunFrames B X.stack) (st : B.StaysIn h5) (sm : s'.heap.UpToSlots h5) : Inv X pins σ H' { s' with heap := h5 } := by
  have slotB : ∀ b o, s'.heap.get? b = some o → b ∈ frs X.stack → ∃ sl, h5.get? b = some { o with slots := sl } := fun b o q hm => by
    obtain ⟨_, o', q', hd⟩ := hF.mem hm
    rw [q] at q'
    cases q'
    exact sm b o q hd
  have untr : ∀ b ∈ frs X.stack, H' b = none := fun b hm => by
    obtain ⟨_, o, q, _⟩ := I.stack.mem hm
    exact u.free b o q (I.stkFree b hm) (by simp)
  have trk : ∀ b v, H' b = some v → b ∉ frs X.stack := fun b v q hm => by
    rw [untr b hm] at q
    cases q
  refine I.call' (s' := { s' with heap := h5 }) (ch := []) ho ⟨fun b o q n hb hx => ?_, fun b o q n hb hx => ?_, u.free, fun b o q hx => ?_, u.tups, u.frzs, u.tbls⟩ (fun b v q => ?_) hg (fun b hb => by cases hb)
  · exact st b o (hB b o hb (u.keep b o q n hb hx) (.inl ⟨o, q⟩))
  · obtain ⟨sl, q1⟩ := u.slot b o q n hb hx
    obtain ⟨sl', q2⟩ := slotB b _ q1 hb
    exact ⟨sl', q2⟩
  · obtain ⟨o', q1⟩ := u.there b o q hx
    by_cases hm : b ∈ frs X.stack
    · obtain ⟨sl', q2⟩ := slotB b _ q1 hm
      exact ⟨_, q2⟩
    · exact ⟨_, st b o' (hB b o' hm q1 (.inl ⟨o, q⟩))⟩
  · refine (hok b v q).stay (fun c y hc z => ?_) (fun _ z => z) fun _ _ z => z
    have hc' : H' c ≠ none := by
      rcases hc with rfl | hc
      · rw [q]; exact fun y => nomatch y
      · rw [hc]; exact fun y => nomatch y
    have hm : c ∉ frs X.stack := fun y => hc' (untr c y)
    exact st c y (hB c y hm z (.inr hc'))
theorem Inv.track (I : Inv X pins σ H s) {a C : Addr} {dd : Option Addr} (hn : H a = none) (h0 : X.s₀.heap.get? a = none) (he : ExcO a C dd s.heap) (hL : a ≠ X.env.locals) (hc : ∀ x c, X.env.cells.lookup x = some c → c ≠ a) (hp : ∀ p ∈ X.pn ++ pins, p.1 ≠ a) : Inv X pins σ (upd H a (excHO a C dd)) s := by
  have sm : ∀ b u, H b = some u → upd H a (excHO a C dd) b = some u := fun b u q => by rw [upd_ne (ne_of_none q hn)]; exact q
  refine ⟨I.ok, I.os, I.bare, ⟨I.base.keep, I.base.slot, fun b o q n hx => ?_, I.base.there, fun b xs q => sm _ _ (I.base.tups b xs q), fun b o u q => sm _ _ (I.base.frzs b o u q), fun b ps q => ?_⟩, I.loc, I.cell, ?_, fun x c e => ?_, fun p hp' => ?_, fun b u q => ?_, I.len⟩
  · have : b ≠ a := fun z => by rw [z, h0] at q; cases q
    rw [upd_ne this]
    exact I.base.free b o q n hx
  · obtain ⟨m, e⟩ := I.base.tbls b ps q
    exact ⟨m, sm _ _ e⟩
  · rw [upd_ne (Ne.symm hL)]
    exact I.free
  · rw [upd_ne (hc x c e)]
    exact I.freeC x c e
  · obtain ⟨e, n, ne, nf, d⟩ := I.pin p hp'
    exact ⟨e, by rw [upd_ne (hp p hp')]; exact n, ne, nf, d⟩
  · by_cases hb : b = a
    · subst hb
      rw [upd_same] at q
      cases q
      obtain ⟨o, vs, h1, h2, h3, h4⟩ := id he
      exact ⟨he, ⟨o, h1⟩, fun g1 g2 ⟨o', vs', e1, e2, e3, e4⟩ k => ⟨o', vs', k o' e1, e2, e3, e4⟩⟩
    · rw [upd_ne hb] at q
      exact (I.hok b u q).stay (fun _ _ _ z => z) (fun c z => sm _ _ z) fun c xs z => sm _ _ z
def DoneAs (D : Ends) (i : Nat) : Ends := ⟨fun σ H => D.nx (σ.set i none) H, D.rt, fun σ H => D.bk (σ.set i none) H, fun σ H => D.ct (σ.set i none) H⟩
theorem Inv.drop {i : Nat} {n : Str} {h' : Heap} {m : Str → Option Value} {v : Option Value} {t : Nat} (I : Inv X pins σ H s) (hN : X.N.Nodup) (hi : X.N[i]? = some n) (hm : s.heap.Ns X.env.locals m) (hl : ∀ (i : Nat) (x : Str) (v : V), X.N[i]? = some x → σ[i]? = some (some v) → Vis X.env.scope x → ∃ u, RelV v u ∧ Look X.env s.heap m x u)
    (hn : h'.Ns X.env.locals fun x => if x = n then v else m x) (hs : Heap.SameBut X.env.locals s.heap h') : Inv X pins (σ.set i none) H { s with heap := h', toks := t } := by
  have keep : ∀ b o, b ≠ X.env.locals → s.heap.get? b = some o → h'.get? b = some o := fun b o hb e => (hs.2 b hb).trans e
  have neL : ∀ b o, X.s₀.heap.get? b = some o → b ≠ X.env.locals := fun b o e => Nat.ne_of_lt (Nat.lt_of_lt_of_le (Heap.lt_size e) I.ok.above)
  refine ⟨I.ok, I.os, I.bare, ⟨fun b o e n' hb hx => keep b o (neL b o e) (I.base.keep b o e n' hb hx), fun b o e n' hb hx => ?_, I.base.free, fun b o e hx => ?_, I.base.tups, I.base.frzs, I.base.tbls⟩, ⟨_, hn, fun j y w' e1 e2 e3 => ?_⟩, fun y c e => ?_, I.free, I.freeC, fun p hp => ?_, fun b u e => ?_, by rw [List.length_set]; exact I.len⟩
  · obtain ⟨sl, q⟩ := I.base.slot b o e n' hb hx
    exact ⟨sl, keep b _ (neL b o e) q⟩
  · obtain ⟨o', q⟩ := I.base.there b o e hx
    exact ⟨o', keep b _ (neL b o e) q⟩
  · by_cases hj : j = i
    · subst hj
      by_cases hlt : j < σ.length
      · rw [List.getElem?_set_self hlt] at e2
        cases e2
      · rw [List.getElem?_eq_none (by rw [List.length_set]; omega)] at e2
        cases e2
    · rw [List.getElem?_set_ne (Ne.symm hj)] at e2
      obtain ⟨u, r, q⟩ := hl j y w' e1 e2 e3
      refine ⟨u, r, ?_⟩
      have ny : y ≠ n := fun e => hj (nodup_ix hN e1 (e ▸ hi))
      rcases q with ⟨k, q⟩ | ⟨k, c, q, z⟩
      · exact .inl ⟨k, by simp [ny, q]⟩
      · exact .inr ⟨k, c, q, z.sameBut hs (I.cne y c q)⟩
  · obtain ⟨w', z⟩ := I.cell y c e
    exact ⟨w', z.sameBut hs (I.cne y c e)⟩
  · obtain ⟨e, n', ne, nf, d⟩ := I.pin p hp
    exact ⟨keep _ _ ne e, n', ne, nf, d⟩
  · refine (I.hok b u e).stay (fun c v' hc q => keep c v' (fun z => ?_) q) (fun _ q => q) fun _ _ q => q
    have := I.free
    rcases hc with rfl | hc
    · rw [z, this] at e; cases e
    · rw [z, this] at hc; cases hc
theorem catch_ok {EK : XK} {e : Value} {s' : Shared} {kn n : Str} {kp hpos : Pos} {CK : Addr} {bmK : List Value} {i : Nat} {b₀ : Stmt} {suite : List Stmt} {tsu : TS} {D : Ends} (hex : X.ex = []) (hst : X.stack = X.env :: X.outer) (hfr : X.env.frame = some X.env.locals) (ZK : ExcW X.K CK bmK) (hgk : Gl X kn) (hmk : X.mg kn = some (.ref CK))
    (hN : X.N.Nodup) (hi : X.N[i]? = some n) (hn : X.env.scope.names.lookup n = some .local) (hs : ∀ a, PSs (X.mark a) (b₀ :: suite) tsu) (hd : (kn == ("__debug__" : Str)) = false)
    (hE : ∀ cv dd H2, EK cv dd H2 → ∃ C bm, cv = .ref C ∧ ExcW X.K C bm ∧ (Value.ref C :: bm).contains (.ref CK) = true ∧ ∀ a, H2 a = none → tsu (DoneAs D i) (σ.set i (some (.ref a))) (upd H2 a (excHO a C dd)))
    (I : Inv X pins σ H s) (hq : CXd X.prog X.w X.stack H s EK e s') :
    wpAny (model X.prog X.w) X.A (noteFrame e X.env) (fun _ s₂ => wpAny (model X.prog X.w) X.A (setFlight e none) (fun _ s₃ => wpAny (model X.prog X.w) X.A (handleBy e X.env [.ExceptHandler (some (.Name kn kp)) (some n) (b₀ :: suite) hpos]) (SP X pins D) X.xe s₃) X.xe s₂) X.xe s' := by
  obtain ⟨a, C, dd, H', rfl, qE, ho, hg, u, hok, ha, ha0, ⟨B, fl, hB⟩⟩ := hq
  obtain ⟨C', bm, eC, Z, hb, rd⟩ := hE _ _ _ qE
  cases eC
  have hA : X.A.frames = some (X.env :: X.outer) := by rw [← hst]; exact I.ok.frames
  have fl' : FlyD B (X.env :: X.outer) a (.ref C) dd .none s'.heap := by rw [← hst]; exact fl
  refine noteD hA hfr fl' fun h4 fl4 sm4 => ?_
  refine flightD fl4 fun h5 fl5 sm5 => ?_
  have hF : s'.heap.FunFrames B X.stack := fl.frm
  have I5 : Inv X pins σ H' { s' with heap := h5 } := I.landed ho hg u hok hB hF fl5.stay (sm4.trans sm5)
  obtain ⟨oe, _, _, _, _, ⟨he1, he2, _, _⟩, _⟩ := fl5.tr.ex
  refine wpAny_handleBy_cons (codeAny_handlers_test (ld_glob (X := X.mark a) (I5.mark a) hgk hmk ?_ hd)) (by intro q; cases q)
  refine xmatch Z ZK I5.kIn he1 he2 hb ?_
  refine codeAny_handlers_suite_as ?_
  refine flightD fl5 fun h6 fl6 sm6 => ?_
  have I6 : Inv X pins σ H' { s' with heap := h6 } := I.landed ho hg u hok hB hF fl6.stay ((sm4.trans sm5).trans sm6)
  obtain ⟨o6, v6, _, _, _, ⟨g1, g2, g3, g4⟩, _, _, _, _, _, g5⟩ := fl6.tr.ex
  have z0 : X.s₀.heap.get? a = none := by
    cases q : X.s₀.heap.get? a with
    | none => rfl
    | some o =>
      obtain ⟨o', q'⟩ := I.base.there a o q (by rw [hex]; simp)
      rw [ha0] at q'
      cases q'
  have zL : a ≠ X.env.locals := fun z => by
    obtain ⟨m, ⟨o, _, _, q, _⟩, _⟩ := I.loc
    rw [← z, ha0] at q
    cases q
  have zC : ∀ x c, X.env.cells.lookup x = some c → c ≠ a := fun x c q z => by
    obtain ⟨v, o, q', _⟩ := I.cell x c q
    rw [z, ha0] at q'
    cases q'
  have zP : ∀ p ∈ X.pn ++ pins, p.1 ≠ a := fun p hp z => by
    have q' := (I.pin p hp).1
    rw [z, ha0] at q'
    cases q'
  have J6 := (I6.track ha z0 (C := C) (dd := dd) ⟨o6, v6, g1, g2, g3, g4, g5⟩ zL zC zP).mark a
  refine store_ok (X := X.mark a) J6 hN hi (.inl hn) (v := .ref a) (u := .ref a) rfl (fun s7 J7 => ?_) (.inr hn)
  refine wpAny_mono (hs a pins s7 _ _ (DoneAs D i) J7 (rd a ha)) (fun f s8 q8 => ?_) fun _ _ z => z.elim
  have fin : ∀ {σ8 : St} {H8 : Hp}, Inv (X.mark a) pins σ8 H8 s8 → (∀ s9, Inv X pins (σ8.set i none) H8 s9 → SP X pins D f s9) → wpAny (model X.prog X.w) X.A (do bindName X.env n .none; unbindBehindTheSuite X.env n hpos) (fun _ s9 => SP X pins D f s9) X.xe s8 := fun {σ8 H8} J8 k => by
    have I8 : Inv X pins σ8 H8 s8 := J8.unmark I.ok
    obtain ⟨m, hm, hl⟩ := id I8.loc
    exact wpAny_nameGoes_keeps hn hm (by rw [I.ok.kind]; rfl) fun h9 v hn9 hs9 => k _ (I8.drop hN hi hm hl hn9 hs9)
  cases f with
  | next => obtain ⟨σ8, H8, J8, q⟩ := q8; exact fin J8 fun s9 I9 => ⟨_, _, I9, q⟩
  | brk => obtain ⟨σ8, H8, J8, q⟩ := q8; exact fin J8 fun s9 I9 => ⟨_, _, I9, q⟩
  | cont => obtain ⟨σ8, H8, J8, q⟩ := q8; exact fin J8 fun s9 I9 => ⟨_, _, I9, q⟩
  | ret v => obtain ⟨x8, σ8, H8, J8, r8, q⟩ := q8; exact fin J8 fun s9 I9 => ⟨x8, _, _, I9, r8, q⟩
end
end L2
namespace L2
open PySem PySem.Spec PyProof.Rows
section
variable {prog : Program} {w : World} {A : Around} {E : Value → Shared → Prop} {h : Heap} {g : Array GenState} {d : Drawn} {t : Nat} {os : OsState} {a C CK fI dx : Addr} {vs : Array Value} {sl : Array (Option Value)} {K : PySem.W.Frag} {m : Str → Option Value} {name : Str} {v : Value}
end
section
variable {X : Cx} {pins : List (Addr × Obj)} {σ : St} {H : Hp} {s : Shared} {a C CK fI dx : Addr} {dd : Option Addr}
theorem Inv.exc (I : Inv X pins σ H s) (h : H a = some (excHO a C dd)) : ExcO a C dd s.heap := (I.hok a _ h).1
theorem kitx_exc {K : PySem.W.Frag} {bm : List Value} (Z : ExcW K C bm) : PySem.W.KitX K (.ref a) (.ref C) (ExcO a C dd) where
  ty := fun M h _ p => by
    obtain ⟨o, vs, h1, h2, _⟩ := p
    exact h2 ▸ (PySem.W.Looks.ld h1).andThen .now
  it := fun M h X p => by
    obtain ⟨_, _, _, _, _, _, _, _, _, _, _, _, _, _, _, hC, _⟩ := Z.ob _ X
    intro A' Q' E' s' k q
    unfold isType loadHead
    exact wpAny_bind (wpAny_loadPart (k _ _ hC) (wpAny_pure q))
  ne := fun h tp dd its n sl X htp => by
    obtain ⟨_, _, _, _, _, _, _, _, _, _, _, _, _, _, _, hC, _⟩ := Z.ob _ X
    refine Bool.eq_false_iff.mpr fun q => ?_
    have e : C = tp := Value.ref.inj (beq_iff_eq.mp q)
    subst e
    have z := Option.some.inj (hC.symm.trans htp)
    have z1 := congrArg Obj.cls z
    have z2 : "type" = "tuple" := Value.type.inj z1
    exact absurd z2 (by decide)
  ca := fun {prog w A E Q s} X p k => by
    obtain ⟨o, vs, h1, h2, _⟩ := p
    obtain ⟨h, g, d, t, os⟩ := s
    exact xcls_attr Z X h1 h2 k
theorem call_isinstX {bm : List Value} (Z : ExcW X.K C bm) : CallR X (.builtin "isinstance") (fun xs H Q => ∃ a dd c cv b, xs = [.ref a, c] ∧ H a = some (excHO a C dd) ∧ RelV c cv ∧ PySem.W.kitOne X.K (.ref C) cv = some b ∧ Q (.bl b) H) := by
  intro pins s σ H xs us Q I r h
  obtain ⟨a, dd, c, cv, b, rfl, ha, rc, e, q⟩ := h
  obtain ⟨u, w', rfl, ru, rw'⟩ := vals2 r
  cases (show u = Value.ref a from ru)
  have : w' = cv := by
    cases c with
    | ref p => exact (show w' = Value.ref p from rw').trans (show cv = Value.ref p from rc).symm
    | ty n => exact (show w' = Value.type n from rw').trans (show cv = Value.type n from rc).symm
    | non => exact (show w' = Value.none from rw').trans (show cv = Value.none from rc).symm
    | bl n => exact (show w' = Value.bool n from rw').trans (show cv = Value.bool n from rc).symm
    | int n => obtain ⟨t, rfl⟩ := rc; unfold PySem.W.kitOne PySem.W.kitCls at e; split at e <;> rename_i z <;> simp at z e
    | str n => obtain ⟨t, rfl⟩ := rc; unfold PySem.W.kitOne PySem.W.kitCls at e; split at e <;> rename_i z <;> simp at z e
    | byt n => obtain ⟨t, rfl⟩ := rc; unfold PySem.W.kitOne PySem.W.kitCls at e; split at e <;> rename_i z <;> simp at z e
    | flt n => obtain ⟨t, rfl⟩ := rc; unfold PySem.W.kitOne PySem.W.kitCls at e; split at e <;> rename_i z <;> simp at z e
  subst this
  exact PySem.W.kia_one (kitx_exc Z) I.kIn (I.exc ha) e (fun z => nomatch z) fun tk => ⟨.bl b, H, I.tok _, rfl, q⟩
end
end L2
namespace L2
open PySem PySem.Spec PyProof.Rows
section
variable {P : Program} {w : World} {K : PySem.W.Frag} {mg : Str → Option Value} {base : Heap} {N : List Str} {qual : Str} {scope : Scope} {f : Addr} {cd : Value} {A : Around} {outer : List Env} {s₀ : Shared} {H₀ : Hp} {E : XK}
theorem pass_okD : Passes (CXd P w) (cxOf (CXd P w) P w K mg base N qual scope f cd A outer s₀ H₀ E) E := by
  intro pins σ H s e s' I hq
  obtain ⟨a, C, dd, H', rfl, qE, ho, hg, u, hok, ha, ha0, ⟨B, fl, hB⟩⟩ := hq
  have fl' : FlyD B (envOfC qual scope s₀.heap.objs.size f cd :: outer) a (.ref C) dd .none s'.heap := fl
  show wpAny (model P w) (A.deeper (envOfC qual scope s₀.heap.objs.size f cd)) (leaving (envOfC qual scope s₀.heap.objs.size f cd) (.ref a)) (fun _ s'' => CXd P w outer H₀ s₀ E (.ref a) s'') (fun e' s'' => CXd P w outer H₀ s₀ E e' s'') s'
  unfold leaving
  refine wpAny_bind (noteD (L := s₀.heap.objs.size) I.ok.frames rfl fl' fun h4 fl4 sm4 => ?_)
  refine flightD fl4 fun h5 fl5 sm5 => ?_
  have I5 := I.landed ho hg u hok hB fl.frm fl5.stay (sm4.trans sm5)
  have z0 : s₀.heap.get? a = none := by
    cases q : s₀.heap.get? a with
    | none => rfl
    | some o =>
      obtain ⟨o', q'⟩ := I.base.there a o q (by simp [cxOf])
      rw [ha0] at q'
      cases q'
  have locF : ∀ b, b ∈ frs (envOfC qual scope s₀.heap.objs.size f cd :: outer) → b = s₀.heap.objs.size ∨ b ∈ frs outer := fun b hb => List.mem_cons.mp (I.stkSub b hb)
  refine ⟨a, C, dd, H', rfl, qE, I5.os, I5.bare, I5.base, I5.hok, ha, z0, ⟨⟨B, fl5.pop, fun b o hb q z => ?_⟩⟩⟩
  obtain ⟨o1, q1, hm, hz⟩ : ∃ o1, s'.heap.get? b = some o1 ∧ b ∉ frs (envOfC qual scope s₀.heap.objs.size f cd :: outer) ∧ ((∃ o', s.heap.get? b = some o') ∨ H' b ≠ none) := by
    rcases z with ⟨o', z⟩ | z
    · obtain ⟨o2, q2⟩ := I.base.there b o' z (by simp [cxOf])
      obtain ⟨o1, q1⟩ := u.there b o2 q2 (by simp)
      exact ⟨o1, q1, fun y => (locF b y).elim (Nat.ne_of_lt (Heap.lt_size z)) hb, .inl ⟨o2, q2⟩⟩
    · cases hz : H' b with
      | none => exact absurd hz z
      | some v =>
        obtain ⟨o1, q1⟩ := some_of (hok b v hz)
        refine ⟨o1, q1, fun y => ?_, .inr (by simp)⟩
        obtain ⟨_, o, q', _⟩ := I.stack.mem y
        have := u.free b o q' (I.stkFree b y) (by simp)
        rw [hz] at this
        cases this
  have q2 := hB b o1 hm q1 hz
  have q3 := fl5.stay b o1 q2
  have q4 : h5.get? b = some o := q
  rw [q3] at q4
  cases q4
  exact q2
end
section
variable {X : Cx} {CX : CXT} {k : Nat} {f : Addr} {fd : FuncData} {x : Str} {st : Stmt} {ps : List Str} {sp : Sp} {e : Expr} {es : List Expr} {p pos : Pos} {t : TA} {E : XK}
theorem pe_fnX (D : Dn X.K X.mg x st ps f fd) (G : FnOk X.prog X.w X.K X.mg X.base CX k f fd ps sp) (hx : Passes CX X E) (hr : Room k X.A) (hg : Gl X x) (ha : PA X (e :: es) t) (hdb : (x == ("__debug__" : Str)) = false := by decide)
    (hs : starEach (e :: es) X.env = (false, eval e X.env) :: starEach es X.env := by rfl) (hpl : (backTo pos (starEach es X.env)).any (·.1) = false := by rfl) : PE X (.Call (.Name x p) (e :: es) [] pos) (tCall sp [] E t) :=
  pe_call G hr hg D.gl D.fn.kp D.bd .nil hx ha hdb hs hpl
end
section
variable {X : Cx}
abbrev TY := Ends → XK → St → Hp → Prop
def PTry (X : Cx) (body : List Stmt) (tb : TY) : Prop :=
  ∀ (pins : List (Addr × Obj)) (s : Shared) (σ : St) (H : Hp) (D : Ends) (EK : XK), Inv X pins σ H s → tb D EK σ H →
    wpAny (model X.prog X.w) X.A (execs body X.env) (SP X pins D) (fun ev s' => ∃ H1 s1, Inv X pins σ H1 s1 ∧ CXd X.prog X.w X.stack H1 s1 EK ev s') s
def tyIf (tc : TT) (ta tb : TY) : TY := fun D EK σ H => tc σ H fun d H1 => if d = true then ta D EK σ H1 else tb D EK σ H1
theorem py_if {c : Expr} {a b : List Stmt} {tc : TT} {ta tb : TY} {pos : Pos} (hc : PT X.nox c tc) (ha : PTry X a ta) (hb : PTry X b tb) : PTry X [.If c a b pos] (tyIf tc ta tb) := by
  intro pins s σ H D EK I h
  refine wpAny_execs_cons (wpAny_If (wpAny_mono (hc pins s σ H _ (I.wish _) h) (fun d s1 ⟨H1, I1, q1⟩ => ?_) fun _ _ z => z.elim))
  cases d with
  | true =>
    refine thn (ha pins s1 σ H1 D EK I1.unwish q1) fun f s2 q => ?_
    cases f with
    | next => exact wpAny_execs_nil q
    | ret v => exact q
    | brk => exact q
    | cont => exact q
  | false =>
    refine thn (hb pins s1 σ H1 D EK I1.unwish q1) fun f s2 q => ?_
    cases f with
    | next => exact wpAny_execs_nil q
    | ret v => exact q
    | brk => exact q
    | cont => exact q
def tTryB (K : PySem.W.Frag) (i : Nat) (CK : Addr) (tb : TY) (tsu : TS) : TS := fun D σ H => tb D (fun cv dd H2 => ∃ C bm, cv = .ref C ∧ ExcW K C bm ∧ (Value.ref C :: bm).contains (.ref CK) = true ∧
  ∀ a, H2 a = none → tsu (DoneAs D i) (σ.set i (some (.ref a))) (upd H2 a (excHO a C dd))) σ H
theorem ps_tryB {body : List Stmt} {tb : TY} {kn n : Str} {kp hpos pos : Pos} {CK : Addr} {bmK : List Value} {i : Nat} {b₀ : Stmt} {suite : List Stmt} {tsu : TS}
    (hex : X.ex = []) (hst : X.stack = X.env :: X.outer) (hfr : X.env.frame = some X.env.locals) (hb : PTry X body tb)
    (ZK : ExcW X.K CK bmK) (hgk : Gl X kn) (hmk : X.mg kn = some (.ref CK)) (hN : X.N.Nodup) (hi : X.N[i]? = some n) (hn : X.env.scope.names.lookup n = some .local) (hs : ∀ a, PSs (X.mark a) (b₀ :: suite) tsu)
    (hd : (kn == ("__debug__" : Str)) = false := by decide) :
    PS X (.Try body [.ExceptHandler (some (.Name kn kp)) (some n) (b₀ :: suite) hpos] [] [] pos) (tTryB X.K i CK tb tsu) := by
  intro pins s σ H D' I h
  refine wpAny_Try_except ?_
  refine wpAny_mono (hb pins s σ H D' _ I h) (fun f s1 q => ?_) fun ev s1 ⟨H1, s2, I1, hq⟩ => ?_
  · cases f with
    | next => exact wpAny_execs_nil q
    | ret v => exact q
    | brk => exact q
    | cont => exact q
  · exact catch_ok hex hst hfr ZK hgk hmk hN hi hn hs hd (fun cv dd H2 z => z) I1 hq
end
theorem lc_tup {K : PySem.W.Frag} {a : Addr} {xs : List V} {te : TE} {Q : Hp → Prop} {σ : St} {H1 : Hp} {D : Addr} (Pv : Nat → List V → Hp → Prop) (h0 : Pv 0 [] (upd H1 D (.lst []))) (hl : ∀ i ys H', i ≤ xs.length → Pv i ys H' → SqT K H' a xs ∧ H' D = some (.lst ys))
    (hs : ∀ i x ys H', xs[i]? = some x → Pv i ys H' → te (σ ++ [some x]) H' fun v H3 => H3 D = some (.lst ys) ∧ ys.length < sizeLine ∧ Pv (i + 1) (ys ++ [v]) (upd H3 D (.lst (ys ++ [v])))) (hd : ∀ ys H', Pv xs.length ys H' → Q H')
    (mono : ∀ σ H Q Q', (∀ v H1, Q v H1 → Q' v H1) → te σ H Q → te σ H Q') :
    ∃ W : Nat → Nat → List V → Hp → Prop, (∃ m, W 0 m [] (upd H1 D (.lst []))) ∧
      ∀ i m ys H', W i m ys H' → H' D = some (.lst ys) ∧ (((Itt K a).stop i H' ∧ Q H') ∨ ((Itt K a).go i H' ∧ ∀ z H2, (Itt K a).yld i H' z H2 → te (σ ++ [some z]) H2 fun v H3 => H3 D = some (.lst ys) ∧ ys.length < sizeLine ∧ ∃ m', m' < m ∧ W (i + 1) m' (ys ++ [v]) (upd H3 D (.lst (ys ++ [v]))))) := by
  refine ⟨fun i m ys H' => m = xs.length - i ∧ i ≤ xs.length ∧ Pv i ys H', ⟨xs.length, by simp, Nat.zero_le _, h0⟩, ?_⟩
  rintro i m ys H' ⟨rfl, hi, p⟩
  obtain ⟨q, eD⟩ := hl i ys H' hi p
  refine ⟨eD, ?_⟩
  by_cases hlt : i < xs.length
  · refine .inr ⟨⟨xs, xs[i], q, by simp [hlt]⟩, fun z H2 y => ?_⟩
    obtain ⟨e, y⟩ := y
    subst e
    refine mono _ _ _ _ (fun v H3 ⟨z1, z2, z3⟩ => ⟨z1, z2, xs.length - (i + 1), by omega, rfl, hlt, z3⟩) (hs i z ys _ (y xs q) p)
  · have e : i = xs.length := by omega
    subst e
    exact .inl ⟨⟨xs, q, Nat.le_refl _⟩, hd ys H' p⟩
end L2
namespace L2
open PySem PySem.Spec PyProof.Rows
section
variable {X : Cx} {e : Expr} {te : TE} {pos : Pos}
theorem pe_fmtS (he : PE X e te) : PE X (.FormattedValue e (-1) none pos) (fun σ H Q => te σ H fun x H1 => ∃ y : Str, x = .str y ∧ y.length ≤ sizeLine ∧ Q (.str y) H1) := by
  intro pins s σ H Q I h
  refine FormattedValue_plain (thn (he pins s σ H _ I h) fun v s1 ⟨x, H1, I1, r1, y, ex, hy, q⟩ => ?_)
  subst ex
  obtain ⟨tk, rfl⟩ := r1
  exact formatField_str (fun t' tk' => ⟨.str y, H1, I1.tok _, ⟨_, rfl⟩, q⟩) hy
theorem pe_fmtR (he : PE X e te) : PE X (.FormattedValue e 114 none pos) (fun σ H Q => te σ H fun x H1 => ∃ y : Str, x = .str y ∧ (reprText y).length ≤ sizeLine ∧ Q (.str (reprText y)) H1) := by
  intro pins s σ H Q I h
  refine wpAny_FormattedValue_repr (thn (he pins s σ H _ I h) fun v s1 ⟨x, H1, I1, r1, y, ex, hy, q⟩ => ?_)
  subst ex
  obtain ⟨tk, rfl⟩ := r1
  refine pyReprObj_str ?_ hy
  exact formatField_str (fun t' tk' => ⟨.str (reprText y), H1, (I1.tok _).tok _, ⟨_, rfl⟩, q⟩) hy
end
section
variable {X : Cx} {pins : List (Addr × Obj)} {σ : St} {H : Hp} {s : Shared} {C : Addr}
theorem Un.newN {fs ex : List Addr} {h h' : Heap} {a : Addr} {o : HO} (k : ∀ b u, h.get? b = some u → h'.get? b = some u) (hp : h.get? a = none) (hn : H a = none) : Un fs ex H (upd H a o) h h' where
  keep := fun b u q _ _ _ => k b u q
  slot := fun b u q _ _ _ => ⟨u.slots, k b u q⟩
  free := fun b u q n _ => by rw [upd_ne fun z => by rw [z, hp] at q; cases q]; exact n
  there := fun b u q _ => ⟨u, k b u q⟩
  tups := fun b xs q => by rw [upd_ne (ne_of_none q hn)]; exact q
  frzs := fun b u xs q => by rw [upd_ne (ne_of_none q hn)]; exact q
  tbls := fun b ps q => ⟨#[], by rw [upd_ne (ne_of_none q hn), q]; simp⟩
theorem Inv.madeX {h' : Heap} {a : Addr} {us : List Value} (I : Inv X pins σ H s) (hx : Heap.MadeExcOf s.heap h' a (.ref C) us) : H a = none ∧ Inv X pins σ (upd H a (rawHO a C none)) { s with heap := h' } := by
  obtain ⟨t, e1, e2, e3⟩ := hx.there
  have hn : H a = none := by
    cases q : H a with
    | none => rfl
    | some u =>
      obtain ⟨o, z⟩ := some_of (I.hok a u q)
      rw [hx.new] at z
      cases z
  refine ⟨hn, I.un (Un.newN hx.keeps hx.new hn) fun b u e => ?_⟩
  by_cases hb : b = a
  · subst hb
    rw [upd_same] at e
    cases e
    exact RawX.ok ⟨t, e1⟩
  · rw [upd_ne hb] at e
    exact (I.hok b u e).stay (fun c v _ q => hx.keeps c v q) (fun c q => by rw [upd_ne (ne_of_none q hn)]; exact q) fun c xs q => by rw [upd_ne (ne_of_none q hn)]; exact q
theorem ps_raise0 {bm : List Value} {x : Str} {np cpos pos : Pos} {e₀ : Expr} {rest : List Expr} {ta : TA} {R : Addr → Option Addr → Hp → Prop} (hc : X.calm = true) (Z : Exc X.K C bm) (hg : Gl X x) (hm : X.mg x = some (.ref C)) (ha : PA X (e₀ :: rest) ta) (hR : RaiseOkD X C R)
    (he : starEach (e₀ :: rest) X.env = (false, eval e₀ X.env) :: starEach rest X.env := by rfl) (hpl : (backTo cpos (starEach rest X.env)).any (·.1) = false := by rfl) (hd : (x == ("__debug__" : Str)) = false := by decide) :
    PS X (.Raise (some (.Call (.Name x np) (e₀ :: rest) [] cpos)) none pos) (fun _ σ H => ta σ H fun vs H1 => vs.length ≤ sizeLine ∧ ∀ a, H1 a = none → R a none (upd H1 a (rawHO a C none))) := by
  intro pins s σ H D I h
  obtain ⟨N, nm, qn, bs, hd', sn, sub, ab, col, dd, k0, k1, k2, k3, k5, mN, hC, hN, hni, T⟩ := (Z.at I.mod.kin).ob
  refine wpAny_Raise_call_subT (C := C) (nm := nm) (q := qn) (N := N) (bs := bs) (bm := bm) (hdct := hd') (sn := sn) (sub := sub) (ab := ab) (col := col) (dd := dd) (k0 := k0) (k1 := k1) (k2 := k2) (k3 := k3) (k5 := k5)
    F.excBase_ValueError (mN := mN) (T.hasType (b := true) (by rfl)) (I.ok.hd hc) (by rw [he]; show (false || (backTo cpos (starEach rest X.env)).any (·.1)) = false; rw [hpl]; rfl) hni (ld_glob I hg hm ⟨rfl, ?_⟩ hd)
  have h1 := ha cpos pins s σ H _ I h
  rw [he] at h1 ⊢
  refine Calls.evalArgs_plain (thn h1 fun us s1 ⟨vs, H1, I1, r1, q1, q2⟩ => ⟨rfl, by rw [← r1.length]; exact q1, I1.bk _ _ hC, hN.keeps I1.bk, T.keeps I1.bk, fun h' a hx => ?_⟩)
  obtain ⟨n1, I2⟩ := I1.madeX hx
  exact hR pins σ _ _ a none I2 upd_same (q2 a n1)
end
end L2
namespace L2
open PySem PySem.Spec PyProof.Rows
section
variable {prog : Program} {w : World} {A : Around} {E : Value → Shared → Prop} {K : PySem.W.Frag}
end
end L2
namespace L2
open PySem PySem.Spec PyProof.Rows
section
variable {X : Cx} {pins : List (Addr × Obj)} {σ : St} {H : Hp} {s : Shared} {C : Addr}
end
section
variable {M : Model} {A : Around} {E : Value → Shared → Prop} {s : Shared} {base : Heap} {env : Env} {outer : List Env} {L e : Addr} {cls : Value} {dd : Option Addr}
end
end L2
namespace L2
open PySem PySem.Spec PyProof.Rows
section
variable {P : Program} {w : World} {K : PySem.W.Frag} {mg : Str → Option Value} {base : Heap} {N : List Str} {qual : Str} {scope : Scope} {f : Addr} {cd : Value} {A : Around} {outer : List Env} {s₀ : Shared} {H₀ : Hp} {E : XK}
end
end L2
namespace L2
open PySem PySem.Spec PyProof.Rows
section
variable {M : Model} {A : Around} {E : Value → Shared → Prop} {s : Shared} {base : Heap} {L e : Addr} {cls : Value} {dd : Option Addr}
end
section
variable {X : Cx} {pins : List (Addr × Obj)} {σ : St} {H : Hp} {s : Shared}
end
end L2
namespace L2
open PySem PySem.Spec PyProof.Rows
section
variable {X : Cx}
end
end L2
namespace L2
open PySem PySem.Spec PyProof.Rows
def Sg (l : List Nat) : Str := ⟨l.toArray⟩
theorem Sg.len (l : List Nat) : (Sg l).length = l.length := by simp [Sg, Str.length]
theorem Sg.app (a b : List Nat) : Sg a ++ Sg b = Sg (a ++ b) := by
  show (⟨(Sg a).cps ++ (Sg b).cps⟩ : Str) = _
  simp [Sg]
theorem Sg.of (x : Str) : Sg x.cps.toList = x := by cases x; simp [Sg]
theorem Sg.inj {a b : List Nat} (h : Sg a = Sg b) : a = b := by
  have := congrArg (fun x : Str => x.cps.toList) h
  simpa [Sg] using this
section
variable {X : Cx}
theorem mt_starts : MtM X "str.startswith" (fun x vs H Q => ∃ (t y : List Nat) (p : Nat), x = .str (Sg t) ∧ vs = [.str (Sg y), .int (p : Int)] ∧ p ≤ t.length ∧ Q (.bl (y.isPrefixOf (t.drop p))) H) := by
  intro pins s σ H x vs v us Q I rx rv h
  obtain ⟨t, y, p, rfl, rfl, hp, q⟩ := h
  obtain ⟨k0, rfl⟩ := rx
  obtain ⟨u1, u2, rfl, r1, r2⟩ := rv.two
  obtain ⟨k1, rfl⟩ := r1
  obtain ⟨k2, rfl⟩ := r2
  have hf : fromIndex (Sg t).length (p : Int) = p := by
    unfold fromIndex
    rw [if_neg (by omega)]
    omega
  have hb : (decide (fromIndex (Sg t).length (p : Int) + (Sg y).length ≤ (Sg t).length) && Builtin.Str.subAt (Sg t) (Sg y) (fromIndex (Sg t).length (p : Int))) = y.isPrefixOf (t.drop p) := by
    rw [hf, Sg.len, Sg.len, Bool.eq_iff_iff, Bool.and_eq_true, decide_eq_true_iff, List.isPrefixOf_iff_prefix]
    unfold Builtin.Str.subAt
    rw [Sg.len, beq_iff_eq]
    have ex : (Sg t).cps.extract p (p + y.length) = ((t.drop p).take y.length).toArray := by
      simp [Sg, List.extract_eq_take_drop]
    rw [ex]
    constructor
    · rintro ⟨h1, h2⟩
      have h3 : (t.drop p).take y.length = y := by simpa [Sg] using congrArg Array.toList h2
      rw [← h3]
      exact List.take_prefix _ _
    · intro h
      have hl := h.length_le
      rw [List.length_drop] at hl
      refine ⟨by omega, ?_⟩
      rw [List.prefix_iff_eq_take.mp h]
      simp [Sg]
  refine call_gives F.slot_str_startswith (typeIs_str _ _ _) F.entry_str_startswith (F.args_str_startswith_3 _ _ _) (gives_str_startswith_from (Sg t) (Sg y) (p : Int) k0 k1 k2) ?_
  exact ⟨.bl _, H, I, rfl, by rw [hb]; exact q⟩
theorem call_int_text : CallR X (.type "int") (fun xs H Q => ∃ (x : Str) (n : Int), xs = [.str x] ∧ PySem.intText? x = some n ∧ x.length ≤ 640 ∧ Q (.int n) H) := by
  intro pins s σ H xs us Q I r h
  obtain ⟨x, n, rfl, hn, hl, q⟩ := h
  obtain ⟨u, rfl, rx⟩ := vals1 r
  obtain ⟨t, rfl⟩ := rx
  exact PySem.W.KIN.call_text hn hl ⟨.int n, H, I.tok _, ⟨_, rfl⟩, q⟩
theorem sl_text : SlR X (fun x lo hi H Q => ∃ (t : List Nat) (a b : Nat), x = .str (Sg t) ∧ lo = some (a : Int) ∧ hi = some (b : Int) ∧ a ≤ b ∧ b ≤ t.length ∧ t.length ≤ sizeLine ∧ Q (.str (Sg ((t.drop a).take (b - a)))) H) := by
  intro pins s σ H x v vl vu lo hi sl Q I rx hs pl pu h
  obtain ⟨t, a, b, rfl, rfl, rfl, hab, hb, hz, q⟩ := h
  obtain ⟨k0, rfl⟩ := rx
  cases pl with
  | int _ t1 =>
  cases pu with
  | int _ t2 =>
  refine ⟨"str", _, F.slot_str_getitem.lookup, typeIs_str s (Sg t) k0, ?_⟩
  refine wpAny_getItem_str_slice (l := some ((a : Int), t1)) (u := some ((b : Int), t2)) (st := none) hs rfl ?_
  have hp : slicePicked (Sg t) (some ((a : Int), t1)) (some ((b : Int), t2)) none = (List.range (b - a)).map (fun k => a + k) := StrLaws.strSliceIndices_plain hab (by rw [Sg.len]; exact hb)
  have hc : (slicePicked (Sg t) (some ((a : Int), t1)) (some ((b : Int), t2)) none).filterMap ((Sg t).cps[·]?) = (t.drop a).take (b - a) := StrLaws.sliced_plain (Sg t) hab (by rw [Sg.len]; exact hb)
  unfold sliceMade
  rw [hc]
  split
  · rename_i hw
    have hl : (slicePicked (Sg t) (some ((a : Int), t1)) (some ((b : Int), t2)) none).length = (Sg t).length := by
      have := (Bool.and_eq_true _ _ ▸ hw).2
      exact beq_iff_eq.mp this
    rw [hp, List.length_map, List.length_range, Sg.len] at hl
    have e1 : a = 0 := by omega
    have e2 : b = t.length := by omega
    subst e1 e2
    rw [List.drop_zero, Nat.sub_zero, List.take_length] at q
    exact ⟨.str (Sg t), H, I, ⟨_, rfl⟩, q⟩
  · refine ⟨?_, .str _, H, I.tok _, ⟨_, rfl⟩, q⟩
    show ((t.drop a).take (b - a)).toArray.size ≤ sizeLine
    rw [List.size_toArray, List.length_take, List.length_drop]
    omega
def glueL (sep : List Nat) : List (List Nat) → List Nat
  | [] => []
  | l :: ls => l ++ ls.flatMap fun m => sep ++ m
theorem texts_of : ∀ {ls : List (List Nat)} {us : List Value}, Vals (ls.map fun l => V.str (Sg l)) us → ∃ ps : List (Str × Tok), us = strValues ps ∧ ps.map (·.1) = ls.map Sg
  | [], _, .nil => ⟨[], rfl, rfl⟩
  | l :: ls, _, .cons r rr => by
    obtain ⟨t, rfl⟩ := r
    obtain ⟨ps, rfl, e⟩ := texts_of rr
    exact ⟨(Sg l, t) :: ps, rfl, by rw [List.map_cons, e]; rfl⟩
theorem glue_fold (sep : List Nat) : ∀ (ls : List (List Nat)) (acc : List Nat), (ls.map Sg).foldl (fun a p => a ++ (Sg sep).cps ++ p.cps) acc.toArray = (acc ++ ls.flatMap fun m => sep ++ m).toArray
  | [], acc => by simp
  | l :: ls, acc => by
    have e : acc.toArray ++ (Sg sep).cps ++ (Sg l).cps = (acc ++ (sep ++ l)).toArray := by simp [Sg]
    rw [List.map_cons, List.foldl_cons, e, glue_fold sep ls]
    simp
theorem glue_is (sep : List Nat) (ls : List (List Nat)) : Builtin.Str.glued (Sg sep) (ls.map Sg) = Sg (glueL sep ls) := by
  cases ls with
  | nil => rfl
  | cons l ls =>
    unfold Builtin.Str.glued
    show (⟨(ls.map Sg).foldl _ (Sg l).cps⟩ : Str) = _
    have := glue_fold sep ls l
    unfold glueL
    rw [show (Sg l).cps = l.toArray from rfl, this]
    rfl
theorem sum_fold (k : Nat) : ∀ (xs : List Str) (acc : Nat), xs.foldl (fun a x => a + x.length + k) acc = acc + (xs.map fun x => x.length + k).sum
  | [], acc => by simp
  | x :: xs, acc => by
    rw [List.foldl_cons, sum_fold k xs, List.map_cons, List.sum_cons]
    omega
theorem mt_join : MtM X "str.join" (fun x vs H Q => ∃ (sep : List Nat) (p : Addr) (ls : List (List Nat)), x = .str (Sg sep) ∧ vs = [.ref p] ∧ SqL X.K H p (ls.map fun l => V.str (Sg l)) ∧ (ls.map fun l => l.length + sep.length).sum ≤ sizeLine ∧ (glueL sep ls).length ≤ sizeLine ∧ Q (.str (Sg (glueL sep ls))) H) := by
  intro pins s σ H x vs v us Q I rx rv h
  obtain ⟨sep, p, ls, rfl, rfl, hq, hz, hg, q⟩ := h
  obtain ⟨k0, rfl⟩ := rx
  obtain ⟨u, rfl, ru⟩ := rv.one
  cases ru
  obtain ⟨its, r, pl, _⟩ := I.list hq
  obtain ⟨ps, rfl, e⟩ := texts_of r
  have hl : Builtin.Str.tooLong ((ps.map (·.1)).toArray.foldl (· + ·.length + (Sg sep).length) 0) = false := by
    unfold Builtin.Str.tooLong
    refine decide_eq_false ?_
    rw [List.foldl_toArray', e]
    · rw [sum_fold, Sg.len, List.map_map]
      have : ((fun x : Str => x.length + sep.length) ∘ Sg) = fun l : List Nat => l.length + sep.length := by
        funext l
        show (Sg l).length + _ = _
        rw [Sg.len]
      rw [this]
      omega
    · rfl
  refine call_meets F.slot_str_join (typeIs_str _ _ _) F.entry_str_join (F.args_str_join_2 _ _) (meets_str_join_list (Sg sep) k0 p ps hl) ⟨pl.isList, ?_⟩
  have fin : ∀ t' (s' : Shared), Inv X pins σ H s' → EP X pins σ Q (.str (Sg (glueL sep ls)) t') s' := fun t' s' I' => ⟨.str _, H, I', ⟨_, rfl⟩, q⟩
  match ps, ls, e, fin, hg with
  | [], [], _, fin, _ => exact ⟨by show 0 ≤ _; exact Nat.zero_le _, fin _ _ (I.tok _)⟩
  | [(x, t)], [l], e, fin, _ =>
    have e1 : x = Sg l := by simpa using e
    subst e1
    have : glueL sep [l] = l := by simp [glueL]
    have f := fin t s I
    rw [this] at f
    exact f
  | (x, t) :: (x', t') :: ps, ls, e, fin, hg =>
    show (Made.str (Builtin.Str.glued (Sg sep) (((x, t) :: (x', t') :: ps).map (·.1)))).post _ s
    rw [e, glue_is]
    exact ⟨by rw [Sg.len]; exact hg, fin _ _ (I.tok _)⟩
end
end L2
namespace L2
open PySem PySem.Spec PyProof.Rows
section
variable {X : Cx}
def tySet (i : Nat) (ta : TA) (sp : Sp) : TY := fun D EK σ H => ta σ H fun vs H1 => sp vs H1 (fun v H2 => D.nx (σ.set i (some v)) H2) EK
theorem py_set {i k : Nat} {x : Str} {f : Addr} {fd : FuncData} {ps : List Str} {sp : Sp} {st : Stmt} {fx : Str} {p p0 cpos apos : Pos} {e : Expr} {es : List Expr} {ta : TA}
    (hN : X.N.Nodup) (hi : X.N[i]? = some x) (hx : Loc X.env.scope x)
    (D : Dn X.K X.mg fx st ps f fd) (G : FnOk X.prog X.w X.K X.mg X.base (CXd X.prog X.w) k f fd ps sp) (hr : Room k X.A) (hg : Gl X fx) (ha : PA X.nox (e :: es) ta)
    (hdf : (fx == ("__debug__" : Str)) = false := by decide) (hst' : starEach (e :: es) X.env = (false, eval e X.env) :: starEach es X.env := by rfl) (hpl : (backTo cpos (starEach es X.env)).any (·.1) = false := by rfl)
    (hsw : swapsWith (.Call (.Name fx p) (e :: es) [] cpos) (some (.Name x p0)) apos.line X.env = pure false := by rfl) (hf : X.fn x = true ∨ X.env.scope.names.lookup x = some .local := by first | exact .inl rfl | exact .inr rfl | assumption) :
    PTry X [.Assign [.Name x p0] (.Call (.Name fx p) (e :: es) [] cpos) apos] (tySet i ta sp) := by
  intro pins s σ H D' EK I h
  refine wpAny_execs_cons (wpAny_Assign_Name ?_ hsw)
  refine wpAny_Call_Name_kw (ld_glob I hg D.gl ?_ hdf)
  refine PySem.W.callWith_K (h₀ := X.base) I.ok.mod.kin D.fn.kp (wpAny_mono (ha cpos pins s σ H _ (I.wish _) h) (fun us s1 ⟨vs, H1, I1', r, q⟩ => ?_) fun _ _ z => z.elim) hst' hpl
  have I1 : Inv X pins σ H1 s1 := I1'.unwish
  refine ⟨I1.kIn, ?_⟩
  have hl : us.length = ps.length := by rw [← r.length]; exact G.len _ _ _ _ q
  have hb := D.bd s1 us I1.kIn (by rw [List.append_nil]; exact hl)
  rw [List.append_nil] at hb
  refine wpAny_call (codeAny_mono (G.run X.A X.stack s1 H1 ⟨us, []⟩ us vs _ _ hr I1.env0 hb r q) fun rr s' hq => ?_)
  cases rr with
  | error ev => exact ⟨H1, s1, I1, hq⟩
  | ok fl =>
    cases fl with
    | ret uv =>
      obtain ⟨v, H2, I2, r2, q2⟩ := I1.after hq
      exact store_ok I2 hN hi hx r2 (fun s2 I3 => wpAny_execs_nil ⟨_, H2, I3, q2⟩) hf
    | next => exact False.elim hq
    | brk => exact False.elim hq
    | cont => exact False.elim hq
theorem reps_is (l : List Nat) : ∀ (k : Nat) (acc : List Nat), (List.replicate k (Sg l).cps).foldl (· ++ ·) acc.toArray = (acc ++ (List.replicate k l).flatten).toArray
  | 0, acc => by simp
  | k + 1, acc => by
    rw [List.replicate_succ, List.foldl_cons, show acc.toArray ++ (Sg l).cps = (acc ++ l).toArray by simp [Sg], reps_is l k (acc ++ l), List.replicate_succ, List.flatten_cons, List.append_assoc]
theorem op_repS : OpR X (binaryOp .Mult) (fun x y H Q => ∃ (t : List Nat) (k : Nat), x = .str (Sg t) ∧ y = .int (k : Int) ∧ 2 ≤ k ∧ 0 < t.length ∧ t.length * k ≤ 10000 ∧ Q (.str (Sg (List.replicate k t).flatten)) H) := by
  intro pins s σ H x y v u Q I rx ry h
  obtain ⟨t, k, rfl, rfl, hk, ht, hz, q⟩ := h
  obtain ⟨a, rfl⟩ := rx
  obtain ⟨b, rfl⟩ := ry
  have hk' : k ≤ 10000 := Nat.le_trans (Nat.le_mul_of_pos_left k ht) hz
  have e1 : ((k : Int) == 1 || (Sg t).length == 0) = false := by
    rw [Sg.len, show ((k : Int) == 1) = false from beq_eq_false_iff_ne.mpr (by omega), show (t.length == 0) = false from beq_eq_false_iff_ne.mpr (by omega)]
    rfl
  refine PySem.P.mul_str ?_ (fun _ _ => ?_) (fun _ _ => ?_) ?_
  · rw [decide_eq_false (by omega), decide_eq_false (by omega)]; rfl
  · rw [Sg.len]
    have : (t.length : Int) * (k : Int) ≤ 10000 := by exact_mod_cast hz
    have h2 : (t.length : Int) ≤ (2 ^ 63 - 1) / (k : Int) := by
      rw [Int.le_ediv_iff_mul_le (by omega)]
      omega
    omega
  · rw [Sg.len, Int.toNat_natCast]
    unfold Builtin.Str.tooLong
    rw [decide_eq_false]
    have : (10000 : Nat) ≤ sizeLine := by decide
    omega
  · rw [if_neg (by omega), e1, if_neg (by decide), Int.toNat_natCast]
    have := reps_is t k []
    rw [List.nil_append] at this
    refine ⟨?_, ?_⟩
    · show (Str.mk ((List.replicate k (Sg t).cps).foldl (· ++ ·) #[])).length ≤ _
      rw [show (#[] : Array Nat) = ([] : List Nat).toArray from rfl, this]
      show (Sg (List.replicate k t).flatten).length ≤ _
      rw [Sg.len, len_rep, Nat.mul_comm]
      exact Nat.le_trans hz (by decide)
    · rw [show (#[] : Array Nat) = ([] : List Nat).toArray from rfl, this]
      exact ⟨.str _, H, I.tok _, ⟨_, rfl⟩, q⟩
end
end L2
namespace L2
open PySem PySem.Spec PyProof.Rows
section
variable {X : Cx} {pins : List (Addr × Obj)} {σ : St} {H : Hp} {s : Shared}
end
end L2
namespace L2
open PySem PySem.Spec PyProof.Rows
section
variable {X : Cx}
def splL (t y : List Nat) : List (List Nat) := (Txt.split (Sg t) (Sg y)).map (·.cps.toList)
theorem splL_str (t y : List Nat) : (splL t y).map Sg = Txt.split (Sg t) (Sg y) := by
  unfold splL
  rw [List.map_map]
  conv => rhs; rw [← List.map_id (Txt.split (Sg t) (Sg y))]
  exact List.map_congr_left fun x _ => Sg.of x
theorem vals_strs : ∀ (ls : List (List Nat)) (ps : List (Str × Tok)), ps.map (·.1) = ls.map Sg → Vals (ls.map fun l => V.str (Sg l)) (strValues ps)
  | [], [], _ => .nil
  | [], _ :: _, h => by cases h
  | _ :: _, [], h => by cases h
  | l :: ls, (x, t) :: ps, h => by
    obtain ⟨h1, h2⟩ := List.cons.inj h
    have h1 : x = Sg l := h1
    subst h1
    exact .cons ⟨t, rfl⟩ (vals_strs ls ps h2)
theorem mt_split : MtM X "str.split" (fun x vs H Q => ∃ (t y : List Nat), x = .str (Sg t) ∧ vs = [.str (Sg y)] ∧ y ≠ [] ∧ t.length ≤ 100000 ∧ ∀ D, H D = none → Q (.ref D) (upd H D (.lst ((splL t y).map fun l => V.str (Sg l))))) := by
  intro pins s σ H x vs v us Q I rx rv h
  obtain ⟨t, y, rfl, rfl, hy, hz, q⟩ := h
  obtain ⟨k0, rfl⟩ := rx
  obtain ⟨u, rfl, ru⟩ := rv.one
  obtain ⟨k1, rfl⟩ := ru
  have ly : ((Sg y).length == 0) = false := by
    rw [Sg.len]
    exact beq_eq_false_iff_ne.mpr fun z => hy (List.length_eq_zero_iff.mp z)
  have lx : (Sg t).length ≤ sizeLine := by rw [Sg.len]; exact Nat.le_trans hz (by decide)
  have ls : (splL t y).length ≤ 100002 := by
    have := split_le (Sg t) (Sg y)
    unfold splL
    rw [List.length_map]
    rw [Sg.len] at this
    omega
  have fin : ∀ (ps : List (Str × Tok)) (t' : Nat), ps.map (·.1) = Txt.split (Sg t) (Sg y) → EP X pins σ Q (.ref s.heap.objs.size) { s with toks := t', heap := s.heap.push { cls := .type "list", data := .seq (strValues ps).toArray } } := fun ps t' e => by
    rw [← splL_str] at e
    have hv := vals_strs (splL t y) ps e
    exact ⟨.ref s.heap.objs.size, _, I.lnew (t' := t') hv (by rw [List.length_map]; exact Nat.le_trans ls (by decide)), rfl, q _ (I.hok.fresh (Nat.le_refl _))⟩
  cases h1 : (decide ((Sg t).length < (Sg y).length) || decide (Builtin.Str.strKind (Sg t) < Builtin.Str.strKind (Sg y)))
  · cases hf : (Builtin.Str.occurrences (Sg t) (Sg y) 0 (Sg t).length ((Sg t).length + 1)).isEmpty
    · have es : Txt.split (Sg t) (Sg y) = Builtin.Str.partsBetween (Sg t) (Builtin.Str.occurrences (Sg t) (Sg y) 0 (Sg t).length ((Sg t).length + 1)) (Sg y).length := (if_neg (ne_true_of_eq_false h1)).trans (if_neg (ne_true_of_eq_false hf))
      have lp : (Builtin.Str.partsBetween (Sg t) (Builtin.Str.occurrences (Sg t) (Sg y) 0 (Sg t).length ((Sg t).length + 1)) (Sg y).length).length ≤ sizeLine := by
        rw [← es, ← splL_str, List.length_map]
        exact Nat.le_trans ls (by decide)
      refine call_meets F.slot_str_split (typeIs_str _ _ _) F.entry_str_split (F.args_str_split_2 _ _) (meets_str_split_sep (Sg t) (Sg y) k0 k1 h1 ly hf lx lp) ?_
      have f := fin (numbered s.toks (Builtin.Str.partsBetween (Sg t) (Builtin.Str.occurrences (Sg t) (Sg y) 0 (Sg t).length ((Sg t).length + 1)) (Sg y).length)) (s.toks + (Builtin.Str.partsBetween (Sg t) (Builtin.Str.occurrences (Sg t) (Sg y) 0 (Sg t).length ((Sg t).length + 1)) (Sg y).length).length) ((numbered_texts _ _).trans es.symm)
      rw [← strsFrom_eq] at f
      exact f
    · have es : Txt.split (Sg t) (Sg y) = [Sg t] := (if_neg (ne_true_of_eq_false h1)).trans (if_pos hf)
      exact call_meets F.slot_str_split (typeIs_str _ _ _) F.entry_str_split (F.args_str_split_2 _ _) (meets_str_split_not_found (Sg t) (Sg y) k0 k1 h1 ly hf) (fin [(Sg t, k0)] s.toks es.symm)
  · have es : Txt.split (Sg t) (Sg y) = [Sg t] := if_pos h1
    exact call_meets F.slot_str_split (typeIs_str _ _ _) F.entry_str_split (F.args_str_split_2 _ _) (meets_str_split_cannot_occur (Sg t) (Sg y) k0 k1 h1) (fin [(Sg t, k0)] s.toks es.symm)
theorem splL_glue (t y : List Nat) : glueL y (splL t y) = t := by
  have h := StrLaws.join_split (Sg t) (Sg y)
  rw [← StrLaws.glued_eq_join, ← splL_str, glue_is] at h
  exact Sg.inj h
end
end L2
namespace L2
open PySem PySem.Spec PyProof.Rows
section
variable {X : Cx}
theorem idx_head (b len : Nat) : Builtin.Str.strSliceIndices none (some (b : Int)) 1 len = Builtin.Str.strSliceIndices (some ((0 : Nat) : Int)) (some ((min b len : Nat) : Int)) 1 len := by
  unfold Builtin.Str.strSliceIndices
  dsimp only
  have h1 : ¬((b : Int) < 0) := by omega
  have h2 : ¬(((min b len : Nat) : Int) < 0) := by omega
  have h3 : ¬(((0 : Nat) : Int) < 0) := by omega
  rw [if_neg h1, if_neg h2, if_neg h3]
  simp only [show (1 : Int) > 0 by decide, if_true]
  congr 1 <;> omega
theorem idx_tail (a len : Nat) : Builtin.Str.strSliceIndices (some (a : Int)) none 1 len = Builtin.Str.strSliceIndices (some ((min a len : Nat) : Int)) (some ((len : Nat) : Int)) 1 len := by
  unfold Builtin.Str.strSliceIndices
  dsimp only
  have h1 : ¬((a : Int) < 0) := by omega
  have h2 : ¬(((min a len : Nat) : Int) < 0) := by omega
  have h3 : ¬(((len : Nat) : Int) < 0) := by omega
  rw [if_neg h1, if_neg h2, if_neg h3]
  simp only [show (1 : Int) > 0 by decide, if_true]
  congr 1 <;> omega
theorem sl_head : SlR X (fun x lo hi H Q => ∃ (t : List Nat) (b : Nat), x = .str (Sg t) ∧ lo = none ∧ hi = some (b : Int) ∧ t.length ≤ sizeLine ∧ Q (.str (Sg (t.take b))) H) := by
  intro pins s σ H x v vl vu lo hi sl Q I rx hs pl pu h
  obtain ⟨t, b, rfl, rfl, rfl, hz, q⟩ := h
  obtain ⟨k0, rfl⟩ := rx
  cases pl with
  | none =>
  cases pu with
  | int _ t2 =>
  refine ⟨"str", _, F.slot_str_getitem.lookup, typeIs_str s (Sg t) k0, ?_⟩
  refine wpAny_getItem_str_slice (l := none) (u := some ((b : Int), t2)) (st := none) hs rfl ?_
  have hb : min b t.length ≤ (Sg t).length := by rw [Sg.len]; omega
  have hp : slicePicked (Sg t) none (some ((b : Int), t2)) none = (List.range (min b t.length - 0)).map (fun k => 0 + k) := (show _ = _ from idx_head b (Sg t).length).trans (by rw [Sg.len]; exact StrLaws.strSliceIndices_plain (Nat.zero_le _) (Nat.min_le_right _ _))
  have hc : (slicePicked (Sg t) none (some ((b : Int), t2)) none).filterMap ((Sg t).cps[·]?) = t.take b := by
    have h := StrLaws.sliced_plain (Sg t) (Nat.zero_le (min b t.length)) hb
    have e : slicePicked (Sg t) none (some ((b : Int), t2)) none = Builtin.Str.strSliceIndices (some ((0 : Nat) : Int)) (some ((min b t.length : Nat) : Int)) 1 (Sg t).length := (show _ = _ from idx_head b (Sg t).length).trans (by rw [Sg.len])
    rw [e, h]
    show (t.drop 0).take (min b t.length - 0) = _
    rw [List.drop_zero, Nat.sub_zero, List.take_eq_take_iff]
    omega
  unfold sliceMade
  rw [hc]
  split
  · rename_i hw
    have hl : (slicePicked (Sg t) none (some ((b : Int), t2)) none).length = (Sg t).length := by
      have := (Bool.and_eq_true _ _ ▸ hw).2
      exact beq_iff_eq.mp this
    rw [hp, List.length_map, List.length_range, Sg.len] at hl
    rw [List.take_of_length_le (by omega)] at q
    exact ⟨.str (Sg t), H, I, ⟨_, rfl⟩, q⟩
  · refine ⟨?_, .str _, H, I.tok _, ⟨_, rfl⟩, q⟩
    show (t.take b).toArray.size ≤ sizeLine
    rw [List.size_toArray, List.length_take]
    omega
theorem sl_tail : SlR X (fun x lo hi H Q => ∃ (t : List Nat) (a : Nat), x = .str (Sg t) ∧ lo = some (a : Int) ∧ hi = none ∧ t.length ≤ sizeLine ∧ Q (.str (Sg (t.drop a))) H) := by
  intro pins s σ H x v vl vu lo hi sl Q I rx hs pl pu h
  obtain ⟨t, a, rfl, rfl, rfl, hz, q⟩ := h
  obtain ⟨k0, rfl⟩ := rx
  cases pl with
  | int _ t1 =>
  cases pu with
  | none =>
  refine ⟨"str", _, F.slot_str_getitem.lookup, typeIs_str s (Sg t) k0, ?_⟩
  refine wpAny_getItem_str_slice (l := some ((a : Int), t1)) (u := none) (st := none) hs rfl ?_
  have e : slicePicked (Sg t) (some ((a : Int), t1)) none none = Builtin.Str.strSliceIndices (some ((min a t.length : Nat) : Int)) (some ((t.length : Nat) : Int)) 1 (Sg t).length := (show _ = _ from idx_tail a (Sg t).length).trans (by rw [Sg.len])
  have hp : slicePicked (Sg t) (some ((a : Int), t1)) none none = (List.range (t.length - min a t.length)).map (fun k => min a t.length + k) := e.trans (StrLaws.strSliceIndices_plain (Nat.min_le_right _ _) (by rw [Sg.len]; exact Nat.le_refl _))
  have hc : (slicePicked (Sg t) (some ((a : Int), t1)) none none).filterMap ((Sg t).cps[·]?) = t.drop a := by
    have h := StrLaws.sliced_plain (Sg t) (a := min a t.length) (b := t.length) (Nat.min_le_right _ _) (by rw [Sg.len]; exact Nat.le_refl _)
    rw [e, h]
    show (t.drop (min a t.length)).take (t.length - min a t.length) = _
    rw [List.take_of_length_le (by rw [List.length_drop]; exact Nat.le_refl _)]
    rcases Nat.le_total a t.length with z | z
    · rw [Nat.min_eq_left z]
    · rw [Nat.min_eq_right z, List.drop_length, List.drop_of_length_le z]
  unfold sliceMade
  rw [hc]
  split
  · rename_i hw
    have hl : (slicePicked (Sg t) (some ((a : Int), t1)) none none).length = (Sg t).length := by
      have := (Bool.and_eq_true _ _ ▸ hw).2
      exact beq_iff_eq.mp this
    rw [hp, List.length_map, List.length_range, Sg.len] at hl
    have : t.drop a = t := by
      rcases Nat.eq_zero_or_pos a with z | z
      · rw [z]; rfl
      · have : t.length = 0 := by omega
        rw [List.length_eq_zero_iff.mp this]
        simp
    rw [this] at q
    exact ⟨.str (Sg t), H, I, ⟨_, rfl⟩, q⟩
  · refine ⟨?_, .str _, H, I.tok _, ⟨_, rfl⟩, q⟩
    show (t.drop a).toArray.size ≤ sizeLine
    rw [List.size_toArray, List.length_drop]
    omega
end
end L2
namespace L2
open PySem PySem.Spec PyProof.Rows
section
variable {X : Cx} {tg : Expr}
end
end L2
namespace L2
open PySem PySem.Spec PyProof.Rows
section
variable {X : Cx}
def tabS (D : List (Str × Str)) : List (Str × KTD.Dat) := D.map fun p => (p.1, .flat (.str p.2))
structure TabS (K : PySem.W.Frag) (a : Addr) (D : List (Str × Str)) : Prop where
  lk : KTD.tabLook (KTD.datLooks fun b => K.lookup b) (fun b => K.lookup b) a (tabS D) = true
def rIxTabS (a : Addr) (D : List (Str × Str)) : R2 := fun x y H Q => ∃ k i, x = .ref a ∧ y = .str k ∧ KTD.datumAt k D = some i ∧ Q (.str i) H
theorem inKeys_tabS {k i : Str} : ∀ {D : List (Str × Str)}, KTD.datumAt k D = some i → KTD.inKeys k (tabS D) = true
  | [], h => by cases h
  | (x, d) :: D, h => by
    have h' : (if decide (k = x) = true then some d else KTD.datumAt k D) = some i := h
    show (decide (k = x) || KTD.inKeys k (tabS D)) = true
    by_cases e : k = x
    · rw [decide_eq_true e]; rfl
    · rw [decide_eq_false e] at h' ⊢
      exact inKeys_tabS (by simpa using h')
theorem eachL_tabS {h : Heap} {k i : Str} {P : Value → Prop} (hp : ∀ t, P (.str i t)) : ∀ {D : List (Str × Str)}, KTD.datumAt k D = some i → KTD.EachL h k P (tabS D)
  | [], h => by cases h
  | [(x, d)], h => by
    have h' : (if decide (k = x) = true then some d else none) = some i := h
    refine KTD.eachL_last fun e => ?_
    rw [if_pos (decide_eq_true e)] at h'
    cases h'
    exact KTD.opened_str hp
  | (x, d) :: p :: D, h => by
    have h' : (if decide (k = x) = true then some d else KTD.datumAt k (p :: D)) = some i := h
    refine KTD.eachL_ite ?_
    by_cases e : k = x
    · rw [if_pos (decide_eq_true e)] at h' ⊢
      cases h'
      exact KTD.opened_str hp
    · rw [if_neg (by simpa using e)] at h' ⊢
      exact eachL_tabS hp h'
theorem plain_tabS : ∀ D : List (Str × Str), ((tabS D).all fun p => KTD.plain p.2) = true
  | [] => rfl
  | (x, d) :: D => plain_tabS D
theorem ix_tabS {a : Addr} {D : List (Str × Str)} (T : TabS X.K a D) : IxR X (rIxTabS a D) := by
  intro value slice pins s σ H x y v u Q I rx ry h hs
  obtain ⟨k, i, rfl, rfl, hk, q⟩ := h
  cases rx
  obtain ⟨t, rfl⟩ := ry
  have TT : KTD.TextTab X.base a (tabS D) := KTD.text_of_look (fun b o e => I.mod.kin b o e) T.lk
  exact KTD.item_textA ⟨TT, I.bk⟩ (plain_tabS D) (inKeys_tabS hk) (eachL_tabS (fun t' => ⟨.str i, H, I.tok _, ⟨_, rfl⟩, q⟩) hk) hs
def isAt (q : Addr) (v : Value) : Bool := v == .ref q
structure TabR (K : PySem.W.Frag) (a : Addr) (D : List (Str × Addr)) : Prop where
  lk : KTD.tabLook isAt (fun b => K.lookup b) a D = true
def rIxTabR (a : Addr) (D : List (Str × Addr)) : R2 := fun x y H Q => ∃ k q, x = .ref a ∧ y = .str k ∧ KTD.datumAt k D = some q ∧ Q (.ref q) H
theorem found_at {prog : Program} {w : World} {A : Around} {E : Value → Shared → Prop} {s : Shared} {a q : Addr} {D : List (Str × Addr)} {k : Str} {tk : Tok} (T : KTD.TabOf (fun q v => v = .ref q) s.heap a D) (hk : KTD.datumAt k D = some q) {Q : Option Value → Shared → Prop}
    (h : Q (some (.ref q)) { s with toks := s.toks + 1 }) : wpAny (model prog w) A (dictGet a (.str k tk)) Q E s := by
  obtain ⟨_, o, es, ep, ho, _, hd, hr⟩ := T
  obtain ⟨l⟩ := es
  have hq : findBy (fun k v => v.isStr k) (⟨l⟩ : Array DictEntry) k = some (.ref q) := by
    obtain ⟨v, hv, rfl⟩ := hr.find_some hk
    simpa [findBy] using hv
  unfold dictGet
  try with_reducible refine wpAny_holding ?_
  refine wpAny_bind (wpAny_pyHash_str (wpAny_bind (KTD.kt_dictFind_strs (s := { s with toks := s.toks + 1 }) ho hd (by simpa using hr.exact) ?_)))
  rw [findBy_of_findIdx?] at hq
  cases hi : (⟨l⟩ : Array DictEntry).findIdx? fun e => e.key.isStr k with
  | none => rw [hi] at hq; cases hq
  | some i =>
    rw [hi] at hq
    have hq' : Option.map (fun x => x.val) (⟨l⟩ : Array DictEntry)[i]? = some (.ref q) := hq
    refine wpAny_bind (wpAny_dictEntries (s := { s with toks := s.toks + 1 }) ho hd (wpAny_pure ?_))
    rw [hq']
    exact h
theorem ix_tabR {a : Addr} {D : List (Str × Addr)} (T : TabR X.K a D) : IxR X (rIxTabR a D) := by
  intro value slice pins s σ H x y v u Q I rx ry h hs
  obtain ⟨k, p, rfl, rfl, hk, q⟩ := h
  cases rx
  obtain ⟨tk, rfl⟩ := ry
  have TT : KTD.TabOf (fun q v => v = .ref q) s.heap a D := (KTD.tab_of_look (R := fun q v => v = .ref q) (fun d v h => beq_iff_eq.mp h) (fun b o e => I.mod.kin b o e) T.lk).keep I.bk (fun _ _ x => x)
  have ty : s.TypeIs (.ref a) "dict" := let ⟨_, o, _, _, ho, hc, _⟩ := TT; ⟨o, ho, hc.1⟩
  refine subscriptTail_builtinR (x := .ref p) ty slot_dict_getitem.lookup ?_ hs
  unfold getItem
  try with_reducible refine wpAny_holding ?_
  refine wpAny_bind (wpAny_sequenceKey ty (by decide) ?_)
  refine wpAny_bind (wpAny_callSpecial?_slot (name := Str.ofString "__getitem__") ty slot_dict_getitem
    (wpAny_call_entry slot_dict_getitem ty entry_dict_getitem ?_ (args_dict_getitem _ _)))
  show wpAny _ _ (dictGet a (.str k tk) >>= _) _ _ s
  exact wpAny_bind (found_at TT hk (wpAny_pure ⟨.ref p, rfl, wpAny_pure ⟨rfl, .ref p, H, I.tok _, rfl, q⟩⟩))
end
end L2
namespace L2
open PySem PySem.Spec PyProof.Rows
section
variable {X : Cx}
theorem idx_both (a b len : Nat) : Builtin.Str.strSliceIndices (some (a : Int)) (some (b : Int)) 1 len = Builtin.Str.strSliceIndices (some ((min a len : Nat) : Int)) (some ((min b len : Nat) : Int)) 1 len := by
  unfold Builtin.Str.strSliceIndices
  dsimp only
  have h1 : ¬((b : Int) < 0) := by omega
  have h2 : ¬(((min b len : Nat) : Int) < 0) := by omega
  have h3 : ¬((a : Int) < 0) := by omega
  have h4 : ¬(((min a len : Nat) : Int) < 0) := by omega
  rw [if_neg h1, if_neg h2, if_neg h3, if_neg h4]
  simp only [show (1 : Int) > 0 by decide, if_true]
  congr 1 <;> omega
theorem sl_cut : SlR X (fun x lo hi H Q => ∃ (t : List Nat) (a b : Nat), x = .str (Sg t) ∧ lo = some (a : Int) ∧ hi = some (b : Int) ∧ a ≤ b ∧ t.length ≤ sizeLine ∧ Q (.str (Sg ((t.drop a).take (b - a)))) H) := by
  intro pins s σ H x v vl vu lo hi sl Q I rx hs pl pu h
  obtain ⟨t, a, b, rfl, rfl, rfl, hab, hz, q⟩ := h
  obtain ⟨k0, rfl⟩ := rx
  cases pl with
  | int _ t1 =>
  cases pu with
  | int _ t2 =>
  refine ⟨"str", _, F.slot_str_getitem.lookup, typeIs_str s (Sg t) k0, ?_⟩
  refine wpAny_getItem_str_slice (l := some ((a : Int), t1)) (u := some ((b : Int), t2)) (st := none) hs rfl ?_
  have mab : min a t.length ≤ min b t.length := by omega
  have mb : min b t.length ≤ (Sg t).length := by rw [Sg.len]; omega
  have e : slicePicked (Sg t) (some ((a : Int), t1)) (some ((b : Int), t2)) none = Builtin.Str.strSliceIndices (some ((min a t.length : Nat) : Int)) (some ((min b t.length : Nat) : Int)) 1 (Sg t).length := (show _ = _ from idx_both a b (Sg t).length).trans (by rw [Sg.len])
  have hp : slicePicked (Sg t) (some ((a : Int), t1)) (some ((b : Int), t2)) none = (List.range (min b t.length - min a t.length)).map (fun k => min a t.length + k) := e.trans (StrLaws.strSliceIndices_plain mab mb)
  have hc : (slicePicked (Sg t) (some ((a : Int), t1)) (some ((b : Int), t2)) none).filterMap ((Sg t).cps[·]?) = (t.drop a).take (b - a) := by
    have h := StrLaws.sliced_plain (Sg t) (a := min a t.length) (b := min b t.length) mab mb
    rw [e, h]
    show (t.drop (min a t.length)).take (min b t.length - min a t.length) = _
    rcases Nat.le_total a t.length with z | z
    · rw [Nat.min_eq_left z, List.take_eq_take_iff, List.length_drop]
      omega
    · rw [Nat.min_eq_right z, List.drop_length, List.drop_of_length_le z, List.take_nil, List.take_nil]
  unfold sliceMade
  rw [hc]
  split
  · rename_i hw
    have hl : (slicePicked (Sg t) (some ((a : Int), t1)) (some ((b : Int), t2)) none).length = (Sg t).length := by
      have := (Bool.and_eq_true _ _ ▸ hw).2
      exact beq_iff_eq.mp this
    rw [hp, List.length_map, List.length_range, Sg.len] at hl
    have : (t.drop a).take (b - a) = t := by
      rcases Nat.eq_zero_or_pos a with z | z
      · subst z
        rw [List.drop_zero, List.take_of_length_le (by omega)]
      · have : t.length = 0 := by omega
        rw [List.length_eq_zero_iff.mp this]
        simp
    rw [this] at q
    exact ⟨.str (Sg t), H, I, ⟨_, rfl⟩, q⟩
  · refine ⟨?_, .str _, H, I.tok _, ⟨_, rfl⟩, q⟩
    show ((t.drop a).take (b - a)).toArray.size ≤ sizeLine
    rw [List.size_toArray, List.length_take, List.length_drop]
    omega
end
end L2
namespace My
open PySem L2 PyProof.Rows
def codes (z : Int) : List Nat := (Str.ofString (toString z)).cps.toList
def isFig (c : Nat) : Bool := decide (48 ≤ c) && decide (c ≤ 57)
set_option maxRecDepth 100000
end My
namespace TM
open PySem L2
def dot (w r : List Int) : Int := (List.zipWith (fun a b => a * b) w r).sum
inductive Lf where
  | one
  | hue (c : Int)
  | same
  | tie
  | all
inductive Un where
  | near
  | rows
  | on
  | turned
  | many (a b : Int)
inductive Bi where
  | both
  | thn
  | meet
  | plus
inductive Te where
  | lf (k : Lf)
  | un (k : Un) (t : Te)
  | bi (k : Bi) (t u : Te)
def Lf.word : Lf → Str
  | .one => "one"
  | .hue _ => "hue"
  | .same => "same"
  | .tie => "tie"
  | .all => "all"
def Lf.rest : Lf → List PyData
  | .hue c => [.int c]
  | _ => []
def Un.word : Un → Str
  | .near => "near"
  | .rows => "rows"
  | .on => "on"
  | .turned => "turned"
  | .many _ _ => "many"
def Un.rest : Un → List PyData
  | .many a b => [.tuple [.int a, .int b]]
  | _ => []
def Bi.word : Bi → Str
  | .both => "both"
  | .thn => "then"
  | .meet => "meet"
  | .plus => "plus"
def Te.word : Te → Str
  | .lf k => k.word
  | .un k _ => k.word
  | .bi k _ _ => k.word
def Te.rest : Te → List PyData
  | .lf k => k.rest
  | .un k _ => k.rest
  | .bi _ _ _ => []
def Te.kids : Te → List Te
  | .lf _ => []
  | .un _ t => [t]
  | .bi _ t u => [t, u]
def Te.dat : Te → PyData
  | .lf k => .tuple (.str k.word :: k.rest)
  | .un k t => .tuple (.str k.word :: (k.rest ++ [t.dat]))
  | .bi k t u => .tuple [.str k.word, t.dat, u.dat]
theorem Te.dat_eq (t : Te) : t.dat = .tuple (.str t.word :: (t.rest ++ t.kids.map Te.dat)) := by
  cases t with
  | lf k => simp [Te.dat, Te.word, Te.rest, Te.kids]
  | un k t => simp [Te.dat, Te.word, Te.rest, Te.kids]
  | bi k t u => simp [Te.dat, Te.word, Te.rest, Te.kids]
def Te.size : Te → Nat
  | .lf _ => 1
  | .un _ t => t.size + 1
  | .bi _ t u => t.size + u.size + 1
theorem Te.size_pos (t : Te) : 1 ≤ t.size := by cases t <;> simp [Te.size]
def Te.pre : Te → List Te
  | .lf k => [.lf k]
  | .un k t => .un k t :: t.pre
  | .bi k t u => .bi k t u :: (u.pre ++ t.pre)
structure FrOk (a b : Int) : Prop where
  top : a.natAbs < 10 ^ 60
  pos : 0 < b
  bot : b < 10 ^ 60
  cop : Int.gcd a b = 1
def Lf.tab : Lf → Bool
  | .one => false
  | .hue _ => false
  | _ => true
def Lf.fits : Lf → Prop
  | .hue c => 0 ≤ c ∧ c < 10 ^ 60
  | _ => True
def Te.ok : Te → Bool → Prop
  | .lf k, s => k.tab = s ∧ k.fits
  | .un .near t, s => s = false ∧ t.ok false
  | .un .rows t, s => s = false ∧ t.ok true
  | .un .on t, s => s = true ∧ t.ok false
  | .un .turned t, s => s = true ∧ t.ok true
  | .un (.many a b) t, s => FrOk a b ∧ t.ok s
  | .bi .both t u, s => s = false ∧ t.ok false ∧ u.ok false
  | .bi .thn t u, s => s = true ∧ t.ok true ∧ u.ok true
  | .bi .meet t u, s => s = true ∧ t.ok true ∧ u.ok true
  | .bi .plus t u, s => t.ok s ∧ u.ok s
def Te.fine (t : Te) : Prop := ∃ s, t.ok s
theorem Te.kid_fine {t x : Te} (g : t.fine) (h : x ∈ t.kids) : x.fine := by
  obtain ⟨s, g⟩ := g
  cases t with
  | lf k => cases h
  | un k t =>
    rw [List.mem_singleton.mp h]
    cases k with
    | many a b => exact ⟨_, g.2⟩
    | _ => exact ⟨_, g.2⟩
  | bi k t u =>
    have h' : x = t ∨ x = u := by simpa [Te.kids] using h
    cases k with
    | plus =>
      rcases h' with rfl | rfl
      · exact ⟨_, g.1⟩
      · exact ⟨_, g.2⟩
    | _ =>
      rcases h' with rfl | rfl
      · exact ⟨_, g.2.1⟩
      · exact ⟨_, g.2.2⟩
end TM
namespace My
open PySem L2 PyProof.Rows
def top (i : Nat) : Stmt := PySem.Challenge.pw_evenkin_k94_term_texts_refused.main.body.getD i (.Pass ⟨0, 0, 0, 0⟩)
def clsBody (s : Stmt) (i : Nat) : Stmt := match s with
  | .ClassDef _ _ _ b _ _ _ _ _ _ _ => b.getD i (.Pass ⟨0, 0, 0, 0⟩)
  | _ => .Pass ⟨0, 0, 0, 0⟩
abbrev sInitR : Stmt := clsBody (top 13) 0
abbrev sRefuse : Stmt := clsBody (top 13) 1
abbrev sTakes : Stmt := clsBody (top 13) 2
abbrev sMust : Stmt := clsBody (top 13) 3
abbrev sEnd : Stmt := clsBody (top 13) 4
abbrev sFigs : Stmt := clsBody (top 13) 5
abbrev sFrom0 : Stmt := clsBody (top 13) 6
abbrev sNumb : Stmt := clsBody (top 13) 7
abbrev sFrn : Stmt := clsBody (top 13) 8
abbrev sGd : Stmt := top 9
abbrev sLookD : Stmt := top 21
abbrev sTreeF : Stmt := top 22
abbrev sSignF : Stmt := top 23
abbrev sTwoF : Stmt := top 24
abbrev sManyF : Stmt := top 25
abbrev sTermF : Stmt := top 26
abbrev sWholeT : Stmt := top 27
abbrev sReadTree : Stmt := top 28
abbrev sReadTerm : Stmt := top 29
abbrev sReadTable : Stmt := top 30
abbrev sMix : Stmt := top 33
abbrev sBegun : Stmt := top 34
abbrev sTake : Stmt := top 35
abbrev sDiv : Stmt := top 36
abbrev sLow : Stmt := top 37
abbrev sFrac : Stmt := top 38
abbrev sTree : Stmt := top 39
abbrev sTabTerm : Stmt := top 40
abbrev sRowTerm : Stmt := top 41
abbrev sGrown : Stmt := top 42
abbrev sPartT : Stmt := top 43
abbrev sText : Stmt := top 44
abbrev sTreeText : Stmt := top 45
abbrev sRun : Stmt := top 46
abbrev sNumEnd : Stmt := top 47
abbrev sPartEnd : Stmt := top 48
abbrev sTwoEnd : Stmt := top 49
abbrev sEndT : Stmt := top 50
abbrev sTreeEnd : Stmt := top 51
abbrev sCaught : Stmt := top 52
abbrev sIs : Stmt := top 53
abbrev sJudged : Stmt := top 54
abbrev sBent : Stmt := top 55
abbrev sOdd : Stmt := top 56
abbrev sLaw : Stmt := top 57
section
variable {P : Program} {w : World} {K : PySem.W.Frag} {mg : Str → Option Value} {base : Heap}
def Drw (H : Hp) (p : Addr) (n : Nat) : Prop := ∃ a b c : Int, H p = some (.lst [.int a, .int b, .int c]) ∧ 0 ≤ b ∧ b ≤ (n : Int)
def But (p : Addr) (H H' : Hp) : Prop := ∀ b o, b ≠ p → H b = some o → H' b = some o
theorem But.refl (p : Addr) (H : Hp) : But p H H := fun _ _ _ h => h
theorem But.trans {p : Addr} {H H1 H2 : Hp} (a : But p H H1) (b : But p H1 H2) : But p H H2 := fun c o n h => b c o n (a c o n h)
theorem But.upd {p : Addr} {H : Hp} {o : HO} : But p H (upd H p o) := fun b u n h => by rw [upd_ne n]; exact h
theorem But.new {p q : Addr} {H : Hp} {o : HO} (h : H q = none) : But p H (L2.upd H q o) := fun b u _ e => by rw [upd_ne (ne_of_none e h)]; exact e
theorem Drw.new {p q : Addr} {H : Hp} {o : HO} {n : Nat} (d : Drw H p n) (h : H q = none) : Drw (L2.upd H q o) p n := by
  obtain ⟨a, b, c, e, r⟩ := d
  exact ⟨a, b, c, by rw [upd_ne (ne_of_none e h)]; exact e, r⟩
theorem Drw.mono {p : Addr} {H : Hp} {n m : Nat} (d : Drw H p n) (h : n ≤ m) : Drw H p m := by
  obtain ⟨a, b, c, e, r1, r2⟩ := d
  exact ⟨a, b, c, e, r1, by omega⟩
def spMix : Sp := fun vs H Q _ => ∃ c k : Int, vs = [.int c, .int k] ∧ 0 ≤ k ∧ k < 2 ^ 40 ∧ ∀ r : Int, Q (.int r) H
def spBegun : Sp := fun vs H Q _ => ∃ c : Int, vs = [.int c] ∧ ∀ p H', H p = none → Same H H' → Drw H' p 1 → Q (.ref p) H'
def spTake : Sp := fun vs H Q _ => ∃ (p : Addr) (m : Int) (n : Nat), vs = [.ref p, .int m] ∧ 0 < m ∧ m < 1073741824 ∧ Drw H p n ∧ n ≤ 1000000 ∧ ∀ (r : Int) H', 0 ≤ r → r < m → But p H H' → Drw H' p (n + 2) → Q (.int r) H'
theorem cmul_l {x y : Int} (h1 : -(2 ^ 64) < x) (h2 : x < 2 ^ 64) : CMul x y := .inl ⟨h1, h2⟩
theorem cmul_r {x y : Int} (h1 : -(2 ^ 64) < y) (h2 : y < 2 ^ 64) : CMul x y := .inr ⟨h1, h2⟩
theorem scMix : FnScope ["_law_cell", "_law_k", "_law_x"] ["_law_cell", "_law_k"] (defScope sMix) := ⟨rfl, rfl, rfl, by decide +kernel, rfl, by decide +kernel, by decide +kernel⟩
theorem ok_mix {f : Addr} {fd : FuncData} (F : Fun K "_law_mix" "_law_mix" sMix f fd) : FnOk P w K mg base CX0 1 f fd ["_law_cell", "_law_k"] spMix := by
  refine F.ok scMix (fun vs H Q E h => ?_) (fun cdv A outer s H vs Q E hr h => ?_)
  · obtain ⟨a, b, rfl, _⟩ := h
    rfl
  · obtain ⟨c, k, rfl, h0, h1, q⟩ := h
    refine ⟨_, pss_cons (ps_set (i := 2) scMix.nd rfl (Or.inl rfl) (pe_op op_mod (pe_op op_add (pe_op op_mod (pv 0) pe_int) (pe_op op_mul pe_int (pv 1))) pe_int))
      (pss_cons (ps_set (i := 2) scMix.nd rfl (Or.inl rfl) (pe_op op_mod (pe_op op_add (pe_op op_add (pe_op op_add (pe_op op_mul (pv 2) (pv 2)) (pe_op op_mul pe_int (pv 2))) (pe_op op_mul (pe_op op_mul (pv 1) (pv 1)) (pv 1))) pe_int) pe_int))
      (pss_one (ps_ret (pe_op op_mod (pe_op op_mul (pv 2) (pv 2)) pe_int)))), ?_⟩
    refine ⟨_, rfl, _, _, rfl, rfl, (by show (0 : Int) < 2147483647; decide), _, rfl, _, _, rfl, rfl, cmul_l (by decide) (by decide), _, _, rfl, rfl, _, _, rfl, rfl, (by show (0 : Int) < 2147483629; decide), ?_⟩
    have b1 := Int.emod_nonneg (c % 2147483647 + 31 * k) (b := 2147483629) (by decide)
    have b2 := Int.emod_lt_of_pos (c % 2147483647 + 31 * k) (b := 2147483629) (by decide)
    generalize (c % 2147483647 + 31 * k) % 2147483629 = x at b1 b2 ⊢
    refine ⟨_, rfl, _, rfl, _, _, rfl, rfl, cmul_l (by omega) (by omega), _, rfl, _, _, rfl, rfl, cmul_l (by decide) (by decide), _, _, rfl, rfl, _, rfl, _, rfl, _, _, rfl, rfl, cmul_l (by omega) (by omega), _, rfl, _, _, rfl, rfl, cmul_r (by omega) (by omega), _, _, rfl, rfl, _, _, rfl, rfl, _, _, rfl, rfl, (by show (0 : Int) < 2147483629; decide), ?_⟩
    have c1 := Int.emod_nonneg (x * x + 16807 * x + k * k * k + 7) (b := 2147483629) (by decide)
    have c2 := Int.emod_lt_of_pos (x * x + 16807 * x + k * k * k + 7) (b := 2147483629) (by decide)
    generalize (x * x + 16807 * x + k * k * k + 7) % 2147483629 = y at c1 c2 ⊢
    refine ⟨_, rfl, _, rfl, _, _, rfl, rfl, cmul_l (by omega) (by omega), _, _, rfl, rfl, (by show (0 : Int) < 2147483587; decide), q _⟩
theorem scBegun : FnScope ["_law_cell"] ["_law_cell"] (defScope sBegun) := ⟨rfl, rfl, rfl, by decide +kernel, rfl, by decide +kernel, by decide +kernel⟩
theorem ok_begun {f : Addr} {fd : FuncData} (F : Fun K "_law_begun" "_law_begun" sBegun f fd) : FnOk P w K mg base CX0 1 f fd ["_law_cell"] spBegun := by
  refine F.ok scBegun (fun vs H Q E h => ?_) (fun cdv A outer s H vs Q E hr h => ?_)
  · obtain ⟨a, rfl, _⟩ := h
    rfl
  · obtain ⟨c, rfl, q⟩ := h
    refine ⟨_, pss_one (ps_ret (pe_lst (pa_cons (pe_op op_fdiv (pv 0) pe_int) (pa_cons (pe_op op_mod (pv 0) pe_int) (pa_cons (pv 0) pa_nil))))), ?_⟩
    refine ⟨_, rfl, _, _, rfl, rfl, ⟨by decide, by decide⟩, _, rfl, _, _, rfl, rfl, (by show (0 : Int) < 2; decide), _, rfl, (by show 3 ≤ sizeLine; decide), fun p hp => ?_⟩
    have b1 := Int.emod_nonneg c (b := 2) (by decide)
    have b2 := Int.emod_lt_of_pos c (b := 2) (by decide)
    exact q p _ hp (Same.upd hp) ⟨_, _, _, upd_same, b1, by omega⟩
theorem ix0 (a b c : V) : atI [a, b, c] 0 = some a := rfl
theorem ix1 (a b c : V) : atI [a, b, c] 1 = some b := rfl
theorem ix2 (a b c : V) : atI [a, b, c] 2 = some c := rfl
theorem scTake : FnScope ["_law_draw", "_law_most", "_law_found"] ["_law_draw", "_law_most"] (defScope sTake) := ⟨rfl, rfl, rfl, by decide +kernel, rfl, by decide +kernel, by decide +kernel⟩
theorem ok_take {f fM : Addr} {fd fdM : FuncData} (F : Fun K "_law_take" "_law_take" sTake f fd) (DM : Dn K mg "_law_mix" sMix ["_law_cell", "_law_k"] fM fdM) : FnOk P w K mg base CX0 2 f fd ["_law_draw", "_law_most"] spTake := by
  have GM : FnOk P w K mg base CX0 1 fM fdM ["_law_cell", "_law_k"] spMix := ok_mix DM.fn
  refine F.ok scTake (fun vs H Q E h => ?_) (fun cdv A outer s H vs Q E hr h => ?_)
  · obtain ⟨p, m, n, rfl, _⟩ := h
    rfl
  · obtain ⟨p, m, n, rfl, hm0, hm1, ⟨a, b, c, hp, hb0, hb1⟩, hn, q⟩ := h
    refine ⟨_, pss_cons (ps_if (PW.pt (pw_and (pt_cmpR op_eq (pe_ix ix_list (pv 0) pe_int (fun _ _ => rfl)) pe_int (nomark _)) (pw_and1 (pt_cmpR op_in_seq (pe_ix ix_list (pv 0) pe_int (fun _ _ => rfl)) (pe_lst (pa_cons pe_int (pa_cons (pe_un un_neg pe_int) pa_nil))) rfl))))
        (pss_cons (ps_asg pe_int (pg_sub (pv 0) pe_int set_list)) (pss_one (ps_asg (pe_ix ix_list (pv 0) pe_int (fun _ _ => rfl)) (pg_sub (pv 0) pe_int set_list)))) pss_nil)
      (pss_cons (ps_if (pt_cmpR op_eq (pe_ix ix_list (pv 0) pe_int (fun _ _ => rfl)) pe_int (nomark _))
        (pss_cons (ps_set (i := 2) scTake.nd rfl (Or.inl rfl) (pe_op op_mod (pe_ix ix_list (pv 0) pe_int (fun _ _ => rfl)) (pv 1)))
        (pss_cons (ps_asg (pe_op op_fdiv (pe_ix ix_list (pv 0) pe_int (fun _ _ => rfl)) (pv 1)) (pg_sub (pv 0) pe_int set_list))
        (pss_one (ps_ret (pv 2))))) pss_nil)
      (pss_cons (ps_asg (pe_op op_add (pe_ix ix_list (pv 0) pe_int (fun _ _ => rfl)) pe_int) (pg_sub (pv 0) pe_int set_list))
      (pss_one (ps_ret (pe_op op_mod (pe_fn DM GM hr rfl (pa_cons (pe_ix ix_list (pv 0) pe_int (fun _ _ => rfl)) (pa_cons (pe_ix ix_list (pv 0) pe_int (fun _ _ => rfl)) pa_nil))) (pv 1)))))), ?_⟩
    have hc0 : ∀ (H1 : Hp) (a1 b1 : Int), But p H H1 → H1 p = some (.lst [.int a1, .int b1, .int c]) → 0 ≤ b1 → b1 ≤ (n : Int) + 1 → b1 = 0 → ∀ z : Int, But p H (upd H1 p (.lst [.int z, .int b1, .int c])) ∧ Drw (upd H1 p (.lst [.int z, .int b1, .int c])) p (n + 2) := fun H1 a1 b1 hB h1 h2 h3 _ z =>
      ⟨hB.trans But.upd, z, b1, c, upd_same, h2, by omega⟩
    refine ⟨_, rfl, p, _, _, _, rfl, rfl, SqL.of hp, ix1 _ _ _, rfl, _, rfl, ?_⟩
    by_cases hb : b = 0
    · refine itDP (by rw [hb]) ?_
      refine ⟨_, rfl, p, _, _, _, rfl, rfl, SqL.of hp, ix0 _ _ _, 1, rfl, (by show 2 ≤ sizeLine; decide), fun l hl => ⟨l, _, rfl, .inl (SqL.of upd_same), rfl, rfl, _, rfl, ?_⟩⟩
      have npl : p ≠ l := ne_of_none hp hl
      have hp1 : upd H l (.lst [.int 0, .int (-1)]) p = some (.lst [.int a, .int b, .int c]) := by rw [upd_ne npl]; exact hp
      have hB1 : But p H (upd H l (.lst [.int 0, .int (-1)])) := But.new hl
      generalize upd H l (.lst [.int 0, .int (-1)]) = H1 at hp1 hB1 ⊢
      generalize inV (V.int a) [V.int 0, V.int (-1)] = t
      cases t with
      | true =>
        refine iteT ?_
        refine ⟨_, rfl, p, _, 1, 1, rfl, rfl, hp1, rfl, ?_⟩
        refine ⟨_, rfl, p, _, _, _, rfl, rfl, SqL.of upd_same, ix2 _ _ _, _, rfl, p, _, 0, 0, rfl, rfl, upd_same, rfl, ?_⟩
        rw [upd_upd]
        have hp2 : upd H1 p (.lst [.int c, .int 1, .int c]) p = some (.lst [.int c, .int 1, .int c]) := upd_same
        have hB2 : But p H (upd H1 p (.lst [.int c, .int 1, .int c])) := hB1.trans But.upd
        refine ⟨_, rfl, p, _, _, _, rfl, rfl, SqL.of hp2, ix1 _ _ _, rfl, _, rfl, ?_⟩
        refine itDN (by intro z; cases z) ?_
        refine ⟨_, rfl, p, _, _, _, rfl, rfl, SqL.of hp2, ix1 _ _ _, _, _, rfl, rfl, _, rfl, p, _, 1, 1, rfl, rfl, hp2, rfl, ?_⟩
        rw [upd_upd]
        refine ⟨_, rfl, p, _, _, _, rfl, rfl, SqL.of upd_same, ix0 _ _ _, _, rfl, p, _, _, _, rfl, rfl, SqL.of upd_same, ix1 _ _ _, _, _, rfl, (by decide), (by decide), fun r => ?_⟩
        refine ⟨_, rfl, _, _, rfl, rfl, hm0, ?_⟩
        exact q _ _ (Int.emod_nonneg _ (Int.ne_of_gt hm0)) (Int.emod_lt_of_pos _ hm0) (hB1.trans But.upd) ⟨c, 1 + 1, c, upd_same, by decide, by omega⟩
      | false =>
        refine iteF ?_
        refine ⟨_, rfl, p, _, _, _, rfl, rfl, SqL.of hp1, ix1 _ _ _, rfl, _, rfl, ?_⟩
        refine itDP (by rw [hb]) ?_
        refine ⟨_, rfl, p, _, _, _, rfl, rfl, SqL.of hp1, ix0 _ _ _, _, rfl, _, _, rfl, rfl, hm0, ?_⟩
        refine ⟨_, rfl, p, _, _, _, rfl, rfl, SqL.of hp1, ix0 _ _ _, _, rfl, _, _, rfl, rfl, ⟨hm0, hm1⟩, _, rfl, p, _, 0, 0, rfl, rfl, hp1, rfl, ?_⟩
        refine ⟨_, rfl, ?_⟩
        exact q _ _ (Int.emod_nonneg _ (Int.ne_of_gt hm0)) (Int.emod_lt_of_pos _ hm0) (hB1.trans But.upd) ⟨_, b, c, upd_same, hb0, by omega⟩
    · refine itDN (fun z => hb (V.int.inj z)) ?_
      refine iteF ?_
      refine ⟨_, rfl, p, _, _, _, rfl, rfl, SqL.of hp, ix1 _ _ _, rfl, _, rfl, ?_⟩
      refine itDN (fun z => hb (V.int.inj z)) ?_
      refine ⟨_, rfl, p, _, _, _, rfl, rfl, SqL.of hp, ix1 _ _ _, _, _, rfl, rfl, _, rfl, p, _, 1, 1, rfl, rfl, hp, rfl, ?_⟩
      refine ⟨_, rfl, p, _, _, _, rfl, rfl, SqL.of upd_same, ix0 _ _ _, _, rfl, p, _, _, _, rfl, rfl, SqL.of upd_same, ix1 _ _ _, _, _, rfl, (by omega), (by omega), fun r => ?_⟩
      refine ⟨_, rfl, _, _, rfl, rfl, hm0, ?_⟩
      exact q _ _ (Int.emod_nonneg _ (Int.ne_of_gt hm0)) (Int.emod_lt_of_pos _ hm0) But.upd ⟨a, b + 1, c, upd_same, by omega, by omega⟩
theorem p59 : (10 : Int) ^ (59 : Int).toNat = 100000000000000000000000000000000000000000000000000000000000 := by decide
theorem pow59 : CPow 10 59 := ⟨by decide, by decide, by decide⟩
theorem pow60 : CPow 10 60 := ⟨by decide, by decide, by decide⟩
end
section
variable {K : PySem.W.Frag}
def bodyAt (s : Stmt) (i : Nat) : Stmt := (defBody s).getD i (.Pass ⟨0, 0, 0, 0⟩)
def lcScope (e : Expr) : Scope := match e with
  | .ListComp _ _ sc _ => sc
  | _ => { kind := .function, names := [], isGenerator := false, isCoroutine := false }
theorem Same.sq {H H' : Hp} {a : Addr} {xs : List V} (e : Same H H') (h : SqL K H a xs) : SqL K H' a xs := (Same.keep (ok := any) e).seq trivial h
theorem take_snoc {α : Type} {xs : List α} {i : Nat} {x : α} (h : xs[i]? = some x) : xs.take (i + 1) = xs.take i ++ [x] := by
  rw [List.take_succ, h]
  rfl
theorem map_get {α β : Type} {f : α → β} {xs : List α} {i : Nat} {y : β} (h : (xs.map f)[i]? = some y) : ∃ x, xs[i]? = some x ∧ y = f x := by
  rw [List.getElem?_map] at h
  obtain ⟨x, h1, h2⟩ := Option.map_eq_some_iff.mp h
  exact ⟨x, h1, h2.symm⟩
theorem But.updN {d a : Addr} {H H' : Hp} {o : HO} (c : But d H H') (h : H a = none) : But d H (L2.upd H' a o) := fun b u n e => by
  rw [upd_ne (ne_of_none e h)]
  exact c b u n e
theorem Drw.updN {d a : Addr} {H : Hp} {o : HO} {n : Nat} (D : Drw H d n) (h : a ≠ d) : Drw (L2.upd H a o) d n := by
  obtain ⟨x, y, z, e, r⟩ := D
  exact ⟨x, y, z, by rw [upd_ne h.symm]; exact e, r⟩
theorem cut_ints (ns : List Int) (lo hi : Option Int) : ∃ ms : List Int, cutV (ns.map V.int) lo hi = ms.map V.int ∧ ms.length ≤ ns.length := by
  unfold cutV
  rw [← List.map_drop, ← List.map_take]
  exact ⟨_, rfl, by rw [List.length_take, List.length_drop]; omega⟩
theorem But.same {d : Addr} {H0 H H' : Hp} (s : Same H0 H) (hd : H0 d = none) (b : But d H H') : Same H0 H' := fun c o e => b c o (ne_of_none e (by exact hd)) (s c o e)
def tMid (t u : TS) : TS := fun D σ H => ∃ J : L2.St → Hp → Prop, t { D with nx := J } σ H ∧ ∀ σ' H', J σ' H' → u D σ' H'
theorem pss_mid {X : Cx} {st : Stmt} {rest : List Stmt} {t u : TS} (h1 : PS X st t) (h2 : PSs X rest u) : PSs X (st :: rest) (tMid t u) := by
  intro pins s σ H D I h
  obtain ⟨J, h, k⟩ := h
  refine wpAny_execs_cons (thn (h1 pins s σ H { D with nx := J } I h) fun f s1 q => ?_)
  cases f with
  | next =>
    obtain ⟨σ', H', I', q⟩ := q
    exact h2 pins s1 σ' H' D I' (k σ' H' q)
  | ret v => exact q
  | brk => exact q
  | cont => exact q
end
section
variable {P : Program} {w : World} {K : PySem.W.Frag} {mg : Str → Option Value} {base : Heap}
structure BltX (mg : Str → Option Value) : Prop where
  range : mg "range" = none
  list : mg "list" = none
  len : mg "len" = none
  int : mg "int" = none
  bool : mg "bool" = none
  str : mg "str" = none
  isi : mg "isinstance" = none
  sum : mg "sum" = none
  tuple : mg "tuple" = none
theorem fig_lt {c : Nat} (h : isFig c = true) : 48 ≤ c ∧ c ≤ 57 := by
  unfold isFig at h
  rw [Bool.and_eq_true, decide_eq_true_iff, decide_eq_true_iff] at h
  exact h
abbrev figS : Str := Str.ofString "0123456789"
theorem fig_in : ∀ c : Nat, c < 128 → (!(Builtin.Str.occurrences figS ⟨#[c]⟩ 0 figS.length 1).isEmpty) = isFig c := by decide +kernel
def Rdr (C : Addr) (H : Hp) (a : Addr) (t : List Nat) (p : Nat) : Prop := ∃ dx, H a = some (.ins C dx [("text", .str (Sg t)), ("place", .int (p : Int))])
structure ClsR (K : PySem.W.Frag) (C : Addr) : Prop where
  cl : Cls K C
  tx : NoAttr K C "text"
  pl : NoAttr K C "place"
structure GlX (mg : Str → Option Value) : Prop where
  fig : ∃ t, mg "FIGURES" = some (.str figS t)
  most : ∃ t, mg "MOST_FIGURES" = some (.int 60 t)
def spInitR (C : Addr) : Sp := fun vs H Q _ => ∃ (a dx : Addr) (t : List Nat), vs = [.ref a, .str (Sg t)] ∧ H a = some (.ins C dx []) ∧ ∀ H', But a H H' → Rdr C H' a t 0 → Q .non H'
theorem scInitR : FnScope ["self", "text"] ["self", "text"] (defScope sInitR) := ⟨rfl, rfl, rfl, by decide +kernel, rfl, by decide +kernel, by decide +kernel⟩
theorem ok_initR {f C : Addr} {fd : FuncData} (T : ClsR K C) (F : Fun K "__init__" "Reader.__init__" sInitR f fd) : FnOk P w K mg base CX0 1 f fd ["self", "text"] (spInitR C) := by
  refine F.ok scInitR (fun vs H Q E h => ?_) (fun cdv A outer s H vs Q E hr h => ?_)
  · obtain ⟨a, dx, t, rfl, _⟩ := h
    rfl
  · obtain ⟨a, dx, t, rfl, e, q⟩ := h
    refine ⟨_, pss_cons (ps_fld (pv 0) (pv 1) rfl) (pss_one (ps_fld (pv 0) pe_int rfl)), ?_⟩
    refine ⟨_, rfl, _, rfl, a, C, dx, _, rfl, e, T.cl, T.tx, by decide, ?_⟩
    refine ⟨_, rfl, a, C, dx, _, rfl, upd_same, T.cl, T.pl, (by show 1 < 1000; decide), ?_⟩
    rw [upd_upd]
    exact q _ But.upd ⟨dx, upd_same⟩
def spTakes (C : Addr) : Sp := fun vs H Q _ => ∃ (a : Addr) (t y : List Nat) (p : Nat), vs = [.ref a, .str (Sg y)] ∧ Rdr C H a t p ∧ p ≤ t.length ∧ t.length ≤ 100000 ∧ (y.isPrefixOf (t.drop p) = false → Q (.bl false) H) ∧ (y.isPrefixOf (t.drop p) = true → ∀ H', But a H H' → Rdr C H' a t (p + y.length) → Q (.bl true) H')
theorem scTakes : FnScope ["self", "word"] ["self", "word"] (defScope sTakes) := ⟨rfl, rfl, rfl, by decide +kernel, rfl, by decide +kernel, by decide +kernel⟩
theorem sz100 {n : Nat} (h : n ≤ 100000) : n ≤ sizeLine := Nat.le_trans h (by decide)
theorem ok_takes {f C : Addr} {fd : FuncData} (B : BltX mg) (T : ClsR K C) (F : Fun K "takes" "Reader.takes" sTakes f fd) : FnOk P w K mg base CX0 1 f fd ["self", "word"] (spTakes C) := by
  refine F.ok scTakes (fun vs H Q E h => ?_) (fun cdv A outer s H vs Q E hr h => ?_)
  · obtain ⟨a, t, y, p, rfl, _⟩ := h
    rfl
  · obtain ⟨a, t, y, p, rfl, ⟨dx, e⟩, hp, hz, q0, q1⟩ := h
    refine ⟨_, pss_cons (ps_if (pt_not (pt_val (pe_bm PySem.F.plainAttrs_str PySem.F.slot_str_startswith PySem.F.type_str_startswith mt_starts (pe_fld (pv 0) rfl) (pa_cons (pv 1) (pa_cons (pe_fld (pv 0) rfl) pa_nil))))) (pss_one (ps_ret pe_bl)) pss_nil)
      (pss_cons (ps_fld (pv 0) (pe_op op_add (pe_fld (pv 0) rfl) (pe_callB call_len_str (by rfl) B.len PySem.boot_len (pa_cons (pv 1) pa_nil))) rfl)
      (pss_one (ps_ret pe_bl))), ?_⟩
    refine ⟨_, rfl, a, C, dx, _, _, rfl, e, T.cl, T.tx, rfl, rfl, _, rfl, _, rfl, a, C, dx, _, _, rfl, e, T.cl, T.pl, rfl, t, y, p, rfl, rfl, hp, _, rfl, ?_⟩
    cases hy : y.isPrefixOf (t.drop p) with
    | false => exact iteT (q0 hy)
    | true =>
      refine iteF ?_
      have ly : y.length ≤ t.length := by
        have := (List.isPrefixOf_iff_prefix.mp hy).length_le
        rw [List.length_drop] at this
        omega
      refine ⟨_, rfl, a, C, dx, _, _, rfl, e, T.cl, T.pl, rfl, _, rfl, Sg y, rfl, by rw [Sg.len]; exact sz100 (by omega), _, _, rfl, rfl, _, rfl, a, C, dx, _, rfl, e, T.cl, T.pl, (by show 2 < 1000; decide), ?_⟩
      refine q1 hy _ But.upd ⟨dx, ?_⟩
      rw [upd_same, Sg.len]
      rfl
structure Mn (K : PySem.W.Frag) (C : Addr) (x q : Str) (st : Stmt) (ps : List Str) (f : Addr) (fd : FuncData) : Prop where
  fn : Fun K x q st f fd
  me : Meth K C x f
  bd : Binds K fd ps []
theorem lit_minus : Str.ofString "-" = Sg [45] := by decide +kernel
theorem lit_blank : Str.ofString " " = Sg [32] := by decide +kernel
theorem pre_app (a b : List Nat) : a.isPrefixOf (a ++ b) = true := List.isPrefixOf_iff_prefix.mpr (List.prefix_append a b)
end
section
variable {P : Program} {w : World} {K : PySem.W.Frag} {mg : Str → Option Value} {base : Heap}
structure NoT (K : PySem.W.Frag) (mg : Str → Option Value) (CT : Addr) : Prop where
  ex : ∃ bm, Exc K CT bm
  gl : mg "NoText" = some (.ref CT)
def spRefuse (C CT : Addr) : Sp := fun vs H _ E => ∃ (a : Addr) (t y : List Nat) (p : Nat), vs = [.ref a, .str (Sg y)] ∧ Rdr C H a t p ∧ p ≤ 100000 ∧ y.length ≤ 100 ∧ E (.ref CT) none H
theorem scRefuse : FnScope ["self", "wrong", "place"] ["self", "wrong"] (defScope sRefuse) := ⟨rfl, rfl, rfl, by decide +kernel, rfl, by decide +kernel, by decide +kernel⟩
theorem small_sign {p : Nat} (h : p ≤ 100000) : (p : Int).natAbs.log2 < 1920 := by
  rcases Nat.eq_zero_or_pos p with rfl | hp
  · decide
  · have : (p : Int).natAbs < 2 ^ 17 := by have : (2 : Nat) ^ 17 = 131072 := rfl; omega
    exact Nat.lt_of_lt_of_le ((Nat.log2_lt (by omega)).mpr this) (by decide)
theorem dec_len {p : Nat} (h : p ≤ 100000) : (Str.ofString (toString (p : Int))).length ≤ 1000 := by
  have h1 := int_text_length_le (a := (p : Int)) (k := 17) (by decide) (by
    rcases Nat.eq_zero_or_pos p with rfl | hp
    · decide
    · exact (Nat.log2_lt (by omega)).mpr (by have : (2 : Nat) ^ 17 = 131072 := rfl; omega))
  rw [PySem.ofString_length]
  omega
theorem ok_refuse {f C CT : Addr} {fd : FuncData} (T : ClsR K C) (N : NoT K mg CT) (F : Fun K "refuse" "Reader.refuse" sRefuse f fd) : FnOk P w K mg base (CXd P w) 1 f fd ["self", "wrong"] (spRefuse C CT) := by
  obtain ⟨bm, Z⟩ := N.ex
  refine F.okD scRefuse (fun vs H Q E h => ?_) (fun cdv A outer s H vs Q E hr h => ?_)
  · obtain ⟨a, t, y, p, rfl, _⟩ := h
    rfl
  · obtain ⟨a, t, y, p, rfl, ⟨dx, e⟩, hp, hy, q⟩ := h
    refine ⟨_, pss_cons (ps_set (i := 2) scRefuse.nd rfl (Or.inl rfl) (pe_fld (pv 0) rfl))
      (pss_one (ps_raise0 rfl Z rfl N.gl (pa_cons (pe_joined (pj_cons pe_str (pj_cons (pe_fmtS (pv 1)) (pj_cons pe_str (pj_cons (pe_fmtI (pv 2)) pj_nil))))) pa_nil) raise_okD)), ?_⟩
    have l0 : (Str.empty ++ Str.ofString "no text: ").length = 9 := by decide +kernel
    have ly : (Sg y).length ≤ 100 := by rw [Sg.len]; exact hy
    have ld := dec_len hp
    have big : ∀ n, n ≤ 2000 → n ≤ sizeLine := fun n h => Nat.le_trans h (by decide)
    refine ⟨_, rfl, a, C, dx, _, _, rfl, e, T.cl, T.pl, rfl, ?_⟩
    have l1 : (Str.ofString " at sign ").length = 9 := by decide +kernel
    have a1 : (Str.empty ++ Str.ofString "no text: " ++ Sg y).length ≤ 109 := by rw [Str.length_append]; omega
    have a2 : (Str.empty ++ Str.ofString "no text: " ++ Sg y ++ Str.ofString " at sign ").length ≤ 118 := by rw [Str.length_append]; omega
    have a3 : (Str.empty ++ Str.ofString "no text: " ++ Sg y ++ Str.ofString " at sign " ++ Str.ofString (toString (p : Int))).length ≤ 1118 := by rw [Str.length_append]; omega
    refine ⟨_, rfl, big _ (by omega), _, rfl, _, rfl, big _ (by omega), _, rfl, big _ (by omega), _, rfl, big _ (by omega), _, rfl, (p : Int), rfl, small_sign hp, _, rfl, big _ (by omega), big _ (by omega), (by show 1 ≤ sizeLine; decide), fun x hx => ⟨hx, ?_⟩⟩
    rw [del_upd, del_new hx]
    exact q
end
section
variable {P : Program} {w : World} {K : PySem.W.Frag} {mg : Str → Option Value} {base : Heap}
def Tl (tl : List Nat) : Prop := ∀ c, tl.head? = some c → c < 128 ∧ isFig c = false
def spMust (C CT : Addr) : Sp := fun vs H Q E => ∃ (a : Addr) (t y : List Nat) (p : Nat), vs = [.ref a, .str (Sg y)] ∧ Rdr C H a t p ∧ p ≤ t.length ∧ t.length ≤ 100000 ∧ y.length ≤ 9 ∧ (∀ c ∈ y, c < 128) ∧
  (y.isPrefixOf (t.drop p) = true → ∀ H', But a H H' → Rdr C H' a t (p + y.length) → Q .non H') ∧ (y.isPrefixOf (t.drop p) = false → E (.ref CT) none H)
theorem scMust : FnScope ["self", "word"] ["self", "word"] (defScope sMust) := ⟨rfl, rfl, rfl, by decide +kernel, rfl, by decide +kernel, by decide +kernel⟩
theorem ok_must {f fT fR C CT : Addr} {fd fdT fdR : FuncData} (T : ClsR K C) (F : Fun K "must_take" "Reader.must_take" sMust f fd) (MT : Mn K C "takes" "Reader.takes" sTakes ["self", "word"] fT fdT) (GT : FnOk P w K mg base CX0 1 fT fdT ["self", "word"] (spTakes C))
    (MR : Mn K C "refuse" "Reader.refuse" sRefuse ["self", "wrong"] fR fdR) (GR : FnOk P w K mg base (CXd P w) 1 fR fdR ["self", "wrong"] (spRefuse C CT)) : FnOk P w K mg base (CXd P w) 2 f fd ["self", "word"] (spMust C CT) := by
  refine F.okD scMust (fun vs H Q E h => ?_) (fun cdv A outer s H vs Q E hr h => ?_)
  · obtain ⟨a, t, y, p, rfl, _⟩ := h
    rfl
  · obtain ⟨a, t, y, p, rfl, R, hp, hz, hy, hc, q1, q0⟩ := h
    obtain ⟨dx, e⟩ := id R
    refine ⟨_, pss_one (ps_if (pt_not (pt_val (pe_meth (pv 0) T.cl MT.me GT (hr.mono (by decide)) MT.bd .nil pass0 (pa_cons (pv 1) pa_nil))))
      (pss_one (ps_expr (pe_meth (pv 0) T.cl MR.me GR (hr.mono (by decide)) MR.bd .nil pass_okD (pa_cons (pe_joined (pj_cons pe_str (pj_cons (pe_fmtR (pv 1)) pj_nil))) pa_nil)))) pss_nil), ?_⟩
    refine ⟨_, rfl, a, dx, _, rfl, e, rfl, _, rfl, a, t, y, p, rfl, R, hp, hz, fun z => ⟨_, rfl, iteT ?_⟩, fun z H' b R' => ⟨_, rfl, iteF (q1 z H' b R')⟩⟩
    have l0 : (Str.empty ++ Str.ofString "no ").length = 3 := by decide +kernel
    have lr := StrLaws.reprText_len (Sg y) fun c h => Nat.lt_of_lt_of_le (hc c (by simpa [Sg] using h)) (by decide)
    rw [Sg.len] at lr
    have a1 : (Str.empty ++ Str.ofString "no " ++ reprText (Sg y)).length ≤ 95 := by rw [Str.length_append]; omega
    have big : ∀ n, n ≤ 2000 → n ≤ sizeLine := fun n h => Nat.le_trans h (by decide)
    refine ⟨_, rfl, a, dx, _, rfl, e, rfl, _, rfl, big _ (by omega), _, rfl, _, rfl, big _ (by omega), _, rfl, big _ (by omega), big _ (by omega), a, t, (Str.empty ++ Str.ofString "no " ++ reprText (Sg y)).cps.toList, p, ?_, R, by omega, ?_, q0 z⟩
    · rw [Sg.of]; rfl
    · have : (Str.empty ++ Str.ofString "no " ++ reprText (Sg y)).cps.toList.length = (Str.empty ++ Str.ofString "no " ++ reprText (Sg y)).length := Array.length_toList
      omega
def spFigs (C : Addr) : Sp := fun vs H Q _ => ∃ (a : Addr) (t ds tl : List Nat) (p : Nat), vs = [.ref a] ∧ Rdr C H a t p ∧ p ≤ t.length ∧ t.length ≤ 100000 ∧ t.drop p = ds ++ tl ∧ (∀ c ∈ ds, isFig c = true) ∧ Tl tl ∧ Q (.str (Sg ds)) H
theorem scFigs : FnScope ["self", "end"] ["self"] (defScope sFigs) := ⟨rfl, rfl, rfl, by decide +kernel, rfl, by decide +kernel, by decide +kernel⟩
theorem ok_figs {f C : Addr} {fd : FuncData} (B : BltX mg) (T : ClsR K C) (G : GlX mg) (F : Fun K "figures" "Reader.figures" sFigs f fd) : FnOk P w K mg base CX0 1 f fd ["self"] (spFigs C) := by
  obtain ⟨tk, gF⟩ := G.fig
  refine F.ok scFigs (fun vs H Q E h => ?_) (fun cdv A outer s H vs Q E hr h => ?_)
  · obtain ⟨a, t, ds, tl, p, rfl, _⟩ := h
    rfl
  · obtain ⟨a, t, ds, tl, p, rfl, ⟨dx, e⟩, hp, hz, ht, hd, hl, q⟩ := h
    have lt : t.length = p + ds.length + tl.length := by
      have := congrArg List.length ht
      rw [List.length_drop, List.length_append] at this
      omega
    have at_ : ∀ j c, (ds ++ tl)[j]? = some c → t[p + j]? = some c := fun j c h => by
      rw [← ht, List.getElem?_drop] at h
      exact h
    refine ⟨_, pss_cons (ps_set (i := 1) scFigs.nd rfl (Or.inl rfl) (pe_fld (pv 0) rfl))
      (pss_cons (ps_while PassesOwn.never (PW.pt (pw_and (pt_cmpR op_lt (pv 1) (pe_callB call_len_str (by rfl) B.len PySem.boot_len (pa_cons (pe_fld (pv 0) rfl) pa_nil)) (nomark _)) (pw_and1 (pt_cmpR op_in_str (pe_ix ix_str (pe_fld (pv 0) rfl) (pv 1) (fun _ _ => rfl)) (pe_glob (v := .str figS) rfl gF ⟨_, rfl⟩) rfl))))
        (pss_one (ps_aug (i := 1) scFigs.nd rfl (Or.inl rfl) pe_int ip_add)))
      (pss_one (ps_ret (pe_slice sl_text (pe_fld (pv 0) rfl) (po_some (pe_fld (pv 0) rfl)) (po_some (pv 1)))))), ?_⟩
    refine ⟨_, rfl, a, C, dx, _, _, rfl, e, T.cl, T.pl, rfl, ?_⟩
    refine ⟨fun m σ H' => ∃ j, m = ds.length - j ∧ j ≤ ds.length ∧ σ = [some (.ref a), some (.int ((p + j : Nat) : Int))] ∧ H' = H, ⟨_, 0, rfl, Nat.zero_le _, rfl, rfl⟩, ?_⟩
    rintro m σ H1 ⟨j, rfl, hj, rfl, rfl⟩
    have done : j = ds.length → Q (.str (Sg ((t.drop p).take (p + j - p)))) H1 := fun ej => by
      rw [ht, Nat.add_sub_cancel_left, ej, List.take_left]
      exact q
    refine ⟨_, rfl, _, rfl, a, C, dx, _, _, rfl, e, T.cl, T.tx, rfl, Sg t, rfl, by rw [Sg.len]; exact sz100 hz, _, _, rfl, rfl, _, rfl, ?_⟩
    rw [Sg.len]
    by_cases hlt : p + j < t.length
    · refine itDP (by omega) ?_
      obtain ⟨c, hc⟩ : ∃ c, (ds ++ tl)[j]? = some c := ⟨_, List.getElem?_eq_getElem (by rw [List.length_append]; omega)⟩
      have hc' := at_ j c hc
      have c60 : c < 128 ∧ (isFig c = true ↔ j < ds.length) := by
        by_cases hjd : j < ds.length
        · rw [List.getElem?_append_left hjd] at hc
          have f := hd c (List.mem_of_getElem? hc)
          have := fig_lt f
          exact ⟨by omega, fun _ => hjd, fun _ => f⟩
        · rw [List.getElem?_append_right (by omega), show j - ds.length = 0 by omega, ← List.head?_eq_getElem?] at hc
          obtain ⟨h1, h2⟩ := hl c hc
          exact ⟨h1, (fun z => by rw [h2] at z; cases z), fun z => absurd z hjd⟩
      refine ⟨_, rfl, a, C, dx, _, _, rfl, e, T.cl, T.tx, rfl, _, rfl, Sg t, _, c, rfl, rfl, by rw [Sg.len]; exact sz100 hz, atI_nat (by simpa [Sg] using hc'), _, figS, rfl, rfl, _, rfl, ?_⟩
      rw [fig_in c c60.1]
      cases hf : isFig c with
      | true =>
        have hjd := c60.2.mp hf
        refine iteT ⟨_, fun _ _ z => z, ?_⟩
        exact ⟨_, rfl, _, _, rfl, rfl, ds.length - (j + 1), by omega, j + 1, rfl, hjd, rfl, rfl⟩
      | false =>
        have hjd : j = ds.length := by
          have : ¬ j < ds.length := fun z => by rw [c60.2.mpr z] at hf; cases hf
          omega
        refine iteF ?_
        exact ⟨_, rfl, a, C, dx, _, _, rfl, e, T.cl, T.tx, rfl, _, rfl, a, C, dx, _, _, rfl, e, T.cl, T.pl, rfl, _, rfl, _, rfl, _, rfl, t, p, p + j, rfl, rfl, rfl, by omega, by omega, sz100 hz, done hjd⟩
    · have hjd : j = ds.length := by omega
      refine itDN (by omega) (iteF ?_)
      exact ⟨_, rfl, a, C, dx, _, _, rfl, e, T.cl, T.tx, rfl, _, rfl, a, C, dx, _, _, rfl, e, T.cl, T.pl, rfl, _, rfl, _, rfl, _, rfl, t, p, p + j, rfl, rfl, rfl, by omega, by omega, sz100 hz, done hjd⟩
end
section
variable {P : Program} {w : World} {K : PySem.W.Frag} {mg : Str → Option Value} {base : Heap}
theorem lit_any (x : String) : V.str (Str.ofString x) = .str (Sg (Str.ofString x).cps.toList) := by rw [Sg.of]
def spEndR (C CT : Addr) : Sp := fun vs H Q E => ∃ (a : Addr) (t : List Nat) (p : Nat), vs = [.ref a] ∧ Rdr C H a t p ∧ p ≤ t.length ∧ t.length ≤ 100000 ∧ (p = t.length → Q .non H) ∧ (p < t.length → E (.ref CT) none H)
theorem scEndR : FnScope ["self"] ["self"] (defScope sEnd) := ⟨rfl, rfl, rfl, by decide +kernel, rfl, by decide +kernel, by decide +kernel⟩
theorem ok_endR {f fR C CT : Addr} {fd fdR : FuncData} (B : BltX mg) (T : ClsR K C) (F : Fun K "must_end" "Reader.must_end" sEnd f fd)
    (MR : Mn K C "refuse" "Reader.refuse" sRefuse ["self", "wrong"] fR fdR) (GR : FnOk P w K mg base (CXd P w) 1 fR fdR ["self", "wrong"] (spRefuse C CT)) : FnOk P w K mg base (CXd P w) 2 f fd ["self"] (spEndR C CT) := by
  refine F.okD scEndR (fun vs H Q E h => ?_) (fun cdv A outer s H vs Q E hr h => ?_)
  · obtain ⟨a, t, p, rfl, _⟩ := h
    rfl
  · obtain ⟨a, t, p, rfl, R, hp, hz, q1, q0⟩ := h
    obtain ⟨dx, e⟩ := id R
    refine ⟨_, pss_one (ps_if (pt_cmpR op_lt (pe_fld (pv 0) rfl) (pe_callB call_len_str (by rfl) B.len PySem.boot_len (pa_cons (pe_fld (pv 0) rfl) pa_nil)) (nomark _)) (pss_one (ps_expr (pe_meth (pv 0) T.cl MR.me GR hr MR.bd .nil pass_okD (pa_cons pe_str pa_nil)))) pss_nil), ?_⟩
    refine ⟨_, rfl, a, C, dx, _, _, rfl, e, T.cl, T.pl, rfl, _, rfl, a, C, dx, _, _, rfl, e, T.cl, T.tx, rfl, Sg t, rfl, by rw [Sg.len]; exact sz100 hz, _, _, rfl, rfl, _, rfl, ?_⟩
    rw [Sg.len]
    by_cases c : p < t.length
    · refine itDP (by omega) ?_
      exact ⟨_, rfl, a, dx, _, rfl, e, rfl, a, t, _, p, by rw [lit_any]; rfl, R, by omega, by decide +kernel, q0 c⟩
    · exact itDN (by omega) (q1 (by omega))
def okF (ds : List Nat) : Bool := decide (ds ≠ []) && (decide (ds.length ≤ 60) && (decide (ds.head? ≠ some 48) || decide (ds = [48])))
def valF (ds : List Nat) : Int := ((PySem.NumText.digitsVal ds : Nat) : Int)
def figsOf (l : List Nat) : List Nat := l.takeWhile isFig
theorem figs_fig {l : List Nat} : ∀ c ∈ figsOf l, isFig c = true := fun c h => by
  induction l with
  | nil => cases h
  | cons x l ih =>
    unfold figsOf at h ih
    rw [List.takeWhile_cons] at h
    by_cases f : isFig x = true
    · rw [if_pos f] at h
      rcases List.mem_cons.mp h with rfl | h
      · exact f
      · exact ih h
    · rw [if_neg f] at h
      cases h
theorem figs_split (l : List Nat) : l = figsOf l ++ l.dropWhile isFig := (List.takeWhile_append_dropWhile ..).symm
theorem figs_tl {l : List Nat} (h : ∀ c ∈ l, c < 128) : Tl (l.dropWhile isFig) := fun c hc => by
  induction l with
  | nil => cases hc
  | cons x l ih =>
    rw [List.dropWhile_cons] at hc
    by_cases f : isFig x = true
    · rw [if_pos f] at hc
      exact ih (fun c h' => h c (List.mem_cons_of_mem _ h')) hc
    · rw [if_neg f] at hc
      cases hc
      exact ⟨h _ List.mem_cons_self, by simpa using f⟩
theorem val_text {ds : List Nat} (hf : ∀ c ∈ ds, isFig c = true) (ne : ds ≠ []) (l : ds.length ≤ 60) : PySem.intText? (Sg ds) = some (valF ds) := by
  have e : (Sg ds).cps.toList = ds := by simp [Sg]
  have := PySem.intText_digits (x := Sg ds) (by rw [e]; exact fun c h => fig_lt (hf c h)) (by rw [e]; exact ne) (by rw [Sg.len]; omega)
  rw [e] at this
  exact this
def spFrom0 (C CT : Addr) : Sp := fun vs H Q E => ∃ (a : Addr) (t : List Nat) (p : Nat), vs = [.ref a] ∧ Rdr C H a t p ∧ p ≤ t.length ∧ t.length ≤ 100000 ∧ (∀ c ∈ t, c < 128) ∧
  (okF (figsOf (t.drop p)) = true → ∀ H', But a H H' → Rdr C H' a t (p + (figsOf (t.drop p)).length) → Q (.int (valF (figsOf (t.drop p)))) H') ∧ (okF (figsOf (t.drop p)) = false → E (.ref CT) none H)
theorem scFrom0 : FnScope ["self", "figures"] ["self"] (defScope sFrom0) := ⟨rfl, rfl, rfl, by decide +kernel, rfl, by decide +kernel, by decide +kernel⟩
theorem ok_from0 {f fF fR C CT : Addr} {fd fdF fdR : FuncData} (B : BltX mg) (T : ClsR K C) (G : GlX mg) (F : Fun K "number_from_nought" "Reader.number_from_nought" sFrom0 f fd) (MF : Mn K C "figures" "Reader.figures" sFigs ["self"] fF fdF) (GF : FnOk P w K mg base CX0 1 fF fdF ["self"] (spFigs C))
    (MR : Mn K C "refuse" "Reader.refuse" sRefuse ["self", "wrong"] fR fdR) (GR : FnOk P w K mg base (CXd P w) 1 fR fdR ["self", "wrong"] (spRefuse C CT)) : FnOk P w K mg base (CXd P w) 2 f fd ["self"] (spFrom0 C CT) := by
  obtain ⟨tk, gM⟩ := G.most
  refine F.okD scFrom0 (fun vs H Q E h => ?_) (fun cdv A outer s H vs Q E hr h => ?_)
  · obtain ⟨a, t, p, rfl, _⟩ := h
    rfl
  · obtain ⟨a, t, p, rfl, R, hp, hz, hc, q1, q0⟩ := h
    obtain ⟨dx, e⟩ := id R
    refine ⟨_, pss_cons (ps_set (i := 1) scFrom0.nd rfl (Or.inl rfl) (pe_meth0 (pv 0) T.cl MF.me GF (hr.mono (by decide)) MF.bd .nil pass0))
      (pss_cons (ps_if (PW.pt (pw_or (pt_cmpR op_eq (pv 1) pe_str (nomark _)) (pw_or (pt_cmpR op_gt (pe_callB call_len_str (by rfl) B.len PySem.boot_len (pa_cons (pv 1) pa_nil)) (pe_glob (v := .int 60) rfl gM ⟨_, rfl⟩) (nomark _))
        (pw_or1 (PW.pt (pw_and (pt_cmpR op_eq (pe_ix ix_str (pv 1) pe_int (fun _ _ => rfl)) pe_str (nomark _)) (pw_and1 (pt_cmpR op_ne (pv 1) pe_str (nomark _))))))))) (pss_one (ps_expr (pe_meth (pv 0) T.cl MR.me GR hr MR.bd .nil pass_okD (pa_cons pe_str pa_nil)))) pss_nil)
      (pss_cons (ps_fld (pv 0) (pe_op op_add (pe_fld (pv 0) rfl) (pe_callB call_len_str (by rfl) B.len PySem.boot_len (pa_cons (pv 1) pa_nil))) rfl)
      (pss_one (ps_ret (pe_callTy call_int_text (by rfl) B.int boot_int (pa_cons (pv 1) pa_nil)))))), ?_⟩
    have hsp := figs_split (t.drop p)
    have hfg := figs_fig (l := t.drop p)
    have htl := figs_tl (l := t.drop p) fun c h => hc c (List.mem_of_mem_drop h)
    have hlen : (figsOf (t.drop p)).length ≤ t.length := by
      have := congrArg List.length hsp
      rw [List.length_drop, List.length_append] at this
      omega
    refine ⟨_, rfl, a, dx, _, rfl, e, rfl, a, t, figsOf (t.drop p), _, p, rfl, R, hp, hz, hsp, hfg, htl, ?_⟩
    have val := val_text hfg
    generalize figsOf (t.drop p) = ds at *
    by_cases ne : ds = []
    · have k0 : okF ds = false := by rw [ne]; rfl
      refine ⟨_, rfl, rfl, _, rfl, itDP (by rw [ne]; exact (lit_any "").symm) ?_⟩
      exact ⟨_, rfl, a, dx, _, rfl, e, rfl, a, t, _, p, by rw [lit_any]; rfl, R, by omega, by decide +kernel, q0 k0⟩
    refine ⟨_, rfl, rfl, _, rfl, itDN (fun z => ne (Sg.inj (b := []) (V.str.inj z))) ?_⟩
    refine ⟨_, rfl, Sg ds, rfl, by rw [Sg.len]; exact sz100 (by omega), _, _, rfl, rfl, _, rfl, ?_⟩
    rw [Sg.len]
    by_cases few : ds.length ≤ 60
    · refine itDN (by omega) ?_
      obtain ⟨c, r, hcr⟩ : ∃ c r, ds = c :: r := by
        cases hd : ds with
        | nil => exact absurd hd ne
        | cons c r => exact ⟨c, r, rfl⟩
      refine ⟨_, rfl, Sg ds, 0, c, rfl, rfl, by rw [Sg.len]; exact sz100 (by omega), (by rw [hcr]; exact atI_nat (j := 0) (by simp [Sg])), rfl, _, rfl, ?_⟩
      by_cases hc0 : c = 48
      · refine itDP (by rw [hc0]; rfl) ?_
        by_cases h48 : ds = [48]
        · have k1 : okF ds = true := by rw [h48]; rfl
          refine ⟨_, rfl, rfl, _, rfl, iteNS (by rw [h48]; rfl) ?_⟩
          refine ⟨_, rfl, a, C, dx, _, _, rfl, e, T.cl, T.pl, rfl, _, rfl, Sg ds, rfl, by rw [Sg.len]; exact sz100 (by omega), _, _, rfl, rfl, _, rfl, a, C, dx, _, rfl, e, T.cl, T.pl, (by show 2 < 1000; decide), ?_⟩
          refine ⟨_, rfl, Sg ds, _, rfl, val ne few, by rw [Sg.len]; omega, q1 k1 _ But.upd ⟨dx, ?_⟩⟩
          rw [upd_same, Sg.len]
          rfl
        · have k0 : okF ds = false := by
            unfold okF
            rw [decide_eq_true ne, decide_eq_true few, decide_eq_false h48, hcr, hc0]
            rfl
          refine ⟨_, rfl, rfl, _, rfl, iteNP (fun z => h48 ?_) ?_⟩
          · have e0 : Str.ofString "0" = Sg [48] := by decide +kernel
            rw [e0] at z
            exact Sg.inj (V.str.inj z)
          · exact ⟨_, rfl, a, dx, _, rfl, e, rfl, a, t, _, p, by rw [lit_any]; rfl, R, by omega, by decide +kernel, q0 k0⟩
      · have k1 : okF ds = true := by
          unfold okF
          rw [decide_eq_true ne, decide_eq_true few, hcr, decide_eq_true (show (c :: r).head? ≠ some 48 by intro z; exact hc0 (Option.some.inj z))]
          rfl
        refine itDN (fun z => hc0 ?_) (iteF ?_)
        · have := V.str.inj z
          have e1 := congrArg (fun x : Str => x.cps.toList) this
          have e0 : (Str.ofString "0").cps.toList = [48] := by decide +kernel
          have e2 : [c] = [48] := Eq.trans e1 e0
          exact List.head_eq_of_cons_eq e2
        refine ⟨_, rfl, a, C, dx, _, _, rfl, e, T.cl, T.pl, rfl, _, rfl, Sg ds, rfl, by rw [Sg.len]; exact sz100 (by omega), _, _, rfl, rfl, _, rfl, a, C, dx, _, rfl, e, T.cl, T.pl, (by show 2 < 1000; decide), ?_⟩
        refine ⟨_, rfl, Sg ds, _, rfl, val ne few, by rw [Sg.len]; omega, q1 k1 _ But.upd ⟨dx, ?_⟩⟩
        rw [upd_same, Sg.len]
        rfl
    · have k0 : okF ds = false := by
        unfold okF
        rw [decide_eq_false few, Bool.false_and, Bool.and_false]
      refine itDP (by omega) ?_
      exact ⟨_, rfl, a, dx, _, rfl, e, rfl, a, t, _, p, by rw [lit_any]; rfl, R, by omega, by decide +kernel, q0 k0⟩
end
section
variable {P : Program} {w : World} {K : PySem.W.Frag} {mg : Str → Option Value} {base : Heap}
def numP : List Nat → Option (Int × Nat)
  | 45 :: l => if okF (figsOf l) = true then if valF (figsOf l) = 0 then none else some (-valF (figsOf l), 1 + (figsOf l).length) else none
  | l => if okF (figsOf l) = true then some (valF (figsOf l), (figsOf l).length) else none
theorem numP_minus (l : List Nat) : numP (45 :: l) = if okF (figsOf l) = true then if valF (figsOf l) = 0 then none else some (-valF (figsOf l), 1 + (figsOf l).length) else none := rfl
theorem numP_plain {l : List Nat} (h : ([45] : List Nat).isPrefixOf l = false) : numP l = if okF (figsOf l) = true then some (valF (figsOf l), (figsOf l).length) else none := by
  unfold numP
  split
  · simp [List.isPrefixOf] at h
  · rfl
theorem pre_one {c : Nat} {l : List Nat} (h : ([c] : List Nat).isPrefixOf l = true) : ∃ r, l = c :: r := by
  obtain ⟨r, hr⟩ := List.isPrefixOf_iff_prefix.mp h
  exact ⟨r, hr.symm⟩
theorem figs_le (l : List Nat) : (figsOf l).length ≤ l.length := List.Sublist.length_le (List.takeWhile_sublist _)
theorem numP_le {l : List Nat} {z : Int} {k : Nat} (h : numP l = some (z, k)) : k ≤ l.length ∧ 0 < k := by
  have ne : ∀ ds, okF ds = true → 0 < ds.length := fun ds h => by
    unfold okF at h
    rw [Bool.and_eq_true, decide_eq_true_iff] at h
    exact List.length_pos_iff.mpr h.1
  unfold numP at h
  split at h
  · rename_i l
    have := figs_le l
    split at h
    · split at h
      · cases h
      · cases h
        rw [List.length_cons]
        omega
    · cases h
  · have := figs_le l
    split at h
    · rename_i hk
      cases h
      exact ⟨this, ne _ hk⟩
    · cases h
theorem drop_cons {t l : List Nat} {p c : Nat} (h : t.drop p = c :: l) : t.drop (p + 1) = l ∧ p < t.length := by
  refine ⟨?_, ?_⟩
  · rw [← List.drop_drop, h]
    rfl
  · rcases Nat.lt_or_ge p t.length with z | z
    · exact z
    · rw [List.drop_of_length_le z] at h
      cases h
def spNumb (C CT : Addr) : Sp := fun vs H Q E => ∃ (a : Addr) (t : List Nat) (p : Nat), vs = [.ref a] ∧ Rdr C H a t p ∧ p ≤ t.length ∧ t.length ≤ 90000 ∧ (∀ c ∈ t, c < 128) ∧
  (∀ z k, numP (t.drop p) = some (z, k) → ∀ H', But a H H' → Rdr C H' a t (p + k) → Q (.int z) H') ∧ (numP (t.drop p) = none → ∀ H', But a H H' → E (.ref CT) none H')
theorem scNumb : FnScope ["self", "number"] ["self"] (defScope sNumb) := ⟨rfl, rfl, rfl, by decide +kernel, rfl, by decide +kernel, by decide +kernel⟩
theorem ok_numb {f fT f0 fR C CT : Addr} {fd fdT fd0 fdR : FuncData} (T : ClsR K C) (F : Fun K "number" "Reader.number" sNumb f fd) (MT : Mn K C "takes" "Reader.takes" sTakes ["self", "word"] fT fdT) (GT : FnOk P w K mg base CX0 1 fT fdT ["self", "word"] (spTakes C))
    (M0 : Mn K C "number_from_nought" "Reader.number_from_nought" sFrom0 ["self"] f0 fd0) (G0 : FnOk P w K mg base (CXd P w) 2 f0 fd0 ["self"] (spFrom0 C CT))
    (MR : Mn K C "refuse" "Reader.refuse" sRefuse ["self", "wrong"] fR fdR) (GR : FnOk P w K mg base (CXd P w) 1 fR fdR ["self", "wrong"] (spRefuse C CT)) : FnOk P w K mg base (CXd P w) 3 f fd ["self"] (spNumb C CT) := by
  refine F.okD scNumb (fun vs H Q E h => ?_) (fun cdv A outer s H vs Q E hr h => ?_)
  · obtain ⟨a, t, p, rfl, _⟩ := h
    rfl
  · obtain ⟨a, t, p, rfl, R, hp, hz, hc, q1, q0⟩ := h
    obtain ⟨dx, e⟩ := id R
    refine ⟨_, pss_cons (ps_if (pt_not (pt_val (pe_meth (pv 0) T.cl MT.me GT (hr.mono (by decide)) MT.bd .nil pass0 (pa_cons pe_str pa_nil)))) (pss_one (ps_ret (pe_meth0 (pv 0) T.cl M0.me G0 hr M0.bd .nil pass_okD))) pss_nil)
      (pss_cons (ps_set (i := 1) scNumb.nd rfl (Or.inl rfl) (pe_meth0 (pv 0) T.cl M0.me G0 hr M0.bd .nil pass_okD))
      (pss_cons (ps_if (pt_cmpR op_eq (pv 1) pe_int (nomark _)) (pss_one (ps_expr (pe_meth (pv 0) T.cl MR.me GR (hr.mono (by decide)) MR.bd .nil pass_okD (pa_cons pe_str pa_nil)))) pss_nil)
      (pss_one (ps_ret (pe_un un_neg (pv 1)))))), ?_⟩
    refine ⟨_, rfl, a, dx, _, rfl, e, rfl, a, t, [45], p, by rw [lit_minus]; rfl, R, hp, by omega, fun hpre => ⟨_, rfl, iteT ?_⟩, fun hpre H1 b1 R1 => ⟨_, rfl, iteF ?_⟩⟩
    · have ep := numP_plain hpre
      refine ⟨_, rfl, a, dx, _, rfl, e, rfl, a, t, p, rfl, R, hp, by omega, hc, fun k1 H2 b2 R2 => ?_, fun k0 => ?_⟩
      · rw [if_pos k1] at ep
        exact q1 _ _ ep H2 b2 R2
      · rw [if_neg (by rw [k0]; decide)] at ep
        exact q0 ep H (But.refl a H)
    · obtain ⟨l, hl⟩ := pre_one hpre
      obtain ⟨d1, hlt⟩ := drop_cons hl
      obtain ⟨dx1, e1⟩ := id R1
      have ep := numP_minus l
      rw [← hl] at ep
      have hd1 : t.drop (p + [45].length) = l := d1
      refine ⟨_, rfl, a, dx1, _, rfl, e1, rfl, a, t, p + [45].length, rfl, R1, hlt, by omega, hc, fun k1 H2 b2 R2 => ?_, fun k0 => ?_⟩
      · rw [hd1] at k1 R2
        rw [if_pos k1] at ep
        rw [hd1]
        obtain ⟨dx2, e2⟩ := id R2
        refine ⟨_, rfl, rfl, _, rfl, ?_⟩
        by_cases z0 : valF (figsOf l) = 0
        · rw [if_pos z0] at ep
          refine itDP (by rw [z0]) ?_
          have hl2 := figs_le l
          have ll : l.length = t.length - (p + 1) := by rw [← d1, List.length_drop]
          exact ⟨_, rfl, a, dx2, _, rfl, e2, rfl, a, t, _, _, by rw [lit_any]; rfl, R2, by show p + 1 + _ ≤ 100000; omega, by decide +kernel, q0 ep H2 (b1.trans b2)⟩
        · rw [if_neg z0] at ep
          refine itDN (fun y => z0 (V.int.inj y)) ?_
          refine ⟨_, rfl, _, rfl, ?_⟩
          refine q1 _ _ ep H2 (b1.trans b2) ?_
          rw [← Nat.add_assoc]
          exact R2
      · rw [hd1] at k0
        rw [if_neg (by rw [k0]; decide)] at ep
        exact q0 ep H1 b1
end
section
def figW (w : List Nat) : List Nat := if w.take 1 = [45] then w.drop 1 else w
def numO (w : List Nat) : Option Int := if figW w = [] ∨ 60 < (figW w).length ∨ ((figW w).head? = some 48 ∧ w ≠ [48]) then none else if (figW w).all isFig = true then PySem.intText? (Sg w) else none
theorem figs_app {ds r : List Nat} (h : ∀ c ∈ ds, isFig c = true) (hr : ∀ c, r.head? = some c → isFig c = false) : figsOf (ds ++ r) = ds := by
  unfold figsOf
  induction ds with
  | nil =>
    cases r with
    | nil => rfl
    | cons c r =>
      rw [List.nil_append, List.takeWhile_cons, if_neg (by rw [hr c rfl]; decide)]
  | cons d ds ih =>
    rw [List.cons_append, List.takeWhile_cons, if_pos (h d List.mem_cons_self), ih fun c hc => h c (List.mem_cons_of_mem _ hc)]
theorem okF_iff {ds : List Nat} : okF ds = true ↔ ds ≠ [] ∧ ds.length ≤ 60 ∧ (ds.head? ≠ some 48 ∨ ds = [48]) := by
  unfold okF
  rw [Bool.and_eq_true, Bool.and_eq_true, Bool.or_eq_true, decide_eq_true_iff, decide_eq_true_iff, decide_eq_true_iff, decide_eq_true_iff]
theorem val_zero {ds : List Nat} (hf : ∀ c ∈ ds, isFig c = true) (k : okF ds = true) : valF ds = 0 ↔ ds = [48] := by
  have pos : ∀ (cs : List Nat) (a : Nat), 0 < a → 0 < cs.foldl (fun acc c => acc * 10 + (c - 48)) a := fun cs => by
    induction cs with
    | nil => exact fun a h => h
    | cons c cs ih => exact fun a h => ih _ (show 0 < a * 10 + (c - 48) by omega)
  obtain ⟨ne, _, hd⟩ := okF_iff.mp k
  constructor
  · intro z
    rcases hd with h | h
    · exfalso
      cases ds with
      | nil => exact ne rfl
      | cons c cs =>
        have c1 := fig_lt (hf c List.mem_cons_self)
        have c2 : c ≠ 48 := fun e => h (by rw [e]; rfl)
        unfold valF PySem.NumText.digitsVal at z
        have := pos cs (0 * 10 + (c - 48)) (by omega)
        rw [List.foldl_cons] at z
        omega
    · exact h
  · rintro rfl
    rfl
theorem neg_text {ds : List Nat} (hf : ∀ c ∈ ds, isFig c = true) (ne : ds ≠ []) (l : ds.length ≤ 60) : PySem.intText? (Sg (45 :: ds)) = some (-valF ds) := by
  have e : (Sg (45 :: ds)).cps.toList = 45 :: ds := by simp [Sg]
  exact PySem.intText_neg (x := Sg (45 :: ds)) e (fun c h => fig_lt (hf c h)) ne (by rw [Sg.len, List.length_cons]; omega)
theorem num_law {l : List Nat} {z : Int} {k : Nat} (h : numP l = some (z, k)) : numO (l.take k) = some z ∧ ∀ c ∈ l.take k, c ≠ 32 ∧ c ≠ 59 := by
  have nf : ∀ c, isFig c = true → c ≠ 32 ∧ c ≠ 59 ∧ c ≠ 45 := fun c f => by have := fig_lt f; omega
  have plain : ∀ l : List Nat, okF (figsOf l) = true → figW (figsOf l) = figsOf l ∧ numO (figsOf l) = some (valF (figsOf l)) ∧ l.take (figsOf l).length = figsOf l := fun l k => by
    obtain ⟨ne, few, hd⟩ := okF_iff.mp k
    have hf := figs_fig (l := l)
    have e1 : l.take (figsOf l).length = figsOf l := (congrArg (List.take (figsOf l).length) (figs_split l)).trans List.take_left
    generalize figsOf l = ds at *
    have w1 : figW ds = ds := by
      unfold figW
      rw [if_neg fun z => ?_]
      cases ds with
      | nil => exact ne rfl
      | cons c cs =>
        have : c = 45 := by simpa using z
        exact (nf c (hf c List.mem_cons_self)).2.2 this
    refine ⟨w1, ?_, e1⟩
    unfold numO
    rw [w1, if_neg, if_pos (List.all_eq_true.mpr fun c hc => hf c hc), val_text hf ne few]
    rintro (z | z | ⟨z1, z2⟩)
    · exact ne z
    · omega
    · rcases hd with y | y
      · exact y z1
      · exact z2 y
  unfold numP at h
  split at h
  · rename_i l
    split at h
    · rename_i k
      split at h
      · cases h
      · rename_i vz
        cases h
        obtain ⟨w1, _, e1⟩ := plain l k
        obtain ⟨ne, few, hd⟩ := okF_iff.mp k
        have hf := figs_fig (l := l)
        rw [Nat.add_comm, List.take_succ_cons, e1]
        have n48 : figsOf l ≠ [48] := fun z => vz ((val_zero hf k).mpr z)
        refine ⟨?_, fun c hc => ?_⟩
        · unfold numO
          have w2 : figW (45 :: figsOf l) = figsOf l := rfl
          rw [w2, if_neg, if_pos (List.all_eq_true.mpr fun c hc => hf c hc), neg_text hf ne few]
          rintro (z | z | ⟨z1, _⟩)
          · exact ne z
          · omega
          · rcases hd with y | y
            · exact y z1
            · exact n48 y
        · rcases List.mem_cons.mp hc with rfl | hc
          · decide
          · have := nf c (hf c hc)
            exact ⟨this.1, this.2.1⟩
    · cases h
  · split at h
    · rename_i k
      cases h
      obtain ⟨_, n1, e1⟩ := plain l k
      rw [e1]
      exact ⟨n1, fun c hc => by have := nf c (figs_fig c hc); exact ⟨this.1, this.2.1⟩⟩
    · cases h
end
section
theorem num_prog {w r : List Nat} {z : Int} (h : numO w = some z) (hr : ∀ c, r.head? = some c → isFig c = false) : numP (w ++ r) = some (z, w.length) := by
  unfold numO at h
  split at h
  · cases h
  · rename_i hn
    split at h
    · rename_i ha
      have hf : ∀ c ∈ figW w, isFig c = true := fun c hc => List.all_eq_true.mp ha c hc
      have ne : figW w ≠ [] := fun z => hn (.inl z)
      have few : (figW w).length ≤ 60 := by
        rcases Nat.lt_or_ge 60 (figW w).length with y | y
        · exact absurd (.inr (.inl y)) hn
        · exact y
      by_cases hm : w.take 1 = [45]
      · have ew : figW w = w.drop 1 := if_pos hm
        obtain ⟨ds, rfl⟩ : ∃ ds, w = 45 :: ds := by
          cases w with
          | nil => cases hm
          | cons c cs =>
            have : c = 45 := by simpa using hm
            exact ⟨cs, by rw [this]⟩
        have e : figW (45 :: ds) = ds := ew
        rw [e] at hf ne few hn
        have k : okF ds = true := okF_iff.mpr ⟨ne, few, .inl fun z => hn (.inr (.inr ⟨z, by simp⟩))⟩
        have v0 : valF ds ≠ 0 := fun y => by
          have := (val_zero hf k).mp y
          exact hn (.inr (.inr ⟨by rw [this]; rfl, by simp⟩))
        rw [neg_text hf ne few] at h
        cases h
        rw [List.cons_append, numP_minus, figs_app hf hr, if_pos k, if_neg v0, List.length_cons, Nat.add_comm]
      · have ew : figW w = w := if_neg hm
        rw [ew] at hf ne few hn
        have k : okF w = true := okF_iff.mpr ⟨ne, few, by
          by_cases h48 : w = [48]
          · exact .inr h48
          · exact .inl fun z => hn (.inr (.inr ⟨z, h48⟩))⟩
        rw [val_text hf ne few] at h
        cases h
        have np : ([45] : List Nat).isPrefixOf (w ++ r) = false := by
          cases w with
          | nil => exact absurd rfl ne
          | cons c cs =>
            have := fig_lt (hf c List.mem_cons_self)
            show ((45 == c) && _) = false
            rw [show (45 == c) = false from beq_eq_false_iff_ne.mpr (by omega)]
            rfl
        rw [numP_plain np, figs_app hf hr, if_pos k]
    · cases h
end
inductive Tr where
  | nd (i : Nat) (w : Option Int) (bs : List Tr)
def Tr.root : Tr → Nat
  | .nd i _ _ => i
def dWish : Option Int → PyData
  | none => .none
  | some c => .int c
def vWish : Option Int → V
  | none => .non
  | some c => .int c
def tmBase : Option Int → PyData
  | none => .tuple [.str "one"]
  | some c => .tuple [.str "hue", .int c]
mutual
def Tr.dat : Tr → PyData
  | .nd _ w bs => .tuple [dWish w, .list (Tr.dats bs)]
def Tr.dats : List Tr → List PyData
  | [] => []
  | t :: ts => t.dat :: Tr.dats ts
end
mutual
def Tr.term : Tr → PyData
  | .nd _ w bs => Tr.fold (tmBase w) bs
def Tr.fold (a : PyData) : List Tr → PyData
  | [] => a
  | t :: ts => Tr.fold (.tuple [.str "both", a, .tuple [.str "near", t.term]]) ts
end
mutual
def Tr.knots : Tr → Nat
  | .nd _ _ bs => 1 + Tr.knotss bs
def Tr.knotss : List Tr → Nat
  | [] => 0
  | t :: ts => t.knots + Tr.knotss ts
end
mutual
def Tr.deep : Tr → Nat
  | .nd _ _ bs => 1 + Tr.deeps bs
def Tr.deeps : List Tr → Nat
  | [] => 0
  | t :: ts => max t.deep (Tr.deeps ts)
end
mutual
def Tr.labs : Tr → List Nat
  | .nd i _ bs => i :: Tr.labss bs
def Tr.labss : List Tr → List Nat
  | [] => []
  | t :: ts => t.labs ++ Tr.labss ts
end
mutual
def Tr.add (j k : Nat) (wk : Option Int) : Tr → Tr
  | .nd i w bs => .nd i w (Tr.adds j k wk bs ++ if i = j then [.nd k wk []] else [])
def Tr.adds (j k : Nat) (wk : Option Int) : List Tr → List Tr
  | [] => []
  | t :: ts => t.add j k wk :: Tr.adds j k wk ts
end
mutual
def Tr.ok (ws : Nat → Option Int) (ch : Nat → List Nat) : Tr → Prop
  | .nd i w bs => w = ws i ∧ ch i = bs.map Tr.root ∧ Tr.oks ws ch bs
def Tr.oks (ws : Nat → Option Int) (ch : Nat → List Nat) : List Tr → Prop
  | [] => True
  | t :: ts => t.ok ws ch ∧ Tr.oks ws ch ts
end
theorem Tr.root_add (j k : Nat) (wk : Option Int) : ∀ t : Tr, (t.add j k wk).root = t.root
  | .nd i w bs => by rw [Tr.add]; rfl
theorem Tr.roots_adds (j k : Nat) (wk : Option Int) : ∀ ts : List Tr, (Tr.adds j k wk ts).map Tr.root = ts.map Tr.root
  | [] => by rw [Tr.adds]
  | t :: ts => by rw [Tr.adds, List.map_cons, List.map_cons, Tr.root_add, Tr.roots_adds j k wk ts]
theorem Tr.oks_app {ws : Nat → Option Int} {ch : Nat → List Nat} : ∀ {a b : List Tr}, Tr.oks ws ch a → Tr.oks ws ch b → Tr.oks ws ch (a ++ b)
  | [], b, _, h => h
  | t :: a, b, h, h2 => by
    rw [Tr.oks] at h
    rw [List.cons_append, Tr.oks]
    exact ⟨h.1, Tr.oks_app h.2 h2⟩
def hung (ch : Nat → List Nat) (j k : Nat) : Nat → List Nat := fun i => if i = j then ch j ++ [k] else ch i
mutual
theorem Tr.ok_add {ws : Nat → Option Int} {ch : Nat → List Nat} {j k : Nat} (hj : k ≠ j) (hk : ch k = []) : ∀ t : Tr, t.ok ws ch → (t.add j k (ws k)).ok ws (hung ch j k)
  | .nd i w bs, h => by
    rw [Tr.ok] at h
    rw [Tr.add, Tr.ok]
    refine ⟨h.1, ?_, Tr.oks_app (Tr.oks_adds hj hk bs h.2.2) ?_⟩
    · rw [List.map_append, Tr.roots_adds, ← h.2.1]
      unfold hung
      by_cases e : i = j
      · subst e
        rw [if_pos rfl, if_pos rfl]
        rfl
      · rw [if_neg e, if_neg e]
        simp
    · by_cases e : i = j
      · rw [if_pos e, Tr.oks, Tr.oks, Tr.ok, Tr.oks]
        refine ⟨⟨rfl, ?_, trivial⟩, trivial⟩
        unfold hung
        rw [if_neg hj, hk]
        rfl
      · rw [if_neg e, Tr.oks]
        trivial
theorem Tr.oks_adds {ws : Nat → Option Int} {ch : Nat → List Nat} {j k : Nat} (hj : k ≠ j) (hk : ch k = []) : ∀ ts : List Tr, Tr.oks ws ch ts → Tr.oks ws (hung ch j k) (Tr.adds j k (ws k) ts)
  | [], _ => by rw [Tr.adds, Tr.oks]; trivial
  | t :: ts, h => by
    rw [Tr.oks] at h
    rw [Tr.adds, Tr.oks]
    exact ⟨Tr.ok_add hj hk t h.1, Tr.oks_adds hj hk ts h.2⟩
end
theorem Tr.labss_app : ∀ a b : List Tr, Tr.labss (a ++ b) = Tr.labss a ++ Tr.labss b
  | [], b => by rw [Tr.labss]; rfl
  | t :: a, b => by rw [List.cons_append, Tr.labss, Tr.labss, Tr.labss_app a b, List.append_assoc]
theorem Tr.knotss_app : ∀ a b : List Tr, Tr.knotss (a ++ b) = Tr.knotss a + Tr.knotss b
  | [], b => by rw [Tr.knotss, List.nil_append, Nat.zero_add]
  | t :: a, b => by rw [List.cons_append, Tr.knotss, Tr.knotss, Tr.knotss_app a b, Nat.add_assoc]
mutual
theorem Tr.count_add (j k : Nat) (wk : Option Int) (x : Nat) : ∀ t : Tr, (t.add j k wk).labs.count x = t.labs.count x + if x = k then t.labs.count j else 0
  | .nd i w bs => by
    rw [Tr.add, Tr.labs, Tr.labs, Tr.labss_app, List.count_cons, List.count_cons, List.count_cons, List.count_append, Tr.counts_adds j k wk x bs]
    by_cases e : i = j
    · subst e
      rw [if_pos rfl, Tr.labss, Tr.labss, Tr.labs, Tr.labss, List.append_nil, List.count_cons, List.count_nil]
      by_cases e2 : x = k
      · subst e2; simp; omega
      · simp [e2, Ne.symm e2]
    · rw [if_neg e, Tr.labss, List.count_nil]
      by_cases e2 : x = k
      · subst e2; simp [e]; omega
      · simp [e2]
theorem Tr.counts_adds (j k : Nat) (wk : Option Int) (x : Nat) : ∀ ts : List Tr, (Tr.labss (Tr.adds j k wk ts)).count x = (Tr.labss ts).count x + if x = k then (Tr.labss ts).count j else 0
  | [] => by rw [Tr.adds, Tr.labss]; simp
  | t :: ts => by
    rw [Tr.adds, Tr.labss, Tr.labss, List.count_append, List.count_append, List.count_append, Tr.count_add j k wk x t, Tr.counts_adds j k wk x ts]
    split <;> omega
end
mutual
theorem Tr.knots_add (j k : Nat) (wk : Option Int) : ∀ t : Tr, (t.add j k wk).knots = t.knots + t.labs.count j
  | .nd i w bs => by
    rw [Tr.add, Tr.knots, Tr.knots, Tr.labs, Tr.knotss_app, List.count_cons, Tr.knotss_adds j k wk bs]
    by_cases e : i = j
    · subst e
      rw [if_pos rfl, Tr.knotss, Tr.knotss, Tr.knots, Tr.knotss]
      simp; omega
    · rw [if_neg e, Tr.knotss]
      simp [e]; omega
theorem Tr.knotss_adds (j k : Nat) (wk : Option Int) : ∀ ts : List Tr, Tr.knotss (Tr.adds j k wk ts) = Tr.knotss ts + (Tr.labss ts).count j
  | [] => by rw [Tr.adds, Tr.labss]; simp
  | t :: ts => by
    rw [Tr.adds, Tr.knotss, Tr.knotss, Tr.labss, List.count_append, Tr.knots_add j k wk t, Tr.knotss_adds j k wk ts]
    omega
end
theorem Tr.knots_pos : ∀ t : Tr, 1 ≤ t.knots
  | .nd _ _ bs => by rw [Tr.knots]; omega
theorem Tr.deep_pos : ∀ t : Tr, 1 ≤ t.deep
  | .nd _ _ bs => by rw [Tr.deep]; omega
theorem Tr.deeps_get {d : Nat} : ∀ {ts : List Tr} {i : Nat} {t : Tr}, Tr.deeps ts ≤ d → ts[i]? = some t → t.deep ≤ d
  | t' :: ts, 0, t, h, e => by
    rw [Tr.deeps] at h
    cases e
    omega
  | t' :: ts, i + 1, t, h, e => by
    rw [Tr.deeps] at h
    exact Tr.deeps_get (ts := ts) (i := i) (by omega) (by simpa using e)
theorem Tr.knotss_get {d : Nat} : ∀ {ts : List Tr} {i : Nat} {t : Tr}, Tr.knotss ts ≤ d → ts[i]? = some t → t.knots ≤ d
  | t' :: ts, 0, t, h, e => by
    rw [Tr.knotss] at h
    cases e
    omega
  | t' :: ts, i + 1, t, h, e => by
    rw [Tr.knotss] at h
    exact Tr.knotss_get (ts := ts) (i := i) (by omega) (by simpa using e)
theorem Tr.knotss_len : ∀ ts : List Tr, ts.length ≤ Tr.knotss ts
  | [] => Nat.zero_le _
  | t :: ts => by
    rw [Tr.knotss, List.length_cons]
    have := Tr.knots_pos t
    have := Tr.knotss_len ts
    omega
theorem Tr.dats_len : ∀ ts : List Tr, (Tr.dats ts).length = ts.length
  | [] => by rw [Tr.dats]; rfl
  | t :: ts => by rw [Tr.dats, List.length_cons, List.length_cons, Tr.dats_len ts]
theorem Tr.dats_get : ∀ (ts : List Tr) (i : Nat), (Tr.dats ts)[i]? = (ts[i]?).map Tr.dat
  | [], i => by rw [Tr.dats]; simp
  | t :: ts, 0 => by rw [Tr.dats]; rfl
  | t :: ts, i + 1 => by rw [Tr.dats]; simpa using Tr.dats_get ts i
theorem strOk_one : PyData.strOk "one" = true := by decide +kernel
theorem strOk_hue : PyData.strOk "hue" = true := by decide +kernel
theorem strOk_both : PyData.strOk "both" = true := by decide +kernel
theorem strOk_near : PyData.strOk "near" = true := by decide +kernel
theorem lay_base (w : Option Int) : (tmBase w).canLay0 = true ∧ (tmBase w).depth = 1 := by
  cases w with
  | none => simp [tmBase, PyData.canLay0, PyData.canLayAll0, PyData.depth, PyData.depthAll, strOk_one]
  | some c => simp [tmBase, PyData.canLay0, PyData.canLayAll0, PyData.depth, PyData.depthAll, strOk_hue]
theorem lay_wish (w : Option Int) : (dWish w).canLay0 = true ∧ (dWish w).depth = 0 := by
  cases w <;> simp [dWish, PyData.canLay0, PyData.depth]
section
theorem ofS_list (x : String) : (Str.ofString x).cps.toList = x.toList.map Char.toNat := by
  rw [Str.ofString_eq_toList]
def dgs (n : Nat) : List Nat := (Nat.toDigits 10 n).map Char.toNat
theorem dig_char : ∀ d, d < 10 → (Nat.digitChar d).toNat = 48 + d := by decide
theorem dgs_small {n : Nat} (h : n < 10) : dgs n = [48 + n] := by
  unfold dgs
  rw [Nat.toDigits_of_lt_base h, List.map_cons, dig_char n h]
  rfl
theorem dgs_more {n : Nat} (h : 10 ≤ n) : dgs n = dgs (n / 10) ++ [48 + n % 10] := by
  unfold dgs
  rw [Nat.toDigits_of_base_le (by decide) h, List.map_append, List.map_cons, dig_char _ (Nat.mod_lt _ (by decide))]
  rfl
theorem codes_nat (n : Nat) : codes (n : Int) = dgs n := by
  unfold codes dgs
  rw [ofS_list]
  congr 1
  show (toString (Int.ofNat n)).toList = _
  simp [toString, Int.repr, Nat.repr]
theorem codes_neg (n : Nat) (h : 0 < n) : codes (-(n : Int)) = 45 :: dgs n := by
  unfold codes dgs
  rw [ofS_list]
  obtain ⟨m, rfl⟩ : ∃ m, n = m + 1 := ⟨n - 1, by omega⟩
  show (toString (Int.negSucc m)).toList.map _ = _
  simp [toString, Int.repr, Nat.repr]
theorem dgs_fig : ∀ n, ∀ c ∈ dgs n, isFig c = true := by
  intro n
  induction n using Nat.strongRecOn with
  | _ n ih =>
    by_cases h : n < 10
    · rw [dgs_small h]
      intro c hc
      rw [List.mem_singleton.mp hc]
      unfold isFig
      rw [decide_eq_true (by omega), decide_eq_true (by omega)]
      rfl
    · rw [dgs_more (by omega)]
      intro c hc
      rcases List.mem_append.mp hc with hc | hc
      · exact ih _ (by omega) c hc
      · rw [List.mem_singleton.mp hc]
        unfold isFig
        rw [decide_eq_true (by omega), decide_eq_true (by omega)]
        rfl
theorem dgs_val : ∀ n, PySem.NumText.digitsVal (dgs n) = n := by
  intro n
  induction n using Nat.strongRecOn with
  | _ n ih =>
    by_cases h : n < 10
    · rw [dgs_small h]
      unfold PySem.NumText.digitsVal
      simp
    · rw [dgs_more (by omega)]
      have := ih (n / 10) (by omega)
      unfold PySem.NumText.digitsVal at this ⊢
      rw [List.foldl_append, this]
      simp
      omega
theorem dgs_ne (n : Nat) : dgs n ≠ [] := by
  by_cases h : n < 10
  · rw [dgs_small h]; simp
  · rw [dgs_more (by omega)]; simp
theorem dgs_head : ∀ n, 0 < n → (dgs n).head? ≠ some 48 := by
  intro n
  induction n using Nat.strongRecOn with
  | _ n ih =>
    intro h0
    by_cases h : n < 10
    · rw [dgs_small h]
      simp
      omega
    · rw [dgs_more (by omega)]
      have := ih (n / 10) (by omega) (by omega)
      cases e : dgs (n / 10) with
      | nil => exact absurd e (dgs_ne _)
      | cons c r => rw [e] at this; exact this
theorem dgs_len : ∀ k n, n < 10 ^ k → 0 < k → (dgs n).length ≤ k := by
  intro k
  induction k with
  | zero => intro n _ h; omega
  | succ k ih =>
    intro n hn _
    by_cases h : n < 10
    · rw [dgs_small h]; simp
    · rw [dgs_more (by omega), List.length_append]
      rcases Nat.eq_zero_or_pos k with rfl | hk
      · simp at hn; omega
      · have := ih (n / 10) (by rw [Nat.pow_succ] at hn; omega) hk
        simp
        exact this
theorem dgs_uniq : ∀ (m : Nat) (ds : List Nat), ds.length ≤ m → (∀ c ∈ ds, isFig c = true) → ds ≠ [] → (ds.head? ≠ some 48 ∨ ds = [48]) → dgs (PySem.NumText.digitsVal ds) = ds := by
  intro m
  induction m with
  | zero =>
    intro ds hl _ hne
    exact absurd (List.length_eq_zero_iff.mp (Nat.le_zero.mp hl)) hne
  | succ m ih =>
    intro ds hl hf hne h0
    obtain ⟨init, c, rfl⟩ : ∃ init c, ds = init ++ [c] := ⟨ds.dropLast, ds.getLast hne, (List.dropLast_concat_getLast hne).symm⟩
    have hc := hf c (by simp)
    unfold isFig at hc
    rw [Bool.and_eq_true, decide_eq_true_iff, decide_eq_true_iff] at hc
    have ev : PySem.NumText.digitsVal (init ++ [c]) = PySem.NumText.digitsVal init * 10 + (c - 48) := by
      unfold PySem.NumText.digitsVal
      rw [List.foldl_append]
      rfl
    cases hi : init with
    | nil =>
      rw [hi] at ev
      have : PySem.NumText.digitsVal [] = 0 := rfl
      rw [this] at ev
      rw [ev, dgs_small (by omega)]
      simp
      omega
    | cons d r =>
      have ne : init ≠ [] := by rw [hi]; simp
      have hd : init.head? ≠ some 48 := by
        rcases h0 with h0 | h0
        · rw [hi] at h0 ⊢; exact h0
        · rw [hi] at h0; simp at h0
      have hi' := ih init (by rw [List.length_append] at hl; simp at hl; omega) (fun x hx => hf x (by simp [hx])) ne (.inl hd)
      have pos : 0 < PySem.NumText.digitsVal init := by
        rcases Nat.eq_zero_or_pos (PySem.NumText.digitsVal init) with z | z
        · rw [z, dgs_small (by decide)] at hi'
          rw [← hi'] at hd
          simp at hd
        · exact z
      rw [← hi, ev, dgs_more (by omega)]
      have e1 : (PySem.NumText.digitsVal init * 10 + (c - 48)) / 10 = PySem.NumText.digitsVal init := by omega
      have e2 : (PySem.NumText.digitsVal init * 10 + (c - 48)) % 10 = c - 48 := by omega
      rw [e1, e2, hi', show 48 + (c - 48) = c by omega]
theorem dval_lt : ∀ (m : Nat) (ds : List Nat), ds.length ≤ m → (∀ c ∈ ds, isFig c = true) → PySem.NumText.digitsVal ds < 10 ^ ds.length := by
  intro m
  induction m with
  | zero =>
    intro ds hl _
    rw [List.length_eq_zero_iff.mp (Nat.le_zero.mp hl)]
    decide
  | succ m ih =>
    intro ds hl hf
    by_cases hne : ds = []
    · rw [hne]; decide
    obtain ⟨init, c, rfl⟩ : ∃ init c, ds = init ++ [c] := ⟨ds.dropLast, ds.getLast hne, (List.dropLast_concat_getLast hne).symm⟩
    have hc := fig_lt (hf c (by simp))
    have hi := ih init (by rw [List.length_append] at hl; simp at hl; omega) fun x hx => hf x (by simp [hx])
    have ev : PySem.NumText.digitsVal (init ++ [c]) = PySem.NumText.digitsVal init * 10 + (c - 48) := by
      unfold PySem.NumText.digitsVal
      rw [List.foldl_append]
      rfl
    rw [ev, List.length_append, List.length_singleton, Nat.pow_succ]
    omega
theorem figs_take (m : List Nat) : m.take (figsOf m).length = figsOf m := by
  have : m.take (figsOf m).length = (figsOf m ++ m.dropWhile isFig).take (figsOf m).length := by rw [← figs_split]
  rw [this, List.take_append_of_le_length (Nat.le_refl _), List.take_length]
def Fit (z : Int) : Prop := z.natAbs < 10 ^ 60
theorem okF_dgs {n : Nat} (h : n < 10 ^ 60) : okF (dgs n) = true := by
  rw [okF_iff]
  refine ⟨dgs_ne n, dgs_len 60 n h (by decide), ?_⟩
  rcases Nat.eq_zero_or_pos n with rfl | h0
  · exact .inr (dgs_small (by decide))
  · exact .inl (dgs_head n h0)
theorem valF_dgs (n : Nat) : valF (dgs n) = (n : Int) := by
  unfold valF
  rw [dgs_val]
theorem codes_asc {z : Int} : ∀ c ∈ codes z, c < 128 := by
  have hd : ∀ n, ∀ c ∈ dgs n, c < 128 := fun n c hc => by
    have := fig_lt (dgs_fig n c hc)
    omega
  rcases Int.lt_or_le z 0 with h | h
  · obtain ⟨n, rfl⟩ : ∃ n : Nat, z = -(n : Int) := ⟨z.natAbs, by omega⟩
    rw [codes_neg n (by omega)]
    intro c hc
    rcases List.mem_cons.mp hc with rfl | hc
    · decide
    · exact hd n c hc
  · obtain ⟨n, rfl⟩ := Int.eq_ofNat_of_zero_le h
    rw [codes_nat]
    exact hd n
theorem codes_len {z : Int} (h : Fit z) : (codes z).length ≤ 61 := by
  unfold Fit at h
  rcases Int.lt_or_le z 0 with h0 | h0
  · obtain ⟨n, rfl⟩ : ∃ n : Nat, z = -(n : Int) := ⟨z.natAbs, by omega⟩
    rw [codes_neg n (by omega), List.length_cons]
    have := dgs_len 60 n (by omega) (by decide)
    omega
  · obtain ⟨n, rfl⟩ := Int.eq_ofNat_of_zero_le h0
    rw [codes_nat]
    have := dgs_len 60 n (by omega) (by decide)
    omega
theorem codes_ne (z : Int) : codes z ≠ [] := by
  rcases Int.lt_or_le z 0 with h0 | h0
  · obtain ⟨n, rfl⟩ : ∃ n : Nat, z = -(n : Int) := ⟨z.natAbs, by omega⟩
    rw [codes_neg n (by omega)]
    simp
  · obtain ⟨n, rfl⟩ := Int.eq_ofNat_of_zero_le h0
    rw [codes_nat]
    exact dgs_ne n
theorem numP_codes {z : Int} {r : List Nat} (h : Fit z) (hr : ∀ c, r.head? = some c → isFig c = false) : numP (codes z ++ r) = some (z, (codes z).length) := by
  unfold Fit at h
  rcases Int.lt_or_le z 0 with h0 | h0
  · obtain ⟨n, rfl⟩ : ∃ n : Nat, z = -(n : Int) := ⟨z.natAbs, by omega⟩
    rw [codes_neg n (by omega), List.cons_append, numP_minus, figs_app (dgs_fig n) hr, if_pos (okF_dgs (by omega)), valF_dgs, if_neg (by omega), List.length_cons, Nat.add_comm]
  · obtain ⟨n, rfl⟩ := Int.eq_ofNat_of_zero_le h0
    have hp : ([45] : List Nat).isPrefixOf (dgs n ++ r) = false := by
      cases e : dgs n with
      | nil => exact absurd e (dgs_ne n)
      | cons c s =>
        have := fig_lt (dgs_fig n c (by rw [e]; exact List.mem_cons_self))
        show ((45 == c) && _) = false
        rw [show (45 == c) = false from beq_eq_false_iff_ne.mpr (by omega)]
        rfl
    rw [codes_nat, numP_plain hp, figs_app (dgs_fig n) hr, if_pos (okF_dgs (by omega)), valF_dgs]
theorem codes_numP {l : List Nat} {z : Int} {k : Nat} (h : numP l = some (z, k)) : l.take k = codes z ∧ Fit z := by
  have key : ∀ m : List Nat, okF (figsOf m) = true → dgs (PySem.NumText.digitsVal (figsOf m)) = figsOf m ∧ PySem.NumText.digitsVal (figsOf m) < 10 ^ 60 := fun m ok => by
    obtain ⟨o1, o2, o3⟩ := okF_iff.mp ok
    refine ⟨dgs_uniq _ _ (Nat.le_refl _) figs_fig o1 o3, ?_⟩
    exact Nat.lt_of_lt_of_le (dval_lt _ _ (Nat.le_refl _) figs_fig) (Nat.pow_le_pow_right (by decide) o2)
  cases l with
  | nil => exact absurd (show numP [] = none from by decide +kernel) (by rw [h]; simp)
  | cons c m =>
    by_cases hm : c = 45
    · subst hm
      rw [numP_minus] at h
      split at h
      case isFalse => cases h
      case isTrue ok =>
        split at h
        case isTrue => cases h
        case isFalse nz =>
          cases h
          obtain ⟨k1, k2⟩ := key m ok
          have : 0 < PySem.NumText.digitsVal (figsOf m) := by unfold valF at nz; omega
          refine ⟨?_, by unfold Fit valF; omega⟩
          unfold valF
          rw [codes_neg _ this, k1, Nat.add_comm, List.take_succ_cons]
          rw [figs_take]
    · have np : ([45] : List Nat).isPrefixOf (c :: m) = false := by
        show ((45 == c) && _) = false
        rw [show (45 == c) = false from beq_eq_false_iff_ne.mpr (by omega)]
        rfl
      rw [numP_plain np] at h
      split at h
      case isFalse => cases h
      case isTrue ok =>
        cases h
        obtain ⟨k1, k2⟩ := key _ ok
        refine ⟨?_, by unfold Fit valF; omega⟩
        unfold valF
        rw [codes_nat, k1]
        rw [figs_take]
end
section
open TM
def frT (a b : Int) : List Nat := codes a ++ (if b = 1 then [] else 47 :: codes b)
def lfT : Lf → List Nat
  | .one => [111, 110, 101]
  | .hue c => [104, 117, 101, 32] ++ codes c
  | .same => [115, 97, 109, 101]
  | .tie => [116, 105, 101]
  | .all => [97, 108, 108]
def unT : Un → List Nat
  | .near => [110, 101, 97, 114, 32]
  | .rows => [114, 111, 119, 115, 32]
  | .on => [111, 110, 32]
  | .turned => [116, 117, 114, 110, 101, 100, 32]
  | .many a b => frT a b ++ [32, 111, 102, 32]
def biT : Bi → List Nat
  | .both => [32, 42, 32]
  | .thn => [32, 116, 104, 101, 110, 32]
  | .meet => [32, 109, 101, 101, 116, 32]
  | .plus => [32, 43, 32]
def teT : Te → List Nat
  | .lf k => lfT k
  | .un k t => unT k ++ teT t
  | .bi k t u => 40 :: (teT t ++ (biT k ++ (teT u ++ [41])))
def dep : Te → Nat
  | .lf _ => 1
  | .un _ t => dep t + 1
  | .bi _ t u => max (dep t) (dep u) + 1
def pTake (y l : List Nat) : Option (List Nat) := if y.isPrefixOf l = true then some (l.drop y.length) else none
def pNum0 (l : List Nat) : Option (Int × List Nat) := if okF (figsOf l) = true then some (valF (figsOf l), l.drop (figsOf l).length) else none
def pNum (l : List Nat) : Option (Int × List Nat) := match numP l with
  | none => none
  | some (z, k) => some (z, l.drop k)
def pFrac (l : List Nat) : Option ((Int × Int) × List Nat) := match pNum l with
  | none => none
  | some (a, r) => match pTake [47] r with
    | none => some ((a, 1), r)
    | some r' => match pNum0 r' with
      | none => none
      | some (b, r'') => if b < 2 ∨ M11.G a b ≠ 1 then none else some ((a, b), r'')
def leafs (s : Bool) : List Lf := if s = true then [.same, .tie, .all] else [.one]
def ones (s : Bool) : List (Un × Bool) := if s = true then [(.on, false), (.turned, true)] else [(.near, false), (.rows, true)]
def twos (s : Bool) : List Bi := if s = true then [.thn, .meet, .plus] else [.both, .plus]
def pFirst {α : Type} (f : α → List Nat) : List α → List Nat → Option (α × List Nat)
  | [], _ => none
  | k :: ks, l => match pTake (f k) l with
    | some r => some (k, r)
    | none => pFirst f ks l
def pT : Nat → Bool → List Nat → Option (Te × List Nat)
  | 0, _, _ => none
  | n + 1, s, l => match pFirst lfT (leafs s) l with
    | some (k, r) => some (.lf k, r)
    | none => match pFirst (fun x => unT x.1) (ones s) l with
      | some (k, r) => match pT n k.2 r with
        | some (t, r') => some (.un k.1 t, r')
        | none => none
      | none => match (if s = true then none else pTake [104, 117, 101, 32] l) with
        | some r => match pNum0 r with
          | some (c, r') => some (.lf (.hue c), r')
          | none => none
        | none => match pTake [40] l with
          | some r => match pT n s r with
            | none => none
            | some (t, r1) => match pFirst biT (twos s) r1 with
              | none => none
              | some (k, r2) => match pT n s r2 with
                | none => none
                | some (u, r3) => match pTake [41] r3 with
                  | none => none
                  | some r4 => some (.bi k t u, r4)
          | none => match pFrac l with
            | none => none
            | some (f, r) => match pTake [32, 111, 102, 32] r with
              | none => none
              | some r1 => match pT n s r1 with
                | some (t, r2) => some (.un (.many f.1 f.2) t, r2)
                | none => none
theorem pTake_app (y r : List Nat) : pTake y (y ++ r) = some r := by
  unfold pTake
  rw [pre_app, if_pos rfl, List.drop_left]
theorem pre_any' {y l : List Nat} (h : y.isPrefixOf l = true) : ∃ r, l = y ++ r := by
  obtain ⟨r, e⟩ := List.isPrefixOf_iff_prefix.mp h
  exact ⟨r, e.symm⟩
theorem pTake_is {y l r : List Nat} (h : pTake y l = some r) : l = y ++ r := by
  unfold pTake at h
  split at h
  case isTrue hp =>
    obtain ⟨z, rfl⟩ := pre_any' hp
    rw [List.drop_left] at h
    rw [Option.some.inj h]
  case isFalse => cases h
theorem pTake_hd {x c : Nat} {y l : List Nat} (h : x ≠ c) : pTake (x :: y) (c :: l) = none := by
  unfold pTake
  rw [if_neg]
  show ¬((x == c) && _) = true
  rw [show (x == c) = false from beq_eq_false_iff_ne.mpr h]
  simp
theorem pTake_cons {x : Nat} {y l : List Nat} : pTake (x :: y) (x :: l) = pTake y l := by
  unfold pTake
  show (if ((x == x) && y.isPrefixOf l) = true then _ else _) = _
  rw [show (x == x) = true from beq_self_eq_true x, Bool.true_and]
  rfl
theorem pTake_len {y l r : List Nat} (h : pTake y l = some r) : r.length + y.length = l.length := by
  rw [pTake_is h, List.length_append, Nat.add_comm]
def NF (r : List Nat) : Prop := ∀ c, r.head? = some c → isFig c = false
theorem pNum_codes {z : Int} {r : List Nat} (h : Fit z) (hr : NF r) : pNum (codes z ++ r) = some (z, r) := by
  unfold pNum
  rw [numP_codes h hr]
  show some (z, (codes z ++ r).drop (codes z).length) = _
  rw [List.drop_left]
theorem pNum0_codes {z : Int} {r : List Nat} (h0 : 0 ≤ z) (h : Fit z) (hr : NF r) : pNum0 (codes z ++ r) = some (z, r) := by
  obtain ⟨n, rfl⟩ := Int.eq_ofNat_of_zero_le h0
  unfold Fit at h
  unfold pNum0
  rw [codes_nat, figs_app (dgs_fig n) hr, if_pos (okF_dgs (by omega)), valF_dgs, List.drop_left]
theorem pFrac_txt {a b : Int} {r : List Nat} (h : FrOk a b) (hr : NF r) (hs : r.head? ≠ some 47) : pFrac (frT a b ++ r) = some ((a, b), r) := by
  have fa : Fit a := h.top
  have fb : Fit b := by
    have := h.pos
    have := h.bot
    have e' : ((10 : Int) ^ 60) = ((10 ^ 60 : Nat) : Int) := by decide
    unfold Fit
    omega
  unfold pFrac frT
  by_cases hb : b = 1
  · subst hb
    rw [if_pos rfl, List.append_nil, pNum_codes fa hr]
    have : pTake [47] r = none := by
      cases r with
      | nil => rfl
      | cons c l => exact pTake_hd (fun z => hs (by rw [← z]; rfl))
    simp only [this]
  · rw [if_neg hb, List.append_assoc, pNum_codes fa (by intro c hc; cases hc; decide)]
    have := h.pos
    simp only [List.cons_append, show pTake [47] (47 :: (codes b ++ r)) = some (codes b ++ r) from pTake_app [47] _, pNum0_codes (z := b) (by omega) fb hr]
    rw [if_neg]
    rintro (z | z)
    · omega
    · apply z
      have e := h.cop
      show ((Int.gcd a b : Nat) : Int) = 1
      rw [e]
      rfl
theorem pNF {c : Nat} {l : List Nat} (h : isFig c = false) : NF (c :: l) := fun x hx => by
  cases hx
  exact h
theorem biT_nf (k : Bi) (l : List Nat) : NF (biT k ++ l) := by
  cases k <;> exact pNF (by decide)
theorem codes_hd (z : Int) : ∃ c l, codes z = c :: l ∧ (c = 45 ∨ isFig c = true) := by
  rcases Int.lt_or_le z 0 with h0 | h0
  · obtain ⟨n, rfl⟩ : ∃ n : Nat, z = -(n : Int) := ⟨z.natAbs, by omega⟩
    exact ⟨45, dgs n, codes_neg n (by omega), .inl rfl⟩
  · obtain ⟨n, rfl⟩ := Int.eq_ofNat_of_zero_le h0
    rw [codes_nat]
    cases e : dgs n with
    | nil => exact absurd e (dgs_ne n)
    | cons c l => exact ⟨c, l, rfl, .inr (dgs_fig n c (by rw [e]; exact List.mem_cons_self))⟩
def Odd1 (c : Nat) : Prop := c = 45 ∨ isFig c = true
theorem Odd1.lt {c : Nat} (h : Odd1 c) : c < 58 ∧ c ≠ 40 := by
  rcases h with rfl | h
  · decide
  · have := fig_lt h
    omega
theorem first_odd {s : Bool} {c : Nat} {l : List Nat} (h : c < 97) : pFirst lfT (leafs s) (c :: l) = none ∧ pFirst (fun x => unT x.1) (ones s) (c :: l) = none ∧ pTake [104, 117, 101, 32] (c :: l) = none := by
  have t : ∀ {x : Nat} {y : List Nat}, 97 ≤ x → pTake (x :: y) (c :: l) = none := fun hx => pTake_hd (by omega)
  refine ⟨?_, ?_, t (by decide)⟩
  · cases s
    · simp only [leafs, pFirst, lfT, t (show 97 ≤ 111 by decide), if_neg (show ¬(false = true) by decide)]
    · simp only [leafs, pFirst, lfT, t (show 97 ≤ 115 by decide), t (show 97 ≤ 116 by decide), t (show 97 ≤ 97 by decide), if_pos]
  · cases s
    · simp only [ones, pFirst, unT, t (show 97 ≤ 110 by decide), t (show 97 ≤ 114 by decide), if_neg (show ¬(false = true) by decide)]
    · simp only [ones, pFirst, unT, t (show 97 ≤ 111 by decide), t (show 97 ≤ 116 by decide), if_pos]
theorem first_leaf {k : Lf} {s : Bool} (h : k.tab = s) (hh : ∀ c, k ≠ .hue c) (r : List Nat) : pFirst lfT (leafs s) (lfT k ++ r) = some (k, r) := by
  subst h
  cases k with
  | hue c => exact absurd rfl (hh c)
  | one => simp [leafs, pFirst, Lf.tab, pTake_app]
  | same => simp [leafs, pFirst, Lf.tab, pTake_app]
  | tie =>
    have e : pTake (lfT .same) (lfT .tie ++ r) = none := pTake_hd (by decide)
    simp [leafs, pFirst, Lf.tab, pTake_app, e]
  | all =>
    have e : pTake (lfT .same) (lfT .all ++ r) = none := pTake_hd (by decide)
    have e' : pTake (lfT .tie) (lfT .all ++ r) = none := pTake_hd (by decide)
    simp [leafs, pFirst, Lf.tab, pTake_app, e, e']
theorem first_sign {k : Bi} {s : Bool} (h : k ∈ twos s) (r : List Nat) : pFirst biT (twos s) (biT k ++ r) = some (k, r) := by
  have ne : ∀ {x c : Nat} {y l : List Nat}, x ≠ c → pTake (32 :: x :: y) (32 :: c :: l) = none := fun h => by rw [pTake_cons]; exact pTake_hd h
  cases s
  · have h' : k = .both ∨ k = .plus := by simpa [twos] using h
    rcases h' with rfl | rfl
    · simp [twos, pFirst, pTake_app]
    · have e : pTake (biT .both) (biT .plus ++ r) = none := ne (by decide)
      simp [twos, pFirst, pTake_app, e]
  · have h' : k = .thn ∨ k = .meet ∨ k = .plus := by simpa [twos] using h
    rcases h' with rfl | rfl | rfl
    · simp [twos, pFirst, pTake_app]
    · have e : pTake (biT .thn) (biT .meet ++ r) = none := ne (by decide)
      simp [twos, pFirst, pTake_app, e]
    · have e : pTake (biT .thn) (biT .plus ++ r) = none := ne (by decide)
      have e' : pTake (biT .meet) (biT .plus ++ r) = none := ne (by decide)
      simp [twos, pFirst, pTake_app, e, e']
theorem first_one {k : Un} {s s' : Bool} (h : (k, s') ∈ ones s) (r : List Nat) : pFirst lfT (leafs s) (unT k ++ r) = none ∧ pFirst (fun x => unT x.1) (ones s) (unT k ++ r) = some ((k, s'), r) := by
  have ne : ∀ {x c : Nat} {y l : List Nat}, x ≠ c → pTake (x :: y) (c :: l) = none := fun h => pTake_hd h
  cases s
  · have h' : (k = .near ∧ s' = false) ∨ (k = .rows ∧ s' = true) := by simpa [ones] using h
    rcases h' with ⟨rfl, rfl⟩ | ⟨rfl, rfl⟩
    · have e : pTake (lfT .one) (unT .near ++ r) = none := ne (by decide)
      simp [leafs, ones, pFirst, pTake_app, e]
    · have e : pTake (lfT .one) (unT .rows ++ r) = none := ne (by decide)
      have e' : pTake (unT .near) (unT .rows ++ r) = none := ne (by decide)
      simp [leafs, ones, pFirst, pTake_app, e, e']
  · have h' : (k = .on ∧ s' = false) ∨ (k = .turned ∧ s' = true) := by simpa [ones] using h
    rcases h' with ⟨rfl, rfl⟩ | ⟨rfl, rfl⟩
    · have e1 : pTake (lfT .same) (unT .on ++ r) = none := ne (by decide)
      have e2 : pTake (lfT .tie) (unT .on ++ r) = none := ne (by decide)
      have e3 : pTake (lfT .all) (unT .on ++ r) = none := ne (by decide)
      simp [leafs, ones, pFirst, pTake_app, e1, e2, e3]
    · have e1 : pTake (lfT .same) (unT .turned ++ r) = none := ne (by decide)
      have e2 : pTake (lfT .tie) (unT .turned ++ r) = none := by
        show pTake (116 :: 105 :: [101]) (116 :: 117 :: _) = none
        rw [pTake_cons]
        exact ne (by decide)
      have e3 : pTake (lfT .all) (unT .turned ++ r) = none := ne (by decide)
      have e4 : pTake (unT .on) (unT .turned ++ r) = none := ne (by decide)
      simp [leafs, ones, pFirst, pTake_app, e1, e2, e3, e4]
theorem first_hue (c : Int) (r : List Nat) : pFirst lfT (leafs false) (lfT (.hue c) ++ r) = none ∧ pFirst (fun x => unT x.1) (ones false) (lfT (.hue c) ++ r) = none := by
  have ne : ∀ {x c : Nat} {y l : List Nat}, x ≠ c → pTake (x :: y) (c :: l) = none := fun h => pTake_hd h
  have e1 : pTake (lfT .one) (lfT (.hue c) ++ r) = none := ne (by decide)
  have e2 : pTake (unT .near) (lfT (.hue c) ++ r) = none := ne (by decide)
  have e3 : pTake (unT .rows) (lfT (.hue c) ++ r) = none := ne (by decide)
  constructor <;> simp [leafs, ones, pFirst, e1, e2, e3]
theorem pT_txt : ∀ (te : Te) (s : Bool) (n : Nat) (r : List Nat), te.ok s → NF r → pT n s (teT te ++ r) = if dep te ≤ n then some (te, r) else none := by
  intro te
  induction te with
  | lf k =>
    intro s n r h hr
    cases n with
    | zero => rw [if_neg (by simp [dep])]; rfl
    | succ n =>
      rw [if_pos (by simp [dep])]
      obtain ⟨h1, h2⟩ := h
      by_cases hh : ∃ c, k = .hue c
      · obtain ⟨c, rfl⟩ := hh
        have hs : s = false := h1.symm
        subst hs
        obtain ⟨e1, e2⟩ := first_hue c r
        have hf : Fit c := by
          have := h2.1
          have := h2.2
          have e' : ((10 : Int) ^ 60) = ((10 ^ 60 : Nat) : Int) := by decide
          unfold Fit
          omega
        have e3 : pTake [104, 117, 101, 32] (lfT (.hue c) ++ r) = some (codes c ++ r) := by
          show pTake [104, 117, 101, 32] ([104, 117, 101, 32] ++ codes c ++ r) = _
          rw [List.append_assoc, pTake_app]
        simp only [teT, pT, e1, e2, e3, if_neg (show ¬(false = true) by decide), pNum0_codes h2.1 hf hr]
      · have := first_leaf h1 (fun c z => hh ⟨c, z⟩) r
        simp only [teT, pT, this]
  | un k t ih =>
    intro s n r h hr
    cases n with
    | zero => rw [if_neg (by simp [dep])]; rfl
    | succ n =>
      have fin : ∀ s', t.ok s' → (k, s') ∈ ones s → pT (n + 1) s (teT (.un k t) ++ r) = if dep (.un k t) ≤ n + 1 then some (Te.un k t, r) else none := fun s' hok hm => by
        have e : teT (.un k t) ++ r = unT k ++ (teT t ++ r) := by rw [teT, List.append_assoc]
        obtain ⟨e1, e2⟩ := first_one hm (teT t ++ r)
        rw [e]
        simp only [pT, e1, e2, ih s' n r hok hr]
        by_cases hd : dep t ≤ n
        · rw [if_pos hd, if_pos (by simp only [dep]; omega)]
        · rw [if_neg hd, if_neg (by simp only [dep]; omega)]
      cases k with
      | near => obtain ⟨rfl, h⟩ := h; exact fin false h (by simp [ones])
      | rows => obtain ⟨rfl, h⟩ := h; exact fin true h (by simp [ones])
      | on => obtain ⟨rfl, h⟩ := h; exact fin false h (by simp [ones])
      | turned => obtain ⟨rfl, h⟩ := h; exact fin true h (by simp [ones])
      | many a b =>
        obtain ⟨hf, hok⟩ := h
        have e : teT (.un (.many a b) t) ++ r = frT a b ++ ([32, 111, 102, 32] ++ (teT t ++ r)) := by
          rw [teT, unT, List.append_assoc, List.append_assoc]
        obtain ⟨c, l, ec, hc⟩ := codes_hd a
        have e2 : ∃ l', frT a b ++ ([32, 111, 102, 32] ++ (teT t ++ r)) = c :: l' := ⟨_, by rw [frT, ec]; rfl⟩
        obtain ⟨l', e2⟩ := e2
        have lt := Odd1.lt hc
        obtain ⟨f1, f2, f3⟩ := first_odd (s := s) (c := c) (l := l') (by omega)
        have g1 : pFrac (c :: l') = some ((a, b), [32, 111, 102, 32] ++ (teT t ++ r)) := by
          rw [← e2]
          exact pFrac_txt hf (fun c hc => by cases hc; decide) (by simp)
        rw [e, e2]
        simp only [pT, f1, f2, f3, ite_self, pTake_hd (fun z => lt.2 z.symm), g1, pTake_app]
        rw [ih s n r hok hr]
        by_cases hd : dep t ≤ n
        · rw [if_pos hd, if_pos (by simp only [dep]; omega)]
        · rw [if_neg hd, if_neg (by simp only [dep]; omega)]
  | bi k t u h1 h2 =>
    intro s n r h hr
    cases n with
    | zero => rw [if_neg (by simp [dep])]; rfl
    | succ n =>
      have hk : t.ok s ∧ u.ok s ∧ k ∈ twos s := by
        cases k with
        | plus => exact ⟨h.1, h.2, by cases s <;> simp [twos]⟩
        | both => obtain ⟨rfl, a, b⟩ := h; exact ⟨a, b, by simp [twos]⟩
        | thn => obtain ⟨rfl, a, b⟩ := h; exact ⟨a, b, by simp [twos]⟩
        | meet => obtain ⟨rfl, a, b⟩ := h; exact ⟨a, b, by simp [twos]⟩
      obtain ⟨ht, hu, hm⟩ := hk
      have e : teT (.bi k t u) ++ r = 40 :: (teT t ++ (biT k ++ (teT u ++ (41 :: r)))) := by
        rw [teT, List.cons_append, List.append_assoc, List.append_assoc, List.append_assoc]
        rfl
      obtain ⟨f1, f2, f3⟩ := first_odd (s := s) (c := 40) (l := teT t ++ (biT k ++ (teT u ++ (41 :: r)))) (by decide)
      rw [e]
      simp only [pT, f1, f2, f3, ite_self, show pTake [40] (40 :: (teT t ++ (biT k ++ (teT u ++ (41 :: r))))) = some (teT t ++ (biT k ++ (teT u ++ (41 :: r)))) from pTake_app [40] _, h1 s n _ ht (biT_nf k _)]
      by_cases hd : dep t ≤ n
      · simp only [if_pos hd, first_sign hm, h2 s n (41 :: r) hu (pNF (by decide))]
        by_cases hd2 : dep u ≤ n
        · rw [if_pos hd2, if_pos (by simp only [dep]; omega)]
          simp only [show pTake [41] (41 :: r) = some r from pTake_app [41] r]
        · rw [if_neg hd2, if_neg (by simp only [dep]; omega)]
      · rw [if_neg hd, if_neg (by simp only [dep]; omega)]
end
section
def wishT : Option Int → List Nat
  | none => [111]
  | some c => codes c
mutual
def trT : Tr → List Nat
  | .nd _ w bs => wishT w ++ (if bs.isEmpty = true then [] else 40 :: (glueL [32] (trTs bs) ++ [41]))
def trTs : List Tr → List (List Nat)
  | [] => []
  | t :: ts => trT t :: trTs ts
end
mutual
def Tr.nrm : Tr → Tr
  | .nd _ w bs => .nd 0 w (Tr.nrms bs)
def Tr.nrms : List Tr → List Tr
  | [] => []
  | t :: ts => t.nrm :: Tr.nrms ts
end
mutual
theorem Tr.nrm_dat : ∀ t : Tr, t.nrm.dat = t.dat
  | .nd i w bs => by simp only [Tr.nrm, Tr.dat, Tr.nrms_dats bs]
theorem Tr.nrms_dats : ∀ ts : List Tr, Tr.dats (Tr.nrms ts) = Tr.dats ts
  | [] => rfl
  | t :: ts => by simp only [Tr.nrms, Tr.dats, Tr.nrm_dat t, Tr.nrms_dats ts]
end
def pWish (l : List Nat) : Option (Option Int × List Nat) := match pTake [111] l with
  | some r => some (none, r)
  | none => match pNum0 l with
    | some (c, r) => some (some c, r)
    | none => none
def pMore (f : List Nat → Option (Tr × List Nat)) : Nat → List Nat → Option (List Tr × List Nat)
  | 0, _ => none
  | k + 1, l => match pTake [32] l with
    | none => some ([], l)
    | some r => match f r with
      | none => none
      | some (t, r1) => match pMore f k r1 with
        | none => none
        | some (ts, r2) => some (t :: ts, r2)
def pTr : Nat → List Nat → Option (Tr × List Nat)
  | 0, _ => none
  | n + 1, l => match pWish l with
    | none => none
    | some (w, r) => match pTake [40] r with
      | none => some (.nd 0 w [], r)
      | some r1 => match pTr n r1 with
        | none => none
        | some (b, r2) => match pMore (pTr n) (r2.length + 1) r2 with
          | none => none
          | some (bs, r3) => match pTake [41] r3 with
            | none => none
            | some r4 => some (.nd 0 w (b :: bs), r4)
theorem pNum0_len {l r : List Nat} {z : Int} (h : pNum0 l = some (z, r)) : r.length < l.length := by
  unfold pNum0 at h
  split at h
  case isFalse => cases h
  case isTrue ok =>
    obtain ⟨o1, _, _⟩ := okF_iff.mp ok
    have := figs_le l
    have : 0 < (figsOf l).length := List.length_pos_iff.mpr o1
    cases h
    rw [List.length_drop]
    omega
theorem pWish_len {l r : List Nat} {w : Option Int} (h : pWish l = some (w, r)) : r.length < l.length := by
  unfold pWish at h
  cases e : pTake [111] l with
  | some r' =>
    rw [e] at h
    cases h
    have := pTake_len e
    simp at this
    omega
  | none =>
    rw [e] at h
    cases e2 : pNum0 l with
    | none => rw [e2] at h; cases h
    | some x =>
      obtain ⟨c, r'⟩ := x
      rw [e2] at h
      cases h
      exact pNum0_len e2
def Eats (f : List Nat → Option (Tr × List Nat)) : Prop := ∀ l t r, f l = some (t, r) → r.length < l.length
theorem pMore_len {f : List Nat → Option (Tr × List Nat)} (hf : Eats f) : ∀ (k : Nat) (l r : List Nat) (ts : List Tr), pMore f k l = some (ts, r) → r.length ≤ l.length := by
  intro k
  induction k with
  | zero => intro l r ts h; cases h
  | succ k ih =>
    intro l r ts h
    unfold pMore at h
    cases e : pTake [32] l with
    | none => rw [e] at h; cases h; exact Nat.le_refl _
    | some r0 =>
      rw [e] at h
      have h0 := pTake_len e
      cases e1 : f r0 with
      | none => simp only [e1] at h; cases h
      | some x =>
        obtain ⟨t, r1⟩ := x
        have h1 := hf _ _ _ e1
        cases e2 : pMore f k r1 with
        | none => simp only [e1, e2] at h; cases h
        | some y =>
          obtain ⟨ts', r2⟩ := y
          have h2 := ih _ _ _ e2
          simp only [e1, e2] at h
          cases h
          simp at h0
          omega
theorem pMore_fuel {f : List Nat → Option (Tr × List Nat)} (hf : Eats f) : ∀ (k k' : Nat) (l : List Nat), l.length < k → l.length < k' → pMore f k l = pMore f k' l := by
  intro k
  induction k with
  | zero => intro k' l h; omega
  | succ k ih =>
    intro k' l h h'
    obtain ⟨k', rfl⟩ : ∃ m, k' = m + 1 := ⟨k' - 1, by omega⟩
    unfold pMore
    cases e : pTake [32] l with
    | none => rfl
    | some r0 =>
      have h0 := pTake_len e
      simp at h0
      cases e1 : f r0 with
      | none => simp only [e1]
      | some x =>
        obtain ⟨t, r1⟩ := x
        have h1 := hf _ _ _ e1
        simp only [e1]
        rw [ih k' r1 (by omega) (by omega)]
theorem pTr_eats : ∀ n, Eats (pTr n) := by
  intro n
  induction n with
  | zero => intro l t r h; cases h
  | succ n ih =>
    intro l t r h
    unfold pTr at h
    cases e : pWish l with
    | none => rw [e] at h; cases h
    | some x =>
      obtain ⟨w, r0⟩ := x
      have h0 := pWish_len e
      simp only [e] at h
      cases e1 : pTake [40] r0 with
      | none => simp only [e1] at h; cases h; exact h0
      | some r1 =>
        have h1 := pTake_len e1
        simp only [e1] at h
        cases e2 : pTr n r1 with
        | none => simp only [e2] at h; cases h
        | some y =>
          obtain ⟨b, r2⟩ := y
          have h2 := ih _ _ _ e2
          simp only [e2] at h
          cases e3 : pMore (pTr n) (r2.length + 1) r2 with
          | none => simp only [e3] at h; cases h
          | some y =>
            obtain ⟨bs, r3⟩ := y
            have h3 := pMore_len ih _ _ _ _ e3
            simp only [e3] at h
            cases e4 : pTake [41] r3 with
            | none => simp only [e4] at h; cases h
            | some r4 =>
              have h4 := pTake_len e4
              simp only [e4] at h
              cases h
              simp at h1 h4
              omega
def wishOk (w : Option Int) : Prop := ∀ c, w = some c → 0 ≤ c ∧ Fit c
mutual
def Tr.fit : Tr → Prop
  | .nd _ w bs => wishOk w ∧ Tr.fits bs
def Tr.fits : List Tr → Prop
  | [] => True
  | t :: ts => t.fit ∧ Tr.fits ts
end
def NB (r : List Nat) : Prop := NF r ∧ r.head? ≠ some 40
theorem pWish_txt {w : Option Int} {r : List Nat} (h : wishOk w) (hr : NF r) : pWish (wishT w ++ r) = some (w, r) := by
  unfold pWish
  cases w with
  | none => simp only [wishT, pTake_app]
  | some c =>
    obtain ⟨h0, hf⟩ := h c rfl
    obtain ⟨d, l, e, hd⟩ := codes_hd c
    have : pTake [111] (codes c ++ r) = none := by
      rw [e]
      have := Odd1.lt hd
      exact pTake_hd (by omega)
    simp only [wishT, this, pNum0_codes h0 hf hr]
theorem pTake_one (c : Nat) (l : List Nat) : pTake [c] (c :: l) = some l := pTake_app [c] l
theorem glue_cons (sep x : List Nat) (xs : List (List Nat)) : glueL sep (x :: xs) = x ++ xs.flatMap (fun m => sep ++ m) := rfl
theorem take40 {r : List Nat} (h : r.head? ≠ some 40) : pTake [40] r = none := by
  cases r with
  | nil => rfl
  | cons c l => exact pTake_hd (fun z => h (by rw [← z]; rfl))
mutual
theorem pTr_txt : ∀ (t : Tr) (n : Nat) (r : List Nat), t.fit → NB r → pTr n (trT t ++ r) = if t.deep ≤ n then some (t.nrm, r) else none
  | .nd i w [], n, r, h, hr => by
    cases n with
    | zero => rw [if_neg (by simp [Tr.deep])]; rfl
    | succ n =>
      rw [if_pos (by simp [Tr.deep, Tr.deeps])]
      have e : trT (.nd i w []) ++ r = wishT w ++ r := by simp [trT]
      rw [e]
      simp only [pTr, pWish_txt h.1 hr.1, take40 hr.2, Tr.nrm, Tr.nrms]
  | .nd i w (b :: bs), n, r, h, hr => by
    cases n with
    | zero => rw [if_neg (by simp [Tr.deep])]; rfl
    | succ n =>
      have e : trT (.nd i w (b :: bs)) ++ r = wishT w ++ (40 :: (trT b ++ ((trTs bs).flatMap (fun m => [32] ++ m) ++ (41 :: r)))) := by
        simp only [trT, trTs, List.isEmpty_cons, glue_cons]
        simp
      obtain ⟨h1, h2, h3⟩ := h
      have nb : ∀ ts : List Tr, NB ((trTs ts).flatMap (fun m => [32] ++ m) ++ (41 :: r)) := fun ts => by
        cases ts with
        | nil => exact ⟨fun c hc => by cases hc; decide, by simp [trTs]⟩
        | cons t ts => exact ⟨fun c hc => by simp [trTs] at hc; rw [← hc]; decide, by simp [trTs]⟩
      rw [e]
      have hb := pTr_txt b n _ h2 (nb bs)
      by_cases hd : b.deep ≤ n
      · rw [if_pos hd] at hb
        have hm := pMore_txt bs n (41 :: r) (((trTs bs).flatMap (fun m => [32] ++ m) ++ (41 :: r)).length + 1) h3 (by simp) (fun l hl => by cases hl; decide) nb (by omega)
        simp only [pTr, pWish_txt h1 (show NF (40 :: _) from pNF (by decide)), pTake_one, hb, hm]
        by_cases hd2 : Tr.deeps bs ≤ n
        · rw [if_pos hd2, if_pos (by simp only [Tr.deep, Tr.deeps]; omega)]
          simp only [pTake_one, Tr.nrm, Tr.nrms]
        · rw [if_neg hd2, if_neg (by simp only [Tr.deep, Tr.deeps]; omega)]
      · rw [if_neg hd] at hb
        simp only [pTr, pWish_txt h1 (show NF (40 :: _) from pNF (by decide)), pTake_one, hb]
        rw [if_neg (by simp only [Tr.deep, Tr.deeps]; omega)]
theorem pMore_txt : ∀ (ts : List Tr) (n : Nat) (r : List Nat) (k : Nat), Tr.fits ts → r ≠ [] → (∀ c, r.head? = some c → c ≠ 32) → (∀ ts : List Tr, NB ((trTs ts).flatMap (fun m => [32] ++ m) ++ r)) → ((trTs ts).flatMap (fun m => [32] ++ m) ++ r).length < k → pMore (pTr n) k ((trTs ts).flatMap (fun m => [32] ++ m) ++ r) = if Tr.deeps ts ≤ n then some (Tr.nrms ts, r) else none
  | [], n, r, k, _, hr, hc, _, hk => by
    obtain ⟨k, rfl⟩ : ∃ m, k = m + 1 := ⟨k - 1, by omega⟩
    have : pTake [32] r = none := by
      cases r with
      | nil => rfl
      | cons c l => exact pTake_hd (fun z => hc c rfl z.symm)
    simp only [trTs, List.flatMap_nil, List.nil_append, pMore, this, Tr.deeps, Tr.nrms, Nat.zero_le, if_true]
  | t :: ts, n, r, k, h, hr, hc, nb, hk => by
    obtain ⟨k, rfl⟩ : ∃ m, k = m + 1 := ⟨k - 1, by omega⟩
    have e : (trTs (t :: ts)).flatMap (fun m => [32] ++ m) ++ r = 32 :: (trT t ++ ((trTs ts).flatMap (fun m => [32] ++ m) ++ r)) := by
      simp [trTs]
    rw [e] at hk ⊢
    have ht := pTr_txt t n _ h.1 (nb ts)
    by_cases hd : t.deep ≤ n
    · rw [if_pos hd] at ht
      have hm := pMore_txt ts n r k h.2 hr hc nb (by simp only [List.length_cons, List.length_append] at hk ⊢; omega)
      simp only [pMore, pTake_one, ht, hm]
      by_cases hd2 : Tr.deeps ts ≤ n
      · rw [if_pos hd2, if_pos (by simp only [Tr.deeps]; omega)]
        simp only [Tr.nrms]
      · rw [if_neg hd2, if_neg (by simp only [Tr.deeps]; omega)]
    · rw [if_neg hd] at ht
      simp only [pMore, pTake_one, ht]
      rw [if_neg (by simp only [Tr.deeps]; omega)]
end
end
section
variable {X : Cx}
structure QE (X : Cx) (e : Expr) (t : TE) : Prop where
  o : PE X e t
structure QA (X : Cx) (es : List Expr) (t : TA) : Prop where
  o : PA X es t
theorem qa_nil : QA X [] tNil := ⟨pa_nil⟩
theorem qa_cons {e : Expr} {es : List Expr} {te : TE} {t : TA} (ha : QE X e te) (hr : QA X es t) (hs : starEach (e :: es) X.env = (false, eval e X.env) :: starEach es X.env := by rfl) : QA X (e :: es) (tCons te t) := ⟨pa_cons ha.o hr.o hs⟩
theorem qe_lst {es : List Expr} {t : TA} {pos : Pos} (h : QA X es t) : QE X (.List es pos) (tLst t) := ⟨pe_lst h.o⟩
theorem qe_tup {es : List Expr} {t : TA} {k : Nat} {pos : Pos} (h : QA X es t) : QE X (.Tuple es k pos) (tTup t) := ⟨pe_tup h.o⟩
theorem qe_ix {a b : Expr} {ta tb : TE} {pos : Pos} {r : R2} (hr : IxR X r) (ha : QE X a ta) (hb : QE X b tb) (hs : PlainIx b) : QE X (.Subscript a b pos) (tOp r ta tb) := ⟨pe_ix hr ha.o hb.o hs⟩
end
section
variable {X : Cx}
structure QS (X : Cx) (st : Stmt) (t : TS) : Prop where
  o : PS X st t
structure QSs (X : Cx) (ss : List Stmt) (t : TS) : Prop where
  o : PSs X ss t
structure QT (X : Cx) (e : Expr) (t : TT) : Prop where
  o : PT X e t
structure QI (X : Cx) (tg e : Expr) (t : TI) : Prop where
  o : PI X tg e t
structure QG (X : Cx) (tg : Expr) (t : TG) : Prop where
  o : PG X tg t
structure QO (X : Cx) (e : Option Expr) (t : TO) : Prop where
  o : PO X e t
section
variable {st : Stmt} {rest a b : List Stmt} {t u tb : TS} {e f g : Expr} {es : List Expr} {te tf : TE} {ta : TA} {tc : TT} {pos pos' p : Pos}
theorem w_nil : QSs X [] tNext := ⟨pss_nil⟩
theorem w_cons (h : QS X st t) (k : QSs X rest u) : QSs X (st :: rest) (tSeq t u) := ⟨pss_cons h.o k.o⟩
theorem w_one (h : QS X st t) : QSs X [st] t := ⟨pss_one h.o⟩
theorem w_mid (h : QS X st t) (k : QSs X rest u) : QSs X (st :: rest) (tMid t u) := ⟨pss_mid h.o k.o⟩
theorem w_set {x : Str} (i : Nat) (hN : X.N.Nodup) (hi : X.N[i]? = some x) (hx : Loc X.env.scope x) (he : QE X e te) (hs : swapsWith e (some (.Name x pos')) pos.line X.env = pure false := by rfl) (hf : X.fn x = true ∨ X.env.scope.names.lookup x = some .local := by first | exact .inl rfl | exact .inr rfl | assumption) :
    QS X (.Assign [.Name x pos'] e pos) (tAsg te (gName i)) := ⟨ps_set hN hi hx he.o hs hf⟩
theorem w_ret (h : QE X e te) : QS X (.Return (some e) pos) (tRet te) := ⟨ps_ret h.o⟩
theorem w_if (hc : QT X e tc) (ha : QSs X a t) (hb : QSs X b u) : QS X (.If e a b pos) (tIfS tc t u) := ⟨ps_if hc.o ha.o hb.o⟩
theorem w_for {wi : TI} {gg : TG} (hp : PassesOwn (model X.prog X.w) X.A X.env X.xe) (hc : X.calm = true) (hi : QI X g e wi) (hg : QG X g gg) (hb : QSs X a tb) (hf : ∀ x, foldedSetIterable e X.env x = pure x := by intro _; rfl) : QS X (.For g e a [] pos) (tFor wi gg tb) := ⟨ps_for hp hc hi.o hg.o hb.o hf⟩
theorem w_asg {gg : TG} (he : QE X e te) (hg : QG X g gg) (hs : swapsWithSole [g] e pos.line X.env = pure false := by rfl) (hw : swappedStores [g] e X.env = pure none := by rfl) (h1 : (assignEach [g] X.env).map (·.2) = [assign g X.env] := by rfl) : QS X (.Assign [g] e pos) (tAsg te gg) := ⟨ps_asg he.o hg.o hs hw h1⟩
theorem v_op {op : Operator} {r : R2} (ho : OpR X (binaryOp op) r) (ha : QE X e te) (hb : QE X f tf) : QE X (.BinOp e op f pos) (tOp r te tf) := ⟨pe_op ho ha.o hb.o⟩
theorem t_cmp {op : CmpOp} {r : R2} (ho : OpR X (compareOp op) r) (ha : QE X e te) (hb : QE X f tf) (hm : behindInMarks op f = false) : QT X (.Compare e [op] [f] pos) (tTest (tOp r te tf)) := ⟨pt_cmpR ho ha.o hb.o hm⟩
theorem v_slice {lo hi : Option Expr} {tl th : TO} {r : V → Option Int → Option Int → Hp → VK → Prop} (hr : SlR X r) (he : QE X e te) (hl : QO X lo tl) (hu : QO X hi th) : QE X (.Subscript e (.Slice lo hi none p) pos) (tSl r te tl th) := ⟨pe_slice hr he.o hl.o hu.o⟩
theorem o_some (h : QE X e te) : QO X (some e) (tPart te) := ⟨po_some h.o⟩
theorem o_none : QO X none tNoPart := ⟨po_none⟩
theorem i_list (h : QE X e te) : QI X g e (iList X.K te) := ⟨pi_list h.o⟩
theorem g_sub {t : TSet} (ho : QE X e te) (hi : QE X f tf) (hs : PSet X t) (h : ∀ v, assign (.Subscript e f pos) X.env v = (do
                let ov ← holding [v] (eval e X.env)
                let iv ← holding [v, ov] (eval f X.env)
                standAt pos
                holding [v, ov, iv] (setItem ov iv v)
                release [v, ov, iv] []) := by intro _; rfl) : QG X (.Subscript e f pos) (gSub te tf t) := ⟨pg_sub ho.o hi.o hs h⟩
theorem g_name {x : Str} (i : Nat) (hN : X.N.Nodup) (hi : X.N[i]? = some x) (hx : Loc X.env.scope x) (hf : X.fn x = true ∨ X.env.scope.names.lookup x = some .local := by first | exact .inl rfl | exact .inr rfl | assumption) : QG X (.Name x pos) (gName i) := ⟨pg_name hN hi hx hf⟩
theorem v_fn {k : Nat} {fa : Addr} {fd : FuncData} {x : Str} {ps : List Str} {sp : Sp} (D : Dn X.K X.mg x st ps fa fd) (G : FnOk X.prog X.w X.K X.mg X.base CX0 k fa fd ps sp) (hr : Room k X.A) (hg : Gl X x) (ha : QA X (e :: es) ta) (hdb : (x == ("__debug__" : Str)) = false := by decide)
    (hs : starEach (e :: es) X.env = (false, eval e X.env) :: starEach es X.env := by rfl) (hpl : (backTo pos (starEach es X.env)).any (·.1) = false := by rfl) : QE X (.Call (.Name x p) (e :: es) [] pos) (tCall sp [] E0 ta) := ⟨pe_fn D G hr hg ha.o hdb hs hpl⟩
theorem v_callB {id : String} {x : Str} {r : List V → Hp → VK → Prop} (hc : CallR X (.builtin id) r) (hg : Gl X x) (hm : X.mg x = none) (hv : bootBuiltins x = some (.builtin id)) (ha : QA X (e :: es) ta) (hn : x ≠ "__name__" := by decide) (hdb : (x == ("__debug__" : Str)) = false := by decide)
    (hs : starEach (e :: es) X.env = (false, eval e X.env) :: starEach es X.env := by rfl) (hpl : (backTo pos (starEach es X.env)).any (·.1) = false := by rfl) : QE X (.Call (.Name x p) (e :: es) [] pos) (tCB r ta) := ⟨pe_callB hc hg hm hv ha.o hn hdb hs hpl⟩
theorem v_callTy {T : String} {x : Str} {r : List V → Hp → VK → Prop} (hc : CallR X (.type T) r) (hg : Gl X x) (hm : X.mg x = none) (hv : bootBuiltins x = some (.type T)) (ha : QA X (e :: es) ta) (hn : x ≠ "__name__" := by decide) (hdb : (x == ("__debug__" : Str)) = false := by decide)
    (hs : starEach (e :: es) X.env = (false, eval e X.env) :: starEach es X.env := by rfl) (hpl : (backTo pos (starEach es X.env)).any (·.1) = false := by rfl) : QE X (.Call (.Name x p) (e :: es) [] pos) (tCB r ta) := ⟨pe_callTy hc hg hm hv ha.o hn hdb hs hpl⟩
theorem v_bm {T id : String} {name : Str} {r : V → List V → Hp → VK → Prop} (pa : PlainAttrs T) (slot : Slot T name id) (hty : typeOf (.builtin id) = pure (.type "method_descriptor")) (hm : MtR X id r) (ho : QE X f tf) (ha : QA X (e :: es) ta)
    (h1 : attributeBase f name X.env (eval f X.env) = eval f X.env := by rfl)
    (h2 : (((backTo pos (starEach (e :: es) X.env)).all fun x => !x.1) && ((backToKw pos (keywordEach [] X.env)).all fun x => x.1.isSome) && decide (((e :: es).length + ([] : List Keyword).length + if ([] : List Keyword).isEmpty = true then 0 else 1) < 30)) = true := by rfl)
    (h3 : (pos'.endLine == pos.line) = true := by rfl) (hs : starEach (e :: es) X.env = (false, eval e X.env) :: starEach es X.env := by rfl) (hpl : (backTo pos (starEach es X.env)).any (·.1) = false := by rfl) : QE X (.Call (.Attribute f name pos') (e :: es) [] pos) (tBM X.K T r tf ta) := ⟨pe_bm pa slot hty hm ho.o ha.o h1 h2 h3 hs hpl⟩
end
end
section
variable {P : Program} {w : World} {K : PySem.W.Frag} {mg : Str → Option Value} {base : Heap}
structure BltR (mg : Str → Option Value) : Prop where
  abs : mg "abs" = none
  len : mg "len" = none
  sum : mg "sum" = none
  zip : mg "zip" = none
  range : mg "range" = none
  enum : mg "enumerate" = none
def tupF (l : Int × Int) : HO := .tup [.int l.1, .int l.2]
def spG : Sp := fun vs H Q _ => ∃ a b : Int, vs = [.int a, .int b] ∧ Q (.int (M11.G a b)) H
def spF : Sp := fun vs H Q _ => ∃ t b : Int, vs = [.int t, .int b] ∧ b ≠ 0 ∧ b.natAbs < 2 ^ 1000 ∧ ∀ p, H p = none → Q (.ref p) (upd H p (tupF (M11.low t b)))
theorem scGd : FnScope ["number", "other", "rest"] ["number", "other"] (defScope sGd) := ⟨rfl, rfl, rfl, by decide +kernel, rfl, by decide +kernel, by decide +kernel⟩
theorem ok_gd {f : Addr} {fd : FuncData} (B : BltR mg) (F : Fun K "greatest_divisor" "greatest_divisor" sGd f fd) : FnOk P w K mg base CX0 1 f fd ["number", "other"] spG := by
  refine F.ok scGd (fun vs H Q E h => ?_) (fun cdv A outer s H vs Q E hr h => ?_)
  · obtain ⟨a, b, rfl, _⟩ := h
    rfl
  · obtain ⟨a, b, rfl, k⟩ := h
    refine ⟨_, pss_cons (ps_while PassesOwn.never (pt_cmpR op_ne (pv 1) pe_int (nomark _))
        (pss_cons (ps_set (i := 2) scGd.nd rfl (Or.inl rfl) (pe_op op_modN (pv 0) (pv 1)))
        (pss_cons (ps_set (i := 0) scGd.nd rfl (Or.inl rfl) (pv 1))
        (pss_one (ps_set (i := 1) scGd.nd rfl (Or.inl rfl) (pv 2))))))
      (pss_one (ps_ret (pe_callB call_abs (by rfl) B.abs boot_abs (pa_cons (pv 0) pa_nil)))), ?_⟩
    refine while_by (fun σ H' => ∃ (x y : Int) (r : Option V), σ = [some (.int x), some (.int y), r] ∧ H' = H ∧ Int.gcd x y = Int.gcd a b)
      (fun σ _ => match σ with | [_, some (.int y), _] => y.natAbs | _ => 0) ⟨a, b, none, rfl, rfl, rfl⟩ ?_ ?_
    · rintro σ H' ⟨x, y, r, rfl, rfl, hg⟩
      refine ⟨_, rfl, rfl, _, rfl, ?_⟩
      by_cases hy : y = 0
      · subst hy
        refine iteNS rfl ?_
        refine ⟨_, rfl, x, rfl, ?_⟩
        have e : (if x < 0 then -x else x) = M11.G a b := by
          rw [M11.gcd_end]
          show ((Int.gcd x 0 : Nat) : Int) = ((Int.gcd a b : Nat) : Int)
          rw [hg]
        rw [e]
        exact k
      · refine iteNP (fun z => hy (V.int.inj z)) ?_
        refine ⟨_, rfl, _, rfl, x, y, rfl, rfl, hy, _, rfl, _, rfl, ?_⟩
        exact ⟨⟨y, x.fmod y, _, rfl, rfl, by rw [M11.gcd_step]; exact hg⟩, M11.fmod_small x y hy⟩
    · rintro σ H' Q1 Q2 hq ⟨v, e, sc, c, ec, q⟩
      exact ⟨v, e, sc, c, ec, hq _ _ q⟩
theorem cdivB {t b : Int} (h : b ≠ 0) (hb : b.natAbs < 2 ^ 1000) (u d : Int) (e : d = M11.sgn t b) : CDivB u d := by
  subst e
  exact ⟨M11.sgn_ne h, Nat.lt_of_le_of_lt (M11.sgn_le h) hb⟩
theorem das_split {ok : Addr → Prop} {H : Hp} : ∀ {a b : List PyData} {vs : List V}, DAs K ok H vs (a ++ b) → ∃ x y, vs = x ++ y ∧ DAs K ok H x a ∧ DAs K ok H y b
  | [], b, vs, h => ⟨[], vs, rfl, .nil, h⟩
  | d :: a, b, vs, h => by
    cases h with
    | cons h1 h2 =>
      obtain ⟨x, y, rfl, h3, h4⟩ := das_split h2
      exact ⟨_ :: x, y, rfl, .cons h1 h3, h4⟩
theorem das_len {ok : Addr → Prop} {H : Hp} : ∀ {a : List PyData} {vs : List V}, DAs K ok H vs a → vs.length = a.length
  | [], vs, h => by cases h; rfl
  | d :: a, vs, h => by
    cases h with
    | cons h1 h2 => rw [List.length_cons, List.length_cons, das_len h2]
open TM in
theorem tm_at {ok : Addr → Prop} {H : Hp} {v : V} (t : Te) (h : DA K ok H v t.dat) : ∃ p pre ks, v = .ref p ∧ SqT K H p ((.str t.word :: pre) ++ ks) ∧ ks.length = t.kids.length ∧ DAs K ok H ks (t.kids.map Te.dat) ∧ DAs K ok H pre t.rest := by
  rw [t.dat_eq] at h
  cases h with
  | tup _ hs r =>
    cases r with
    | cons r1 r =>
      obtain ⟨x, y, rfl, h3, h4⟩ := das_split r
      cases r1
      exact ⟨_, x, y, rfl, hs, by rw [das_len h4, List.length_map], h4, h3⟩
theorem das_int {ok : Addr → Prop} {H : Hp} {pre : List V} {c : Int} (h : DAs K ok H pre [.int c]) : pre = [.int c] := by
  cases h with
  | cons r1 r => cases r; cases r1; rfl
theorem das_fr {ok : Addr → Prop} {H : Hp} {pre : List V} {a b : Int} (h : DAs K ok H pre [.tuple [.int a, .int b]]) : ∃ f, pre = [.ref f] ∧ SqT K H f [.int a, .int b] := by
  cases h with
  | cons r1 r =>
    cases r
    cases r1 with
    | tup _ hf rf =>
      cases rf with
      | cons q1 rf =>
        obtain rfl := das_int rf
        cases q1
        exact ⟨_, rfl, hf⟩
theorem at_hd (x : V) (xs : List V) : atI (x :: xs) 0 = some x := atI_nat (xs := x :: xs) (j := 0) rfl
theorem at_snd (x y : V) (xs : List V) : atI (x :: y :: xs) 1 = some y := atI_nat (xs := x :: y :: xs) (j := 1) rfl
open TM in
end
section
variable {P : Program} {w : World} {K : PySem.W.Frag} {mg : Str → Option Value} {base : Heap}
structure Rs (C : Addr) (H : Hp) (a : Addr) (l : List Nat) : Prop where
  ex : ∃ t p, Rdr C H a t p ∧ p ≤ t.length ∧ t.drop p = l ∧ t.length ≤ 90000 ∧ ∀ c ∈ t, c < 128
theorem Rs.ins {C : Addr} {H : Hp} {a : Addr} {l : List Nat} (R : Rs C H a l) : ∃ dx t p, H a = some (.ins C dx [("text", .str (Sg t)), ("place", .int ((p : Nat) : Int))]) := by
  obtain ⟨t, p, ⟨dx, e⟩, _⟩ := R.ex
  exact ⟨dx, t, p, e⟩
theorem Rs.keep {C : Addr} {H H' : Hp} {a : Addr} {l : List Nat} (R : Rs C H a l) (h : ∀ o, H a = some o → H' a = some o) : Rs C H' a l := by
  obtain ⟨t, p, ⟨dx, e⟩, r⟩ := R.ex
  exact ⟨t, p, ⟨dx, h _ e⟩, r⟩
theorem Rs.asc {C : Addr} {H : Hp} {a : Addr} {l : List Nat} (R : Rs C H a l) : (∀ c ∈ l, c < 128) ∧ l.length ≤ 90000 := by
  obtain ⟨t, p, _, _, e, hz, hc⟩ := R.ex
  subst e
  exact ⟨fun c h => hc c (List.mem_of_mem_drop h), by rw [List.length_drop]; omega⟩
theorem rs_takes {C : Addr} {H : Hp} {a : Addr} {l y : List Nat} {Q : VK} {E : XK} (R : Rs C H a l) (h0 : pTake y l = none → Q (.bl false) H) (h1 : ∀ r, pTake y l = some r → ∀ H', But a H H' → Rs C H' a r → Q (.bl true) H') : spTakes C [.ref a, .str (Sg y)] H Q E := by
  obtain ⟨t, p, e, hp, rfl, hz, hc⟩ := R.ex
  refine ⟨a, t, y, p, rfl, e, hp, by omega, fun h => h0 (by unfold pTake; rw [if_neg (by rw [h]; decide)]), fun h H' b R' => ?_⟩
  have h' : pTake y (t.drop p) = some ((t.drop p).drop y.length) := by unfold pTake; rw [if_pos h]
  refine h1 _ h' H' b ⟨t, p + y.length, R', ?_, by rw [List.drop_drop], hz, hc⟩
  have := pTake_len h'
  rw [List.length_drop, List.length_drop] at this
  omega
theorem rs_must {C CT : Addr} {H : Hp} {a : Addr} {l y : List Nat} {Q : VK} {E : XK} (R : Rs C H a l) (hy : y.length ≤ 9) (ha : ∀ c ∈ y, c < 128) (h0 : pTake y l = none → E (.ref CT) none H) (h1 : ∀ r, pTake y l = some r → ∀ H', But a H H' → Rs C H' a r → Q .non H') : spMust C CT [.ref a, .str (Sg y)] H Q E := by
  obtain ⟨t, p, e, hp, rfl, hz, hc⟩ := R.ex
  refine ⟨a, t, y, p, rfl, e, hp, by omega, hy, ha, fun h H' b R' => ?_, fun h => h0 (by unfold pTake; rw [if_neg (by rw [h]; decide)])⟩
  have h' : pTake y (t.drop p) = some ((t.drop p).drop y.length) := by unfold pTake; rw [if_pos h]
  refine h1 _ h' H' b ⟨t, p + y.length, R', ?_, by rw [List.drop_drop], hz, hc⟩
  have := pTake_len h'
  rw [List.length_drop, List.length_drop] at this
  omega
theorem rs_from0 {C CT : Addr} {H : Hp} {a : Addr} {l : List Nat} {Q : VK} {E : XK} (R : Rs C H a l) (h0 : pNum0 l = none → E (.ref CT) none H) (h1 : ∀ z r, pNum0 l = some (z, r) → ∀ H', But a H H' → Rs C H' a r → Q (.int z) H') : spFrom0 C CT [.ref a] H Q E := by
  obtain ⟨t, p, e, hp, rfl, hz, hc⟩ := R.ex
  have fl := figs_le (t.drop p)
  rw [List.length_drop] at fl
  refine ⟨a, t, p, rfl, e, hp, by omega, hc, fun ok H' b R' => h1 _ _ (by unfold pNum0; rw [if_pos ok]) H' b ⟨t, _, R', by omega, by rw [List.drop_drop], hz, hc⟩, fun ok => h0 (by unfold pNum0; rw [if_neg (by rw [ok]; decide)])⟩
theorem rs_numb {C CT : Addr} {H : Hp} {a : Addr} {l : List Nat} {Q : VK} {E : XK} (R : Rs C H a l) (h0 : pNum l = none → ∀ H', But a H H' → E (.ref CT) none H') (h1 : ∀ z r, pNum l = some (z, r) → ∀ H', But a H H' → Rs C H' a r → Q (.int z) H') : spNumb C CT [.ref a] H Q E := by
  obtain ⟨t, p, e, hp, rfl, hz, hc⟩ := R.ex
  refine ⟨a, t, p, rfl, e, hp, hz, hc, fun z k n H' b R' => h1 z _ (by unfold pNum; rw [n]) H' b ⟨t, _, R', ?_, by rw [List.drop_drop], hz, hc⟩, fun n H' b => h0 (by unfold pNum; rw [n]) H' b⟩
  have := (numP_le n).1
  rw [List.length_drop] at this
  omega
theorem rs_refuse {C CT : Addr} {H : Hp} {a : Addr} {l y : List Nat} {Q : VK} {E : XK} (R : Rs C H a l) (hy : y.length ≤ 100) (h : E (.ref CT) none H) : spRefuse C CT [.ref a, .str (Sg y)] H Q E := by
  obtain ⟨t, p, e, hp, _, hz, hc⟩ := R.ex
  exact ⟨a, t, y, p, rfl, e, by omega, hy, h⟩
theorem rs_end {C CT : Addr} {H : Hp} {a : Addr} {l : List Nat} {Q : VK} {E : XK} (R : Rs C H a l) (h1 : l = [] → Q .non H) (h0 : l ≠ [] → E (.ref CT) none H) : spEndR C CT [.ref a] H Q E := by
  obtain ⟨t, p, e, hp, rfl, hz, hc⟩ := R.ex
  refine ⟨a, t, p, rfl, e, hp, by omega, fun h => h1 (by rw [h, List.drop_length]), fun h => h0 fun z => ?_⟩
  have := congrArg List.length z
  rw [List.length_drop] at this
  simp at this
  omega
theorem nil_in {Q : List V → Hp → Prop} {σ : L2.St} {H : Hp} (h : Q [] H) : tNil σ H Q := h
theorem one_in {Q : List V → Hp → Prop} {σ : L2.St} {H : Hp} {v : V} (h : Q [v] H) : tCons (tC v) tNil σ H Q := h
theorem lit_slash : Str.ofString "/" = Sg [47] := by decide +kernel
def spFrn (C CT : Addr) : Sp := fun vs H Q E => ∃ (a : Addr) (l : List Nat), vs = [.ref a] ∧ Rs C H a l ∧
  (∀ f r, pFrac l = some (f, r) → ∀ q H', But a H H' → Rs C H' a r → H' q = some (tupF f) → q ≠ a → H q = none → Q (.ref q) H') ∧ (pFrac l = none → ∀ H', But a H H' → E (.ref CT) none H')
abbrev nFrn : List Str := ["self", "top", "bottom"]
theorem scFrn : FnScope nFrn ["self"] (defScope sFrn) := ⟨rfl, rfl, rfl, by decide +kernel, rfl, by decide +kernel, by decide +kernel⟩
theorem rs_new {C : Addr} {H : Hp} {a q : Addr} {l : List Nat} (R : Rs C H a l) (h : H q = none) : q ≠ a := fun e => by
  obtain ⟨dx, _, _, z⟩ := R.ins
  rw [e, z] at h
  cases h
theorem ok_frn {f fN fT f0 fR fG C CT : Addr} {fd fdN fdT fd0 fdR fdG : FuncData} (T : ClsR K C) (F : Fun K "fraction" "Reader.fraction" sFrn f fd)
    (MN : Mn K C "number" "Reader.number" sNumb ["self"] fN fdN) (GN : FnOk P w K mg base (CXd P w) 3 fN fdN ["self"] (spNumb C CT))
    (MT : Mn K C "takes" "Reader.takes" sTakes ["self", "word"] fT fdT) (GT : FnOk P w K mg base CX0 1 fT fdT ["self", "word"] (spTakes C))
    (M0 : Mn K C "number_from_nought" "Reader.number_from_nought" sFrom0 ["self"] f0 fd0) (G0 : FnOk P w K mg base (CXd P w) 2 f0 fd0 ["self"] (spFrom0 C CT))
    (MR : Mn K C "refuse" "Reader.refuse" sRefuse ["self", "wrong"] fR fdR) (GR : FnOk P w K mg base (CXd P w) 1 fR fdR ["self", "wrong"] (spRefuse C CT))
    (DG : Dn K mg "greatest_divisor" sGd ["number", "other"] fG fdG) (GG : FnOk P w K mg base CX0 1 fG fdG ["number", "other"] spG) : FnOk P w K mg base (CXd P w) 4 f fd ["self"] (spFrn C CT) := by
  refine F.okD scFrn (fun vs H Q E h => ?_) (fun cdv A outer s H vs Q E hr h => ?_)
  · obtain ⟨a, l, rfl, _⟩ := h
    rfl
  · obtain ⟨a, l, rfl, R, q1, q0⟩ := h
    obtain ⟨dx, _, _, e⟩ := R.ins
    refine ⟨_, pss_cons (ps_set (i := 1) scFrn.nd rfl (Or.inl rfl) (pe_meth0 (pv 0) T.cl MN.me GN hr MN.bd .nil pass_okD))
      (pss_cons (ps_if (pt_not (pt_val (pe_meth (pv 0) T.cl MT.me GT (hr.mono (by decide)) MT.bd .nil pass0 (pa_cons pe_str pa_nil)))) (pss_one (ps_ret (pe_tup (pa_cons (pv 1) (pa_cons pe_int pa_nil))))) (pss_nil))
      (pss_cons (ps_set (i := 2) scFrn.nd rfl (Or.inl rfl) (pe_meth0 (pv 0) T.cl M0.me G0 (hr.mono (by decide)) M0.bd .nil pass_okD))
      (pss_cons (ps_if (PW.pt (pw_or (pt_cmpR op_lt (pv 2) pe_int (nomark _)) (pw_or1 (pt_cmpR op_ne (pe_fn DG GG (hr.mono (by decide)) rfl (pa_cons (pv 1) (pa_cons (pv 2) pa_nil))) pe_int (nomark _))))) (pss_one (ps_expr (pe_meth (pv 0) T.cl MR.me GR (hr.mono (by decide)) MR.bd .nil pass_okD (pa_cons pe_str pa_nil)))) (pss_nil))
      (pss_one (ps_ret (pe_tup (pa_cons (pv 1) (pa_cons (pv 2) pa_nil)))))))), ?_⟩
    refine ⟨_, rfl, a, dx, _, rfl, e, rfl, ?_⟩
    refine nil_in ?_
    refine rs_numb R (fun n H1 b1 => q0 (by unfold pFrac; rw [n]) H1 b1) fun z r n H1 b1 R1 => ?_
    obtain ⟨dx1, _, _, e1⟩ := R1.ins
    refine ⟨_, rfl, a, dx1, _, rfl, e1, rfl, ?_⟩
    refine one_in ?_
    rw [lit_slash]
    refine rs_takes R1 (fun n1 => ⟨_, rfl, iteT ?_⟩) fun r' n1 H2 b2 R2 => ⟨_, rfl, iteF ?_⟩
    · refine ⟨_, rfl, (by show 2 ≤ sizeLine; decide), fun p hp => ?_⟩
      have pa := rs_new R1 hp
      refine q1 (z, 1) r (by unfold pFrac; simp only [n, n1]) p _ (b1.trans (But.new hp)) (R1.keep fun o z' => ?_) upd_same pa ?_
      · rw [upd_ne pa.symm]; exact z'
      · cases hq : H p with
        | none => rfl
        | some o => rw [b1 p o pa hq] at hp; cases hp
    · obtain ⟨dx2, _, _, e2⟩ := R2.ins
      refine ⟨_, rfl, a, dx2, _, rfl, e2, rfl, ?_⟩
      refine nil_in ?_
      refine rs_from0 R2 (fun n2 => q0 (by unfold pFrac; simp only [n, n1, n2]) H2 (b1.trans b2)) fun b r'' n2 H3 b3 R3 => ?_
      have b03 := (b1.trans b2).trans b3
      obtain ⟨dx3, _, _, e3⟩ := R3.ins
      have bad : (b < 2 ∨ M11.G z b ≠ 1) → E (.ref CT) none H3 := fun h => q0 (by unfold pFrac; simp only [n, n1, n2, if_pos h]) H3 b03
      have ref : (b < 2 ∨ M11.G z b ≠ 1) → ∀ Q', spRefuse C CT [.ref a, .str (Str.ofString "no fraction in lowest terms")] H3 Q' E := fun h Q' => by
        rw [show V.str (Str.ofString "no fraction in lowest terms") = .str (Sg (Str.ofString "no fraction in lowest terms").cps.toList) from lit_any _]
        exact rs_refuse R3 (by decide +kernel) (bad h)
      refine ⟨_, rfl, _, _, rfl, rfl, _, rfl, ?_⟩
      by_cases h2 : b < 2
      · refine itDP h2 ?_
        exact ⟨_, rfl, a, dx3, _, rfl, e3, rfl, one_in (ref (.inl h2) _)⟩
      · refine itDN h2 ?_
        refine ⟨_, rfl, _, rfl, z, b, rfl, rfl, _, rfl, ?_⟩
        by_cases hg : M11.G z b = 1
        · refine iteNS (by rw [hg]) ?_
          refine ⟨_, rfl, _, rfl, (by show 2 ≤ sizeLine; decide), fun p hp => ?_⟩
          have pa := rs_new R3 hp
          refine q1 (z, b) r'' (by unfold pFrac; simp only [n, n1, n2]; rw [if_neg]; rintro (h | h); (exact h2 h); (exact h hg)) p _ (b03.trans (But.new hp)) (R3.keep fun o z' => ?_) upd_same pa ?_
          · rw [upd_ne pa.symm]; exact z'
          · cases hq : H p with
            | none => rfl
            | some o => rw [b03 p o pa hq] at hp; cases hp
        · refine iteNP (fun z' => hg (V.int.inj z')) ?_
          exact ⟨_, rfl, a, dx3, _, rfl, e3, rfl, one_in (ref (.inr hg) _)⟩
end
section
variable {P : Program} {w : World} {K : PySem.W.Frag} {mg : Str → Option Value} {base : Heap}
open TM
def sideS (s : Bool) : Str := if s = true then "table" else "row"
def sgTab : List (Str × Str) := [("both", " * "), ("plus", " + "), ("then", " then "), ("meet", " meet ")]
def inSide : List (Str × Str) := [("near", "row"), ("rows", "table"), ("on", "row"), ("turned", "table")]
structure TabW (K : PySem.W.Frag) (mg : Str → Option Value) (x : Str) (ws : Bool → List V) : Prop where
  ex : ∃ a q0 q1, mg x = some (.ref a) ∧ TabR K a [("row", q0), ("table", q1)] ∧ (∀ H, SqT K H q0 (ws false)) ∧ ∀ H, SqT K H q1 (ws true)
theorem TabW.at {x : Str} {ws : Bool → List V} (W : TabW K mg x ws) (s : Bool) : ∃ a D q, mg x = some (.ref a) ∧ TabR K a D ∧ KTD.datumAt (sideS s) D = some q ∧ ∀ H, SqT K H q (ws s) := by
  obtain ⟨a, q0, q1, h1, h2, h3, h4⟩ := W.ex
  cases s
  · exact ⟨a, _, q0, h1, h2, by unfold KTD.datumAt; rw [if_pos (by decide +kernel)], h3⟩
  · exact ⟨a, _, q1, h1, h2, by unfold KTD.datumAt; rw [if_neg (by decide +kernel)]; unfold KTD.datumAt; rw [if_pos (by decide +kernel)], h4⟩
structure Tabs (K : PySem.W.Frag) (mg : Str → Option Value) : Prop where
  leaves : TabW K mg "LEAVES" fun s => (leafs s).map fun k => .str k.word
  one : TabW K mg "WITH_ONE" fun s => (ones s).map fun k => .str k.1.word
  two : TabW K mg "WITH_TWO" fun s => (twos s).map fun k => .str k.word
  signs : ∃ a, mg "SIGNS" = some (.ref a) ∧ TabS K a sgTab
  inner : ∃ a, mg "INNER_SIDE" = some (.ref a) ∧ TabS K a inSide
  deep : ∃ t, mg "DEEPEST" = some (.int 20 t)
theorem sg_word (k : Bi) : KTD.datumAt k.word sgTab = some (Sg (biT k)) := by cases k <;> decide +kernel
theorem in_word {k : Un} {s s' : Bool} (h : (k, s') ∈ ones s) : KTD.datumAt k.word inSide = some (sideS s') := by
  cases s
  · have h' : (k = .near ∧ s' = false) ∨ (k = .rows ∧ s' = true) := by simpa [ones] using h
    rcases h' with ⟨rfl, rfl⟩ | ⟨rfl, rfl⟩ <;> decide +kernel
  · have h' : (k = .on ∧ s' = false) ∨ (k = .turned ∧ s' = true) := by simpa [ones] using h
    rcases h' with ⟨rfl, rfl⟩ | ⟨rfl, rfl⟩ <;> decide +kernel
def spLookD (C CT : Addr) : Sp := fun vs H Q E => ∃ (a : Addr) (l : List Nat) (d : Int), vs = [.ref a, .int d] ∧ Rs C H a l ∧ (d ≤ 20 → Q .non H) ∧ (20 < d → E (.ref CT) none H)
theorem scLookD : FnScope ["reader", "depth"] ["reader", "depth"] (defScope sLookD) := ⟨rfl, rfl, rfl, by decide +kernel, rfl, by decide +kernel, by decide +kernel⟩
theorem ok_lookD {f fR C CT : Addr} {fd fdR : FuncData} (T : ClsR K C) (TB : Tabs K mg) (F : Fun K "look_at_depth" "look_at_depth" sLookD f fd)
    (MR : Mn K C "refuse" "Reader.refuse" sRefuse ["self", "wrong"] fR fdR) (GR : FnOk P w K mg base (CXd P w) 1 fR fdR ["self", "wrong"] (spRefuse C CT)) : FnOk P w K mg base (CXd P w) 2 f fd ["reader", "depth"] (spLookD C CT) := by
  obtain ⟨tk, gD⟩ := TB.deep
  refine F.okD scLookD (fun vs H Q E h => ?_) (fun cdv A outer s H vs Q E hr h => ?_)
  · obtain ⟨a, l, d, rfl, _⟩ := h
    rfl
  · obtain ⟨a, l, d, rfl, R, q1, q0⟩ := h
    obtain ⟨dx, _, _, e⟩ := R.ins
    refine ⟨_, pss_one (ps_if (pt_cmpR op_gt (pv 1) (pe_glob (v := .int 20) rfl gD ⟨_, rfl⟩) (nomark _)) (pss_one (ps_expr (pe_meth (pv 0) T.cl MR.me GR hr MR.bd .nil pass_okD (pa_cons pe_str pa_nil)))) (pss_nil)), ?_⟩
    refine ⟨_, rfl, _, _, rfl, rfl, _, rfl, ?_⟩
    by_cases hd : 20 < d
    · refine itDP hd ?_
      refine ⟨_, rfl, a, dx, _, rfl, e, rfl, one_in ?_⟩
      rw [lit_any]
      exact rs_refuse R (by decide +kernel) (q0 hd)
    · exact itDN hd (q1 (by omega))
theorem first_drop {α : Type} {f : α → List Nat} {ks : List α} {l : List Nat} {i : Nat} {k : α} (hk : ks[i]? = some k) : pFirst f (ks.drop i) l = match pTake (f k) l with
    | some r => some (k, r)
    | none => pFirst f (ks.drop (i + 1)) l := by
  have hi := (List.getElem?_eq_some_iff.mp hk).1
  rw [List.drop_eq_getElem_cons hi, (List.getElem?_eq_some_iff.mp hk).2]
  rfl
def spSign (C CT : Addr) : Sp := fun vs H Q E => ∃ (a : Addr) (l : List Nat) (s : Bool), vs = [.ref a, .str (sideS s)] ∧ Rs C H a l ∧
  (∀ k r, pFirst biT (twos s) l = some (k, r) → ∀ H', But a H H' → Rs C H' a r → Q (.str k.word) H') ∧ (pFirst biT (twos s) l = none → E (.ref CT) none H)
abbrev nSign : List Str := ["reader", "side", "kind"]
theorem scSign : FnScope nSign ["reader", "side"] (defScope sSignF) := ⟨rfl, rfl, rfl, by decide +kernel, rfl, by decide +kernel, by decide +kernel⟩
theorem ok_sign {f fT C CT : Addr} {fd fdT : FuncData} (T : ClsR K C) (TB : Tabs K mg) (N : NoT K mg CT) (F : Fun K "sign_from" "sign_from" sSignF f fd)
    (MT : Mn K C "takes" "Reader.takes" sTakes ["self", "word"] fT fdT) (GT : FnOk P w K mg base CX0 1 fT fdT ["self", "word"] (spTakes C)) : FnOk P w K mg base (CXd P w) 2 f fd ["reader", "side"] (spSign C CT) := by
  obtain ⟨bmT, ZT⟩ := N.ex
  obtain ⟨aS, gS, tS⟩ := TB.signs
  refine F.okD scSign (fun vs H Q E h => ?_) (fun cdv A outer s H vs Q E hr h => ?_)
  · obtain ⟨a, l, s, rfl, _⟩ := h
    rfl
  · obtain ⟨a, l, sd, rfl, R, q1, q0⟩ := h
    obtain ⟨aW, D, qW, gW, tW, dW, sW⟩ := TB.two.at sd
    obtain ⟨dx, _, _, e⟩ := R.ins
    refine ⟨_, pss_cons (ps_for PassesOwn.leaving rfl (pi_tup (pe_ix (ix_tabR tW) (pe_glob (v := .ref aW) rfl gW rfl) (pv 1) (fun _ _ => rfl))) (pg_name (i := 2) scSign.nd rfl (Or.inl rfl)) (pss_one (ps_if (pt_val (pe_meth (pv 0) T.cl MT.me GT hr MT.bd .nil pass0 (pa_cons (pe_ix (ix_tabS tS) (pe_glob (v := .ref aS) rfl gS rfl) (pv 2) (fun _ _ => rfl)) pa_nil))) (pss_one (ps_ret (pv 2))) (pss_nil))))
      (pss_one (ps_raise0 rfl ZT rfl N.gl (pa_cons pe_str pa_nil) raise_okD)), ?_⟩
    refine ⟨_, rfl, _, _, rfl, rfl, dW, qW, rfl, ⟨_, sW H⟩, for_tup (K := K) (a := qW) (xs := (twos sd).map fun k => .str k.word) (fun i σ H' => ∃ o2 : Option V, σ = [some (.ref a), some (.str (sideS sd)), o2] ∧ H' = H ∧ pFirst biT (twos sd) l = pFirst biT ((twos sd).drop i) l) ⟨_, rfl, rfl, rfl⟩ (fun i σ H' _ _ => sW H') ?_ ?_⟩
    · rintro i x σ H1 hx ⟨o2, rfl, rfl, inv⟩
      obtain ⟨k, hk, rfl⟩ := map_get hx
      refine ⟨_, rfl, a, dx, _, rfl, e, rfl, _, rfl, _, _, rfl, rfl, sg_word k, nil_in ?_⟩
      refine rs_takes R (fun n => ⟨_, rfl, iteF ?_⟩) fun r n H2 b2 R2 => ⟨_, rfl, iteT ?_⟩
      · refine ⟨_, rfl, rfl, ?_⟩
        rw [inv, first_drop hk, n]
      · refine ⟨_, rfl, q1 k r ?_ H2 b2 R2⟩
        rw [inv, first_drop hk, n]
    · rintro σ H1 ⟨o2, rfl, rfl, inv⟩
      rw [List.length_map, List.drop_length] at inv
      refine ⟨(by show 1 ≤ sizeLine; decide), fun x hx => ⟨hx, ?_⟩⟩
      rw [del_upd, del_new hx]
      exact q0 inv
end
section
variable {P : Program} {w : World} {K : PySem.W.Frag} {mg : Str → Option Value} {base : Heap}
open TM
def p2 (n : Nat) (s : Bool) (l : List Nat) : Option (Te × List Nat) := match pT n s l with
  | none => none
  | some (t, r1) => match pFirst biT (twos s) r1 with
    | none => none
    | some (k, r2) => match pT n s r2 with
      | none => none
      | some (u, r3) => match pTake [41] r3 with
        | none => none
        | some r4 => some (.bi k t u, r4)
def pM (n : Nat) (s : Bool) (l : List Nat) : Option (Te × List Nat) := match pFrac l with
  | none => none
  | some (f, r) => match pTake [32, 111, 102, 32] r with
    | none => none
    | some r1 => match pT n s r1 with
      | some (t, r2) => some (.un (.many f.1 f.2) t, r2)
      | none => none
theorem pT_succ (n : Nat) (s : Bool) (l : List Nat) : pT (n + 1) s l = match pFirst lfT (leafs s) l with
    | some (k, r) => some (.lf k, r)
    | none => match pFirst (fun x => unT x.1) (ones s) l with
      | some (k, r) => match pT n k.2 r with
        | some (t, r') => some (.un k.1 t, r')
        | none => none
      | none => match (if s = true then none else pTake [104, 117, 101, 32] l) with
        | some r => match pNum0 r with
          | some (c, r') => some (.lf (.hue c), r')
          | none => none
        | none => match pTake [40] l with
          | some r => p2 n s r
          | none => pM n s l := by
  rw [pT]
  rfl
structure Red (K : PySem.W.Frag) (C CT : Addr) (x : Option (Te × List Nat)) (a : Addr) (H : Hp) (Q : VK) (E : XK) : Prop where
  yes : ∀ te r, x = some (te, r) → ∀ v H', But a H H' → Rs C H' a r → DA K (fun b => b ≠ a) H' v te.dat → Q v H'
  no : x = none → ∀ H', But a H H' → E (.ref CT) none H'
theorem Red.on {C CT : Addr} {x : Option (Te × List Nat)} {a : Addr} {H H1 : Hp} {Q : VK} {E : XK} (R : Red K C CT x a H Q E) (b : But a H H1) : Red K C CT x a H1 Q E :=
  ⟨fun te r e v H' b' => R.yes te r e v H' (b.trans b'), fun e H' b' => R.no e H' (b.trans b')⟩
theorem da_but {a : Addr} {H H' : Hp} {v : V} {d : PyData} (h : DA K (fun b => b ≠ a) H v d) (b : But a H H') : DA K (fun b => b ≠ a) H' v d := h.mono (fun c o n e => b c o n e) fun _ z => z
def spTermF (K : PySem.W.Frag) (C CT : Addr) (n : Nat) : Sp := fun vs H Q E => ∃ (a : Addr) (l : List Nat) (s : Bool) (d : Int), vs = [.ref a, .str (sideS s), .int d] ∧ d + (n : Int) = 21 ∧ Rs C H a l ∧ Red K C CT (pT n s l) a H Q E
def spTwoF (K : PySem.W.Frag) (C CT : Addr) (n : Nat) : Sp := fun vs H Q E => ∃ (a : Addr) (l : List Nat) (s : Bool) (d : Int), vs = [.ref a, .str (sideS s), .int d] ∧ d + (n : Int) = 21 ∧ Rs C H a l ∧ Red K C CT (p2 n s l) a H Q E
def spManyF (K : PySem.W.Frag) (C CT : Addr) (n : Nat) : Sp := fun vs H Q E => ∃ (a : Addr) (l : List Nat) (s : Bool) (d : Int), vs = [.ref a, .str (sideS s), .int d] ∧ d + (n : Int) = 21 ∧ Rs C H a l ∧ Red K C CT (pM n s l) a H Q E
abbrev nTwo : List Str := ["reader", "side", "depth", "first", "kind", "second"]
theorem scTwoF : FnScope nTwo ["reader", "side", "depth"] (defScope sTwoF) := ⟨rfl, rfl, rfl, by decide +kernel, rfl, by decide +kernel, by decide +kernel⟩
theorem lit_close : Str.ofString ")" = Sg [41] := by decide +kernel
theorem lit_open : Str.ofString "(" = Sg [40] := by decide +kernel
theorem lit_of : Str.ofString " of " = Sg [32, 111, 102, 32] := by decide +kernel
theorem ok_twoF {f fT fS fM C CT : Addr} {fd fdT fdS fdM : FuncData} {k n : Nat} (hk : 4 ≤ k) (T : ClsR K C) (F : Fun K "two_terms_from" "two_terms_from" sTwoF f fd)
    (DT : Dn K mg "term_from" sTermF ["reader", "side", "depth"] fT fdT) (GT : FnOk P w K mg base (CXd P w) k fT fdT ["reader", "side", "depth"] (spTermF K C CT n))
    (DS : Dn K mg "sign_from" sSignF ["reader", "side"] fS fdS) (GS : FnOk P w K mg base (CXd P w) 2 fS fdS ["reader", "side"] (spSign C CT))
    (MM : Mn K C "must_take" "Reader.must_take" sMust ["self", "word"] fM fdM) (GM : FnOk P w K mg base (CXd P w) 2 fM fdM ["self", "word"] (spMust C CT)) : FnOk P w K mg base (CXd P w) (k + 1) f fd ["reader", "side", "depth"] (spTwoF K C CT n) := by
  refine F.okD scTwoF (fun vs H Q E h => ?_) (fun cdv A outer s H vs Q E hr h => ?_)
  · obtain ⟨a, l, s, d, rfl, _⟩ := h
    rfl
  · obtain ⟨a, l, s, d, rfl, hd, R, rd⟩ := h
    have r2 := hr.mono (j := 2) (by omega)
    refine ⟨_, pss_cons (ps_set (i := 3) scTwoF.nd rfl (Or.inl rfl) (pe_fnX DT GT pass_okD hr rfl (pa_cons (pv 0) (pa_cons (pv 1) (pa_cons (pv 2) pa_nil)))))
      (pss_cons (ps_set (i := 4) scTwoF.nd rfl (Or.inl rfl) (pe_fnX DS GS pass_okD r2 rfl (pa_cons (pv 0) (pa_cons (pv 1) pa_nil))))
      (pss_cons (ps_set (i := 5) scTwoF.nd rfl (Or.inl rfl) (pe_fnX DT GT pass_okD hr rfl (pa_cons (pv 0) (pa_cons (pv 1) (pa_cons (pv 2) pa_nil)))))
      (pss_cons (ps_expr (pe_meth (pv 0) T.cl MM.me GM r2 MM.bd .nil pass_okD (pa_cons pe_str pa_nil)))
      (pss_one (ps_ret (pe_tup (pa_cons (pv 4) (pa_cons (pv 3) (pa_cons (pv 5) pa_nil))))))))), ?_⟩
    refine ⟨_, rfl, _, rfl, _, rfl, a, l, s, d, rfl, hd, R, ⟨fun te r e v H1 b1 R1 d1 => ?_, fun e H1 b1 => rd.no (by unfold p2; rw [e]) H1 b1⟩⟩
    refine ⟨_, rfl, _, rfl, a, r, s, rfl, R1, fun k' r' e1 H2 b2 R2 => ?_, fun e1 => rd.no (by unfold p2; simp only [e, e1]) H1 b1⟩
    have d2 := da_but d1 b2
    have b12 := b1.trans b2
    refine ⟨_, rfl, _, rfl, _, rfl, a, r', s, d, rfl, hd, R2, ⟨fun te2 r2 e2 v2 H3 b3 R3 d3 => ?_, fun e2 H3 b3 => rd.no (by unfold p2; simp only [e, e1, e2]) H3 (b12.trans b3)⟩⟩
    have d2' := da_but d2 b3
    have b13 := b12.trans b3
    obtain ⟨dx, _, _, ea⟩ := R3.ins
    refine ⟨_, rfl, a, dx, _, rfl, ea, rfl, one_in ?_⟩
    rw [lit_close]
    refine rs_must R3 (by decide) (by decide) (fun e3 => rd.no (by unfold p2; simp only [e, e1, e2, e3]) H3 b13) fun r4 e3 H4 b4 R4 => ?_
    refine ⟨_, rfl, _, rfl, _, rfl, (by show 3 ≤ sizeLine; decide), fun p hp => ?_⟩
    have pa := rs_new R4 hp
    have s5 : Same H4 (L2.upd H4 p (.tup [.str k'.word, v, v2])) := Same.upd hp
    refine rd.yes (.bi k' te te2) r4 (by unfold p2; simp only [e, e1, e2, e3]) (.ref p) _ ((b13.trans b4).trans (But.new hp)) (R4.keep fun o z => s5 _ _ z) ?_
    exact .tup pa (SqT.of upd_same) (.cons (.str _) (.cons (da_but (da_but d2' b4) (But.new hp)) (.cons (da_but (da_but d3 b4) (But.new hp)) .nil)))
abbrev nMany : List Str := ["reader", "side", "depth", "f"]
theorem scManyF : FnScope nMany ["reader", "side", "depth"] (defScope sManyF) := ⟨rfl, rfl, rfl, by decide +kernel, rfl, by decide +kernel, by decide +kernel⟩
theorem ok_manyF {f fT fF fM C CT : Addr} {fd fdT fdF fdM : FuncData} {k n : Nat} (hk : 4 ≤ k) (T : ClsR K C) (F : Fun K "many_from" "many_from" sManyF f fd)
    (DT : Dn K mg "term_from" sTermF ["reader", "side", "depth"] fT fdT) (GT : FnOk P w K mg base (CXd P w) k fT fdT ["reader", "side", "depth"] (spTermF K C CT n))
    (MF : Mn K C "fraction" "Reader.fraction" sFrn ["self"] fF fdF) (GF : FnOk P w K mg base (CXd P w) 4 fF fdF ["self"] (spFrn C CT))
    (MM : Mn K C "must_take" "Reader.must_take" sMust ["self", "word"] fM fdM) (GM : FnOk P w K mg base (CXd P w) 2 fM fdM ["self", "word"] (spMust C CT)) : FnOk P w K mg base (CXd P w) (k + 1) f fd ["reader", "side", "depth"] (spManyF K C CT n) := by
  refine F.okD scManyF (fun vs H Q E h => ?_) (fun cdv A outer s H vs Q E hr h => ?_)
  · obtain ⟨a, l, s, d, rfl, _⟩ := h
    rfl
  · obtain ⟨a, l, s, d, rfl, hd, R, rd⟩ := h
    have r2 := hr.mono (j := 2) (by omega)
    have r4 := hr.mono (j := 4) hk
    obtain ⟨dx, _, _, ea⟩ := R.ins
    refine ⟨_, pss_cons (ps_set (i := 3) scManyF.nd rfl (Or.inl rfl) (pe_meth0 (pv 0) T.cl MF.me GF r4 MF.bd .nil pass_okD))
      (pss_cons (ps_expr (pe_meth (pv 0) T.cl MM.me GM r2 MM.bd .nil pass_okD (pa_cons pe_str pa_nil)))
      (pss_one (ps_ret (pe_tup (pa_cons pe_str (pa_cons (pv 3) (pa_cons (pe_fnX DT GT pass_okD hr rfl (pa_cons (pv 0) (pa_cons (pv 1) (pa_cons (pv 2) pa_nil)))) pa_nil))))))), ?_⟩
    refine ⟨_, rfl, a, dx, _, rfl, ea, rfl, a, l, rfl, R, fun fr r e q H1 b1 R1 eq qa _ => ?_, fun e H1 b1 => rd.no (by unfold pM; rw [e]) H1 b1⟩
    obtain ⟨dx1, _, _, ea1⟩ := R1.ins
    refine ⟨_, rfl, a, dx1, _, rfl, ea1, rfl, one_in ?_⟩
    rw [lit_of]
    refine rs_must R1 (by decide) (by decide) (fun e1 => rd.no (by unfold pM; simp only [e, e1]) H1 b1) fun r1 e1 H2 b2 R2 => ?_
    have eq2 := b2 q _ qa eq
    have b12 := b1.trans b2
    refine ⟨_, rfl, _, rfl, _, rfl, _, rfl, a, r1, s, d, rfl, hd, R2, ⟨fun te r3 e2 v H3 b3 R3 d3 => ?_, fun e2 H3 b3 => rd.no (by unfold pM; simp only [e, e1, e2]) H3 (b12.trans b3)⟩⟩
    refine ⟨(by show 3 ≤ sizeLine; decide), fun p hp => ?_⟩
    have pa := rs_new R3 hp
    have eq3 := b3 q _ qa eq2
    have s5 : Same H3 (L2.upd H3 p (.tup [.str "many", .ref q, v])) := Same.upd hp
    refine rd.yes (.un (.many fr.1 fr.2) te) r3 (by unfold pM; simp only [e, e1, e2]) (.ref p) _ ((b12.trans b3).trans (But.new hp)) (R3.keep fun o z => s5 _ _ z) ?_
    exact .tup pa (SqT.of upd_same) (.cons (.str _) (.cons (.tup qa (SqT.of (s5 _ _ eq3)) (.cons (.int _) (.cons (.int _) .nil))) (.cons (da_but d3 (But.new hp)) .nil)))
abbrev nTermF : List Str := ["reader", "side", "depth", "kind"]
theorem scTermF : FnScope nTermF ["reader", "side", "depth"] (defScope sTermF) := ⟨rfl, rfl, rfl, by decide +kernel, rfl, by decide +kernel, by decide +kernel⟩
theorem lf_word {s : Bool} {k : Lf} (h : k ∈ leafs s) : k.word = Sg (lfT k) ∧ k.rest = [] := by
  cases s
  · have h' : k = .one := by simpa [leafs] using h
    subst h'
    exact ⟨by decide +kernel, rfl⟩
  · have h' : k = .same ∨ k = .tie ∨ k = .all := by simpa [leafs] using h
    rcases h' with rfl | rfl | rfl <;> exact ⟨by decide +kernel, rfl⟩
theorem un_word {s s' : Bool} {k : Un} (h : (k, s') ∈ ones s) : k.word ++ Str.ofString " " = Sg (unT k) ∧ k.rest = [] ∧ k.word.length ≤ 10 := by
  cases s
  · have h' : (k = .near ∧ s' = false) ∨ (k = .rows ∧ s' = true) := by simpa [ones] using h
    rcases h' with ⟨rfl, rfl⟩ | ⟨rfl, rfl⟩ <;> exact ⟨by decide +kernel, rfl, by decide +kernel⟩
  · have h' : (k = .on ∧ s' = false) ∨ (k = .turned ∧ s' = true) := by simpa [ones] using h
    rcases h' with ⟨rfl, rfl⟩ | ⟨rfl, rfl⟩ <;> exact ⟨by decide +kernel, rfl, by decide +kernel⟩
theorem lit_hueb : Str.ofString "hue " = Sg [104, 117, 101, 32] := by decide +kernel
theorem side_row (s : Bool) : V.str (sideS s) = .str (Str.ofString "row") ↔ s = false := by
  cases s
  · exact ⟨fun _ => rfl, fun _ => rfl⟩
  · refine ⟨fun h => ?_, fun h => by cases h⟩
    have : sideS true ≠ Str.ofString "row" := by decide +kernel
    exact absurd (V.str.inj h) this
theorem ok_termF {f fL fT f0 f2 fM fTk C CT : Addr} {fd fdL fd0 fd2 fdM fdTk fdS fdF fdMt fdW : FuncData} {fS fF fMt : Addr} (T : ClsR K C) (TB : Tabs K mg) (D : Dn K mg "term_from" sTermF ["reader", "side", "depth"] f fd)
    (DL : Dn K mg "look_at_depth" sLookD ["reader", "depth"] fL fdL) (GL : FnOk P w K mg base (CXd P w) 2 fL fdL ["reader", "depth"] (spLookD C CT))
    (MT : Mn K C "takes" "Reader.takes" sTakes ["self", "word"] fTk fdTk) (GT : FnOk P w K mg base CX0 1 fTk fdTk ["self", "word"] (spTakes C))
    (M0 : Mn K C "number_from_nought" "Reader.number_from_nought" sFrom0 ["self"] f0 fd0) (G0 : FnOk P w K mg base (CXd P w) 2 f0 fd0 ["self"] (spFrom0 C CT))
    (D2 : Dn K mg "two_terms_from" sTwoF ["reader", "side", "depth"] f2 fd2) (DM : Dn K mg "many_from" sManyF ["reader", "side", "depth"] fM fdM)
    (DS : Dn K mg "sign_from" sSignF ["reader", "side"] fS fdS) (GS : FnOk P w K mg base (CXd P w) 2 fS fdS ["reader", "side"] (spSign C CT))
    (MF : Mn K C "fraction" "Reader.fraction" sFrn ["self"] fF fdF) (GF : FnOk P w K mg base (CXd P w) 4 fF fdF ["self"] (spFrn C CT))
    (MM : Mn K C "must_take" "Reader.must_take" sMust ["self", "word"] fMt fdMt) (GM : FnOk P w K mg base (CXd P w) 2 fMt fdMt ["self", "word"] (spMust C CT)) :
    ∀ n : Nat, FnOk P w K mg base (CXd P w) (6 + 2 * n) f fd ["reader", "side", "depth"] (spTermF K C CT n) := by
  obtain ⟨aI, gI, tI⟩ := TB.inner
  intro n
  induction n with
  | zero =>
    refine D.fn.okD scTermF (fun vs H Q E h => ?_) (fun cdv A outer s H vs Q E hr h => ?_)
    · obtain ⟨a, l, s, d, rfl, _⟩ := h
      rfl
    · obtain ⟨a, l, s, d, rfl, hd, R, rd⟩ := h
      refine ⟨_, pss_cons (ps_expr (pe_fnX DL GL pass_okD (hr.mono (by omega)) rfl (pa_cons (pv 0) (pa_cons (pv 2) pa_nil)))) pss_never, ?_⟩
      refine ⟨_, rfl, _, rfl, a, l, d, rfl, R, fun h => absurd h (by omega), fun _ => rd.no rfl H (But.refl a H)⟩
  | succ n ih =>
    have GTw := ok_twoF (by omega) T D2.fn D ih DS GS MM GM
    have GMy := ok_manyF (by omega) T DM.fn D ih MF GF MM GM
    have lv : 6 + 2 * (n + 1) = (6 + 2 * n + 1) + 1 := by omega
    rw [lv]
    refine D.fn.okD scTermF (fun vs H Q E h => ?_) (fun cdv A outer s H vs Q E hr h => ?_)
    · obtain ⟨a, l, s, d, rfl, _⟩ := h
      rfl
    · obtain ⟨a, l, s, d, rfl, hd, R, rd⟩ := h
      have r1 := hr.mono (j := 1) (by omega)
      have r2 := hr.mono (j := 2) (by omega)
      have r6 := hr.mono (j := 6 + 2 * n) (by omega)
      obtain ⟨aW, D1, qW, gW, tW, dW, sW⟩ := TB.leaves.at s
      obtain ⟨aV, D2', qV, gV, tV, dV, sV⟩ := TB.one.at s
      obtain ⟨dx, _, _, e⟩ := R.ins
      rw [pT_succ] at rd
      refine ⟨_, pss_cons (ps_expr (pe_fnX DL GL pass_okD r2 rfl (pa_cons (pv 0) (pa_cons (pv 2) pa_nil))))
      (pss_cons (ps_for PassesOwn.leaving rfl (pi_tup (pe_ix (ix_tabR tW) (pe_glob (v := .ref aW) rfl gW rfl) (pv 1) (fun _ _ => rfl))) (pg_name (i := 3) scTermF.nd rfl (Or.inl rfl)) (pss_one (ps_if (pt_val (pe_meth (pv 0) T.cl MT.me GT r1 MT.bd .nil pass0 (pa_cons (pv 3) pa_nil))) (pss_one (ps_ret (pe_tup (pa_cons (pv 3) pa_nil)))) (pss_nil))))
      (pss_cons (ps_for PassesOwn.leaving rfl (pi_tup (pe_ix (ix_tabR tV) (pe_glob (v := .ref aV) rfl gV rfl) (pv 1) (fun _ _ => rfl))) (pg_name (i := 3) scTermF.nd rfl (Or.inl rfl)) (pss_one (ps_if (pt_val (pe_meth (pv 0) T.cl MT.me GT r1 MT.bd .nil pass0 (pa_cons (pe_op op_add_str (pv 3) pe_str) pa_nil))) (pss_one (ps_ret (pe_tup (pa_cons (pv 3) (pa_cons (pe_fnX D ih pass_okD r6 rfl (pa_cons (pv 0) (pa_cons (pe_ix (ix_tabS tI) (pe_glob (v := .ref aI) rfl gI rfl) (pv 3) (fun _ _ => rfl)) (pa_cons (pe_op op_add (pv 2) pe_int) pa_nil)))) pa_nil))))) (pss_nil))))
      (pss_mid (ps_if (PW.pt (pw_and (pt_cmpR op_eq (pv 1) pe_str (nomark _)) (pw_and1 (pt_val (pe_meth (pv 0) T.cl MT.me GT r1 MT.bd .nil pass0 (pa_cons pe_str pa_nil)))))) (pss_one (ps_ret (pe_tup (pa_cons pe_str (pa_cons (pe_meth0 (pv 0) T.cl M0.me G0 r2 M0.bd .nil pass_okD) pa_nil))))) (pss_nil))
      (pss_cons (ps_if (pt_val (pe_meth (pv 0) T.cl MT.me GT r1 MT.bd .nil pass0 (pa_cons pe_str pa_nil))) (pss_one (ps_ret (pe_fnX D2 GTw pass_okD hr rfl (pa_cons (pv 0) (pa_cons (pv 1) (pa_cons (pe_op op_add (pv 2) pe_int) pa_nil)))))) (pss_nil))
      (pss_one (ps_ret (pe_fnX DM GMy pass_okD hr rfl (pa_cons (pv 0) (pa_cons (pv 1) (pa_cons (pe_op op_add (pv 2) pe_int) pa_nil)))))))))), ?_⟩
      refine ⟨_, rfl, _, rfl, a, l, d, rfl, R, fun _ => ?_, fun h => absurd h (by omega)⟩
      refine ⟨_, rfl, _, _, rfl, rfl, dW, qW, rfl, ⟨_, sW H⟩, for_tup (K := K) (a := qW) (xs := (leafs s).map fun k => .str k.word) (fun i σ H' => ∃ o3 : Option V, σ = [some (.ref a), some (.str (sideS s)), some (.int d), o3] ∧ H' = H ∧ pFirst lfT (leafs s) l = pFirst lfT ((leafs s).drop i) l) ⟨_, rfl, rfl, rfl⟩ (fun i σ H' _ _ => sW H') ?_ ?_⟩
      · rintro i x σ H1 hx ⟨o3, rfl, rfl, inv⟩
        obtain ⟨k, hk, rfl⟩ := map_get hx
        obtain ⟨wk, rk⟩ := lf_word (List.mem_of_getElem? hk)
        refine ⟨_, rfl, a, dx, _, rfl, e, rfl, _, rfl, nil_in ?_⟩
        rw [wk]
        refine rs_takes R (fun nn => ⟨_, rfl, iteF ?_⟩) fun r nn H2 b2 R2 => ⟨_, rfl, iteT ?_⟩
        · refine ⟨_, rfl, rfl, ?_⟩
          rw [inv, first_drop hk, nn]
        · refine ⟨_, rfl, (by show 1 ≤ sizeLine; decide), fun p hp => ?_⟩
          have pa := rs_new R2 hp
          have s3 : Same H2 (L2.upd H2 p (.tup [.str (Sg (lfT k))])) := Same.upd hp
          have hf : pFirst lfT (leafs s) l = some (k, r) := by rw [inv, first_drop hk, nn]
          refine rd.yes (.lf k) r (by simp only [hf]) (.ref p) _ (b2.trans (But.new hp)) (R2.keep fun o z => s3 _ _ z) ?_
          show DA K _ _ _ (.tuple (.str k.word :: k.rest))
          rw [rk, wk]
          exact .tup pa (SqT.of upd_same) (.cons (.str _) .nil)
      · rintro σ H1 ⟨o3, rfl, rfl, inv⟩
        rw [List.length_map, List.drop_length] at inv
        have inv1 : pFirst lfT (leafs s) l = none := inv
        simp only [inv1] at rd
        refine ⟨_, rfl, _, _, rfl, rfl, dV, qV, rfl, ⟨_, sV H1⟩, for_tup (K := K) (a := qV) (xs := (ones s).map fun k => .str k.1.word) (fun i σ H' => ∃ o3 : Option V, σ = [some (.ref a), some (.str (sideS s)), some (.int d), o3] ∧ H' = H1 ∧ pFirst (fun x => unT x.1) (ones s) l = pFirst (fun x => unT x.1) ((ones s).drop i) l) ⟨_, rfl, rfl, rfl⟩ (fun i σ H' _ _ => sV H') ?_ ?_⟩
        · rintro i x σ H2 hx ⟨o3', rfl, rfl, inv⟩
          obtain ⟨⟨k, s'⟩, hk, rfl⟩ := map_get hx
          have hm := List.mem_of_getElem? hk
          obtain ⟨wk, rk, lk⟩ := un_word hm
          refine ⟨_, rfl, a, dx, _, rfl, e, rfl, _, rfl, _, _, rfl, rfl, ?_, nil_in ?_⟩
          · have l1 : (Str.ofString " ").length = 1 := by decide +kernel
            have l2 : (k, s').fst.word.length ≤ 10 := lk
            exact sz100 (by rw [l1]; omega)
          rw [wk]
          refine rs_takes R (fun nn => ⟨_, rfl, iteF ?_⟩) fun r nn H3 b3 R3 => ⟨_, rfl, iteT ?_⟩
          · refine ⟨_, rfl, rfl, ?_⟩
            rw [inv, first_drop hk, nn]
          · have hf : pFirst (fun x => unT x.1) (ones s) l = some ((k, s'), r) := by rw [inv, first_drop hk, nn]
            simp only [hf] at rd
            refine ⟨_, rfl, _, rfl, _, rfl, _, _, rfl, rfl, in_word hm, _, rfl, _, _, rfl, rfl, a, r, s', d + 1, rfl, by omega, R3, ⟨fun te r4 e4 v H4 b4 R4 d4 => ?_, fun e4 H4 b4 => rd.no (by rw [e4]) H4 (b3.trans b4)⟩⟩
            refine ⟨(by show 2 ≤ sizeLine; decide), fun p hp => ?_⟩
            have pa := rs_new R4 hp
            have s5 : Same H4 (L2.upd H4 p (.tup [.str k.word, v])) := Same.upd hp
            refine rd.yes (.un k te) r4 (by rw [e4]) (.ref p) _ ((b3.trans b4).trans (But.new hp)) (R4.keep fun o z => s5 _ _ z) ?_
            show DA K _ _ _ (.tuple (.str k.word :: (k.rest ++ [te.dat])))
            rw [rk]
            exact .tup pa (SqT.of upd_same) (.cons (.str _) (.cons (da_but d4 (But.new hp)) .nil))
        · rintro σ H2 ⟨o3', rfl, rfl, inv⟩
          rw [List.length_map, List.drop_length] at inv
          have inv2 : pFirst (fun x => unT x.1) (ones s) l = none := inv
          simp only [inv2] at rd
          refine ⟨fun σ H' => σ = [some (.ref a), some (.str (sideS s)), some (.int d), o3'] ∧ H' = H2 ∧ (if s = true then none else pTake [104, 117, 101, 32] l) = none, ?_, ?_⟩
          · refine ⟨_, rfl, rfl, _, rfl, ?_⟩
            by_cases hs : s = false
            · subst hs
              refine itDP ((side_row false).mpr rfl) ?_
              refine ⟨_, rfl, a, dx, _, rfl, e, rfl, one_in ?_⟩
              rw [lit_hueb]
              refine rs_takes R (fun nn => ⟨_, rfl, iteF ⟨rfl, rfl, nn⟩⟩) fun r nn H3 b3 R3 => ⟨_, rfl, iteT ?_⟩
              have nn' : (if false = true then none else pTake [104, 117, 101, 32] l) = some r := nn
              simp only [nn'] at rd
              obtain ⟨dx3, _, _, e3⟩ := R3.ins
              refine ⟨_, rfl, a, dx3, _, rfl, e3, rfl, nil_in ?_⟩
              refine rs_from0 R3 (fun n0 => rd.no (by rw [n0]) H3 b3) fun z r4 n0 H4 b4 R4 => ?_
              refine ⟨(by show 2 ≤ sizeLine; decide), fun p hp => ?_⟩
              have pa := rs_new R4 hp
              have s5 : Same H4 (L2.upd H4 p (.tup [.str "hue", .int z])) := Same.upd hp
              refine rd.yes (.lf (.hue z)) r4 (by rw [n0]) (.ref p) _ ((b3.trans b4).trans (But.new hp)) (R4.keep fun o z => s5 _ _ z) ?_
              exact .tup pa (SqT.of upd_same) (.cons (.str _) (.cons (.int _) .nil))
            · have hs' : s = true := by cases s; exact absurd rfl hs; rfl
              refine itDN (fun z => hs ((side_row s).mp z)) (iteF ?_)
              exact ⟨rfl, rfl, by rw [if_pos hs']⟩
          · rintro σ H3 ⟨rfl, rfl, nn⟩
            simp only [nn] at rd
            refine ⟨_, rfl, a, dx, _, rfl, e, rfl, one_in ?_⟩
            rw [lit_open]
            refine rs_takes R (fun n1 => ⟨_, rfl, iteF ?_⟩) fun r n1 H4 b4 R4 => ⟨_, rfl, iteT ?_⟩
            · simp only [n1] at rd
              exact ⟨_, rfl, _, rfl, _, rfl, _, _, rfl, rfl, a, l, s, d + 1, rfl, by omega, R, rd⟩
            · simp only [n1] at rd
              exact ⟨_, rfl, _, rfl, _, rfl, _, _, rfl, rfl, a, r, s, d + 1, rfl, by omega, R4, rd.on b4⟩
end
section
variable {P : Program} {w : World} {K : PySem.W.Frag} {mg : Str → Option Value} {base : Heap}
abbrev Nw (H : Hp) (a : Addr) : Prop := H a = none
theorem Nw.of {H H' : Hp} (s : Same H H') (a : Addr) (h : Nw H' a) : Nw H a := s.free h
theorem DA.any {ok : Addr → Prop} {H : Hp} {v : V} {d : PyData} (h : DA K ok H v d) : DA K L2.any H v d := h.mono (Keep.refl _ _) fun _ _ => trivial
theorem DA.same {ok : Addr → Prop} {H H' : Hp} {v : V} {d : PyData} (h : DA K ok H v d) (s : Same H H') : DA K ok H' v d := h.mono s.keep fun _ x => x
theorem DAs.get {ok : Addr → Prop} {H : Hp} : ∀ {ys : List V} {ds : List PyData}, DAs K ok H ys ds → ys.length = ds.length ∧ ∀ (i : Nat) (x : V), ys[i]? = some x → ∃ d, ds[i]? = some d ∧ DA K ok H x d
  | _, _, .nil => ⟨rfl, fun i x h => by cases h⟩
  | _, _, .cons a r => by
    obtain ⟨h1, h2⟩ := DAs.get r
    refine ⟨by rw [List.length_cons, List.length_cons, h1], fun i x h => ?_⟩
    cases i with
    | zero => cases h; exact ⟨_, rfl, a⟩
    | succ i => exact h2 i x (by simpa using h)
theorem DAs.snoc {ok : Addr → Prop} {H : Hp} {x : V} {d : PyData} : ∀ {ys : List V} {ds : List PyData}, DAs K ok H ys ds → DA K ok H x d → DAs K ok H (ys ++ [x]) (ds ++ [d])
  | _, _, .nil, h => .cons h .nil
  | _, _, .cons a r, h => .cons a (DAs.snoc r h)
theorem tree_at {ok : Addr → Prop} {H : Hp} {i : Nat} {p : Addr} {w : Option Int} {bs : List Tr} (h : DA K ok H (.ref p) (Tr.nd i w bs).dat) : ∃ l ys, SqT K H p [vWish w, .ref l] ∧ SqL K H l ys ∧ ys.length = bs.length ∧ ∀ (i : Nat) (x : V), ys[i]? = some x → ∃ t, bs[i]? = some t ∧ DA K ok H x t.dat := by
  rw [Tr.dat] at h
  cases h with
  | tup _ hs r =>
    cases r with
    | cons r1 r =>
      cases r with
      | cons r2 r =>
        cases r
        cases r2 with
        | lst _ hl q =>
          obtain ⟨q1, q2⟩ := DAs.get q
          rw [Tr.dats_len] at q1
          refine ⟨_, _, ?_, hl, q1, fun i x hx => ?_⟩
          · cases w with
            | none => cases r1; exact hs
            | some c => cases r1; exact hs
          · obtain ⟨d, e, z⟩ := q2 i x hx
            rw [Tr.dats_get] at e
            obtain ⟨t, e1, rfl⟩ := Option.map_eq_some_iff.mp e
            exact ⟨t, e1, z⟩
theorem tree_ref {ok : Addr → Prop} {H : Hp} {v : V} : ∀ {t : Tr}, DA K ok H v t.dat → ∃ p, v = .ref p
  | .nd i w bs, h => by
    rw [Tr.dat] at h
    cases h
    exact ⟨_, rfl⟩
theorem lit_o : Str.ofString "o" = Sg [111] := by decide +kernel
abbrev Nwa (H : Hp) (a : Addr) (b : Addr) : Prop := b ≠ a ∧ H b = none
def Root (H H' : Hp) (v : V) : Prop := ∃ (p l : Addr) (ys : List V) (x : V), v = .ref p ∧ H' p = some (.tup [x, .ref l]) ∧ H' l = some (.lst ys) ∧ H l = none ∧ ys.length ≤ 90001
structure RedT (K : PySem.W.Frag) (C CT : Addr) (x : Option (Tr × List Nat)) (a : Addr) (H : Hp) (Q : VK) (E : XK) : Prop where
  yes : ∀ te r, x = some (te, r) → ∀ v H', But a H H' → Rs C H' a r → DA K (Nwa H a) H' v te.dat → Root H H' v → Q v H'
  no : x = none → ∀ H', But a H H' → E (.ref CT) none H'
def spTreeF (K : PySem.W.Frag) (C CT : Addr) (n : Nat) : Sp := fun vs H Q E => ∃ (a : Addr) (l : List Nat) (d : Int), vs = [.ref a, .int d] ∧ d + (n : Int) = 21 ∧ Rs C H a l ∧ RedT K C CT (pTr n l) a H Q E
abbrev nTreeF : List Str := ["reader", "depth", "wish", "boughs"]
theorem scTreeF : FnScope nTreeF ["reader", "depth"] (defScope sTreeF) := ⟨rfl, rfl, rfl, by decide +kernel, rfl, by decide +kernel, by decide +kernel⟩
theorem but_none {a b : Addr} {H H' : Hp} (h : But a H H') (n : b ≠ a) (e : H' b = none) : H b = none := by
  cases hq : H b with
  | none => rfl
  | some o => rw [h b o n hq] at e; cases e
theorem dats_app (a b : List Tr) : Tr.dats (a ++ b) = Tr.dats a ++ Tr.dats b := by
  induction a with
  | nil => rfl
  | cons t a ih => rw [List.cons_append, Tr.dats, Tr.dats, ih, List.cons_append]
theorem more_step {f : List Nat → Option (Tr × List Nat)} (hf : Eats f) {l r r1 : List Nat} {t : Tr} (h : pTake [32] l = some r) (h1 : f r = some (t, r1)) : pMore f (l.length + 1) l = (pMore f (r1.length + 1) r1).map fun x => (t :: x.1, x.2) := by
  have := pTake_len h
  have := hf _ _ _ h1
  rw [pMore]
  simp only [h, h1]
  rw [pMore_fuel hf l.length (r1.length + 1) r1 (by simp at *; omega) (by omega)]
  cases pMore f (r1.length + 1) r1 with
  | none => rfl
  | some x => rfl
theorem more_bad {f : List Nat → Option (Tr × List Nat)} {l r : List Nat} (h : pTake [32] l = some r) (h1 : f r = none) : pMore f (l.length + 1) l = none := by
  rw [pMore]
  simp only [h, h1]
theorem more_end {f : List Nat → Option (Tr × List Nat)} {l : List Nat} (h : pTake [32] l = none) : pMore f (l.length + 1) l = some ([], l) := by
  rw [pMore]
  simp only [h]
theorem ok_treeF {f fL f0 fTk fMt C CT : Addr} {fd fdL fd0 fdTk fdMt : FuncData} (T : ClsR K C) (D : Dn K mg "tree_from" sTreeF ["reader", "depth"] f fd)
    (DL : Dn K mg "look_at_depth" sLookD ["reader", "depth"] fL fdL) (GL : FnOk P w K mg base (CXd P w) 2 fL fdL ["reader", "depth"] (spLookD C CT))
    (MT : Mn K C "takes" "Reader.takes" sTakes ["self", "word"] fTk fdTk) (GT : FnOk P w K mg base CX0 1 fTk fdTk ["self", "word"] (spTakes C))
    (M0 : Mn K C "number_from_nought" "Reader.number_from_nought" sFrom0 ["self"] f0 fd0) (G0 : FnOk P w K mg base (CXd P w) 2 f0 fd0 ["self"] (spFrom0 C CT))
    (MM : Mn K C "must_take" "Reader.must_take" sMust ["self", "word"] fMt fdMt) (GM : FnOk P w K mg base (CXd P w) 2 fMt fdMt ["self", "word"] (spMust C CT)) :
    ∀ n : Nat, FnOk P w K mg base (CXd P w) (3 + n) f fd ["reader", "depth"] (spTreeF K C CT n) := by
  intro n
  induction n with
  | zero =>
    refine D.fn.okD scTreeF (fun vs H Q E h => ?_) (fun cdv A outer s H vs Q E hr h => ?_)
    · obtain ⟨a, l, d, rfl, _⟩ := h
      rfl
    · obtain ⟨a, l, d, rfl, hd, R, rd⟩ := h
      refine ⟨_, pss_cons (ps_expr (pe_fnX DL GL pass_okD (hr.mono (by omega)) rfl (pa_cons (pv 0) (pa_cons (pv 1) pa_nil)))) pss_never, ?_⟩
      refine ⟨_, rfl, _, rfl, a, l, d, rfl, R, fun h => absurd h (by omega), fun _ => rd.no rfl H (But.refl a H)⟩
  | succ n ih =>
    rw [show 3 + (n + 1) = 3 + n + 1 by omega]
    refine D.fn.okD scTreeF (fun vs H Q E h => ?_) (fun cdv A outer s H vs Q E hr h => ?_)
    · obtain ⟨a, l, d, rfl, _⟩ := h
      rfl
    · obtain ⟨a, l, d, rfl, hd, R, rd⟩ := h
      have r1 := hr.mono (j := 1) (by omega)
      have r2 := hr.mono (j := 2) (by omega)
      obtain ⟨dx, _, _, e⟩ := R.ins
      refine ⟨_, pss_cons (ps_expr (pe_fnX DL GL pass_okD r2 rfl (pa_cons (pv 0) (pa_cons (pv 1) pa_nil))))
      (pss_mid (ps_set (i := 2) scTreeF.nd rfl (Or.inl rfl) (pe_ifExp (pt_val (pe_meth (pv 0) T.cl MT.me GT r1 MT.bd .nil pass0 (pa_cons pe_str pa_nil))) pe_non (pe_meth0 (pv 0) T.cl M0.me G0 r2 M0.bd .nil pass_okD)))
      (pss_cons (ps_set (i := 3) scTreeF.nd rfl (Or.inl rfl) (pe_lst pa_nil))
      (pss_mid (ps_if (pt_val (pe_meth (pv 0) T.cl MT.me GT r1 MT.bd .nil pass0 (pa_cons pe_str pa_nil))) (pss_cons (ps_expr (pe_bm PySem.F.plainAttrs_list PySem.F.slot_list_append PySem.F.type_list_append mt_append (pv 3) (pa_cons (pe_fnX D ih pass_okD hr rfl (pa_cons (pv 0) (pa_cons (pe_op op_add (pv 1) pe_int) pa_nil))) pa_nil)))
      (pss_cons (ps_while PassesOwn.leaving (pt_val (pe_meth (pv 0) T.cl MT.me GT r1 MT.bd .nil pass0 (pa_cons pe_str pa_nil))) (pss_one (ps_expr (pe_bm PySem.F.plainAttrs_list PySem.F.slot_list_append PySem.F.type_list_append mt_append (pv 3) (pa_cons (pe_fnX D ih pass_okD hr rfl (pa_cons (pv 0) (pa_cons (pe_op op_add (pv 1) pe_int) pa_nil))) pa_nil)))))
      (pss_one (ps_expr (pe_meth (pv 0) T.cl MM.me GM r2 MM.bd .nil pass_okD (pa_cons pe_str pa_nil)))))) (pss_nil))
      (pss_one (ps_ret (pe_tup (pa_cons (pv 2) (pa_cons (pv 3) pa_nil)))))))), ?_⟩
      refine ⟨_, rfl, _, rfl, a, l, d, rfl, R, fun _ => ?_, fun h => absurd h (by omega)⟩
      refine ⟨fun σ H1 => ∃ (w : Option Int) (r0 : List Nat), σ = [some (.ref a), some (.int d), some (vWish w), none] ∧ pWish l = some (w, r0) ∧ But a H H1 ∧ Rs C H1 a r0, ?_, ?_⟩
      · refine ⟨_, rfl, a, dx, _, rfl, e, rfl, one_in ?_⟩
        rw [lit_o]
        refine rs_takes R (fun nn => ⟨_, rfl, iteF ?_⟩) fun r nn H1 b1 R1 => ⟨_, rfl, iteT ?_⟩
        · refine ⟨_, rfl, a, dx, _, rfl, e, rfl, nil_in ?_⟩
          refine rs_from0 R (fun n0 => rd.no (by rw [pTr]; unfold pWish; simp only [nn, n0]) H (But.refl a H)) fun z r n0 H1 b1 R1 => ?_
          exact ⟨some z, r, rfl, by unfold pWish; simp only [nn, n0], b1, R1⟩
        · exact ⟨none, r, rfl, by unfold pWish; simp only [nn], b1, R1⟩
      rintro σ H1 ⟨w, r0, rfl, hw, b1, R1⟩
      refine ⟨Nat.zero_le _, fun L hL => ?_⟩
      have La := rs_new R1 hL
      have LH := but_none b1 La hL
      have s2 : Same H1 (L2.upd H1 L (.lst [])) := Same.upd hL
      have e2 : L2.upd H1 L (.lst []) L = some (.lst []) := upd_same
      have b2 : But a H (L2.upd H1 L (.lst [])) := b1.trans (But.new hL)
      have R2 : Rs C (L2.upd H1 L (.lst [])) a r0 := R1.keep fun o z => s2 _ _ z
      generalize L2.upd H1 L (.lst []) = H2 at e2 b2 R2 ⊢
      obtain ⟨dx2, _, _, ea2⟩ := R2.ins
      refine ⟨fun σ H' => ∃ (bs : List Tr) (ys : List V) (l' : List Nat), σ = [some (.ref a), some (.int d), some (vWish w), some (.ref L)] ∧ H' L = some (.lst ys) ∧ ys.length ≤ 90001 ∧ DAs K (fun b => Nwa H a b ∧ b ≠ L) H' ys (Tr.dats bs) ∧ pTr (n + 1) l = some (.nd 0 w bs, l') ∧ But a H H' ∧ Rs C H' a l', ?_, ?_⟩
      · refine ⟨_, rfl, a, dx2, _, rfl, ea2, rfl, one_in ?_⟩
        rw [lit_open]
        refine rs_takes R2 (fun nn => ⟨_, rfl, iteF ?_⟩) fun r3 nn H3 b3 R3 => ⟨_, rfl, iteT ?_⟩
        · exact ⟨[], [], r0, rfl, e2, Nat.zero_le _, .nil, by rw [pTr]; simp only [hw, nn], b2, R2⟩
        have e3 := b3 L _ La e2
        have b03 := b2.trans b3
        have nw : ∀ {H' : Hp}, But a H H' → H' L ≠ none → ∀ b, Nwa H' a b → Nwa H a b ∧ b ≠ L := fun hb hl b z => ⟨⟨z.1, but_none hb z.1 z.2⟩, fun q => hl (q ▸ z.2)⟩
        refine ⟨_, rfl, .inl ⟨rfl, _, SqL.of e3⟩, _, rfl, _, rfl, _, _, rfl, rfl, a, r3, d + 1, rfl, by omega, R3, ⟨fun b r4 n4 v H4 b4 R4 d4 _ => ?_, fun n4 H4 b4 => rd.no (by rw [pTr]; simp only [hw, nn, n4]) H4 (b03.trans b4)⟩⟩
        have e4 := b4 L _ La e3
        have b04 := b03.trans b4
        refine ⟨L, _, _, rfl, rfl, e4, by decide, ?_⟩
        have up : ∀ {H' : Hp} {o : HO}, But a H H' → But a H (L2.upd H' L o) := fun hb c o n' z => by rw [upd_ne (ne_of_none z LH)]; exact hb c o n' z
        have daU : ∀ {H' : Hp} {o : HO} {x : V} {y : PyData}, DA K (fun b => Nwa H a b ∧ b ≠ L) H' x y → DA K (fun b => Nwa H a b ∧ b ≠ L) (L2.upd H' L o) x y := fun h => h.mono (fun c o n' z => by rw [upd_ne n'.2]; exact z) fun _ z => z
        have dasU : ∀ {H' : Hp} {o : HO} {x : List V} {y : List PyData}, DAs K (fun b => Nwa H a b ∧ b ≠ L) H' x y → DAs K (fun b => Nwa H a b ∧ b ≠ L) (L2.upd H' L o) x y := fun h => DAs.mono (fun c o n' z => by rw [upd_ne n'.2]; exact z) (fun _ z => z) h
        have d4' : DA K (fun b => Nwa H a b ∧ b ≠ L) H4 v b.dat := d4.mono (Keep.refl _ _) (nw b03 (by rw [e3]; simp))
        refine ⟨fun m σ H' => ∃ (ts : List Tr) (ys : List V) (l' : List Nat), m = l'.length ∧ σ = [some (.ref a), some (.int d), some (vWish w), some (.ref L)] ∧ H' L = some (.lst ys) ∧ DAs K (fun b => Nwa H a b ∧ b ≠ L) H' ys (Tr.dats (b :: ts)) ∧ ys.length + l'.length ≤ 90001 ∧ pMore (pTr n) (r4.length + 1) r4 = (pMore (pTr n) (l'.length + 1) l').map (fun x => (ts ++ x.1, x.2)) ∧ But a H H' ∧ Rs C H' a l', ⟨_, [], [v], r4, rfl, rfl, upd_same, .cons (daU d4') .nil, ?_, ?_, up b04, ?_⟩, ?_⟩
        · have := R4.asc.2
          show 1 + r4.length ≤ 90001
          omega
        · cases pMore (pTr n) (r4.length + 1) r4 with
          | none => rfl
          | some x => rfl
        · exact R4.keep fun o z => by rw [upd_ne La.symm]; exact z
        rintro m σ H5 ⟨ts, ys, l', rfl, rfl, e5, ds5, l5, inv, b5, R5⟩
        obtain ⟨dx5, _, _, ea5⟩ := R5.ins
        refine ⟨_, rfl, a, dx5, _, rfl, ea5, rfl, one_in ?_⟩
        rw [lit_blank]
        refine rs_takes R5 (fun n5 => ⟨_, rfl, iteF ?_⟩) fun r6 n5 H6 b6 R6 => ⟨_, rfl, iteT ⟨_, fun _ _ y => y, ?_⟩⟩
        · rw [more_end n5] at inv
          refine ⟨_, rfl, a, dx5, _, rfl, ea5, rfl, one_in ?_⟩
          rw [lit_close]
          refine rs_must R5 (by decide) (by decide) (fun n6 => rd.no (by rw [pTr]; simp only [hw, nn, n4, inv, Option.map_some, n6]) H5 b5) fun r7 n6 H7 b7 R7 => ?_
          refine ⟨b :: ts, ys, r7, rfl, b7 L _ La e5, by omega, DAs.mono (fun c o n' z => b7 c o n'.1.1 z) (fun _ z => z) ds5, ?_, b5.trans b7, R7⟩
          rw [pTr]
          simp only [hw, nn, n4, inv, Option.map_some, n6, List.append_nil]
        · have e6 := b6 L _ La e5
          have b06 := b5.trans b6
          refine ⟨_, rfl, .inl ⟨rfl, _, SqL.of e6⟩, _, rfl, _, rfl, _, _, rfl, rfl, a, r6, d + 1, rfl, by omega, R6, ⟨fun t7 r7 n7 v7 H7 b7 R7 d7 _ => ?_, fun n7 H7 b7 => rd.no (by rw [pTr]; simp only [hw, nn, n4, inv, more_bad n5 n7, Option.map_none]) H7 (b06.trans b7)⟩⟩
          have e7 := b7 L _ La e6
          have b07 := b06.trans b7
          have hl6 := pTake_len n5
          have hl7 := pTr_eats n _ _ _ n7
          simp at hl6
          refine ⟨L, _, _, rfl, rfl, e7, Nat.lt_of_le_of_lt (show ys.length ≤ 90001 by omega) (by decide), ?_⟩
          have d7' : DA K (fun b => Nwa H a b ∧ b ≠ L) H7 v7 t7.dat := d7.mono (Keep.refl _ _) (nw b06 (by rw [e6]; simp))
          have ds7 : DAs K (fun b => Nwa H a b ∧ b ≠ L) H7 ys (Tr.dats (b :: ts)) := DAs.mono (fun c o n' z => b7 c o n'.1.1 (b6 c o n'.1.1 z)) (fun _ z => z) ds5
          refine ⟨r7.length, by omega, ts ++ [t7], ys ++ [v7], r7, rfl, rfl, upd_same, ?_, ?_, ?_, up b07, ?_⟩
          · rw [← List.cons_append, dats_app]
            exact dasU (DAs.snoc ds7 d7')
          · rw [List.length_append, List.length_singleton]
            omega
          · rw [inv, more_step (pTr_eats n) n5 n7]
            cases pMore (pTr n) (r7.length + 1) r7 with
            | none => rfl
            | some x => simp
          · exact R7.keep fun o z => by rw [upd_ne La.symm]; exact z
      · rintro σ H3 ⟨bs, ys, l', rfl, e3, ly, ds, hp, b3, R3⟩
        refine ⟨_, rfl, _, rfl, (by show 2 ≤ sizeLine; decide), fun p hp' => ?_⟩
        have pa := rs_new R3 hp'
        have s4 : Same H3 (L2.upd H3 p (.tup [vWish w, .ref L])) := Same.upd hp'
        refine rd.yes _ l' hp (.ref p) _ (b3.trans (But.new hp')) (R3.keep fun o z => s4 _ _ z) ?_ ⟨p, L, ys, vWish w, rfl, upd_same, s4 _ _ e3, LH, ly⟩
        rw [Tr.dat]
        have dw : DA K (Nwa H a) (L2.upd H3 p (.tup [vWish w, .ref L])) (vWish w) (dWish w) := by
          cases w with
          | none => exact .non
          | some c => exact .int c
        exact .tup ⟨pa, but_none b3 pa hp'⟩ (SqT.of upd_same) (.cons dw (.cons (.lst ⟨La, LH⟩ (SqL.of (s4 _ _ e3)) (DAs.mono (fun c o _ z => s4 _ _ z) (fun _ z => z.1) ds)) .nil))
end
section
variable {P : Program} {w : World} {K : PySem.W.Frag} {mg : Str → Option Value} {base : Heap}
open TM
theorem rs_start {C : Addr} {H : Hp} {a : Addr} {t : List Nat} (R : Rdr C H a t 0) (hz : t.length ≤ 90000) (hc : ∀ c ∈ t, c < 128) : Rs C H a t := ⟨t, 0, R, Nat.zero_le _, rfl, hz, hc⟩
structure Wht (K : PySem.W.Frag) (CT : Addr) (x : Option (Te × List Nat)) (H : Hp) (Q : VK) (E : XK) : Prop where
  yes : ∀ te, x = some (te, []) → ∀ v H', Same H H' → DA K any H' v te.dat → Q v H'
  no : (∀ te, x ≠ some (te, [])) → ∀ H', Same H H' → E (.ref CT) none H'
def spWholeT (K : PySem.W.Frag) (CT : Addr) : Sp := fun vs H Q E => ∃ (t : List Nat) (s : Bool), vs = [.str (Sg t), .str (sideS s)] ∧ t.length ≤ 90000 ∧ (∀ c ∈ t, c < 128) ∧ Wht K CT (pT 20 s t) H Q E
abbrev nWholeT : List Str := ["text", "side", "reader", "term"]
theorem scWholeT : FnScope nWholeT ["text", "side"] (defScope sWholeT) := ⟨rfl, rfl, rfl, by decide +kernel, rfl, by decide +kernel, by decide +kernel⟩
theorem ok_wholeT {f fI fT fE C CT : Addr} {fd fdI fdT fdE : FuncData} (T : ClsR K C) (F : Fun K "whole_term" "whole_term" sWholeT f fd) (hC : mg "Reader" = some (.ref C)) (MK : Mk K C fI) (bI : Binds K fdI ["self", "text"] []) (GI : FnOk P w K mg base CX0 1 fI fdI ["self", "text"] (spInitR C))
    (DT : Dn K mg "term_from" sTermF ["reader", "side", "depth"] fT fdT) (GT : ∀ n : Nat, FnOk P w K mg base (CXd P w) (6 + 2 * n) fT fdT ["reader", "side", "depth"] (spTermF K C CT n))
    (ME : Mn K C "must_end" "Reader.must_end" sEnd ["self"] fE fdE) (GE : FnOk P w K mg base (CXd P w) 2 fE fdE ["self"] (spEndR C CT)) : FnOk P w K mg base (CXd P w) 47 f fd ["text", "side"] (spWholeT K CT) := by
  have GT' : FnOk P w K mg base (CXd P w) 46 fT fdT ["reader", "side", "depth"] (spTermF K C CT 20) := GT 20
  refine F.okD scWholeT (fun vs H Q E h => ?_) (fun cdv A outer s H vs Q E hr h => ?_)
  · obtain ⟨t, s, rfl, _⟩ := h
    rfl
  · obtain ⟨t, sd, rfl, hz, hc, wh⟩ := h
    refine ⟨_, pss_cons (ps_set (i := 2) scWholeT.nd rfl (Or.inl rfl) (pe_make MK GI (hr.mono (by decide)) rfl hC bI .nil pass0 (pa_cons (pv 0) pa_nil)))
      (pss_cons (ps_set (i := 3) scWholeT.nd rfl (Or.inl rfl) (pe_fnX DT GT' pass_okD hr rfl (pa_cons (pv 2) (pa_cons (pv 1) (pa_cons pe_int pa_nil)))))
      (pss_cons (ps_expr (pe_meth0 (pv 2) T.cl ME.me GE (hr.mono (by decide)) ME.bd .nil pass_okD))
      (pss_one (ps_ret (pv 3))))), ?_⟩
    refine ⟨_, rfl, fun a dx ha hdx hne => ⟨a, dx, t, rfl, upd_same, fun H1 b1 R1 => ⟨rfl, ?_⟩⟩⟩
    have s1 : Same H H1 := fun c o z => b1 c o (ne_of_none z ha) (by rw [upd_ne (ne_of_none z ha), upd_ne (ne_of_none z hdx)]; exact z)
    have R1 := rs_start R1 hz hc
    have sb : ∀ {H'}, But a H1 H' → Same H H' := fun b c o z => b c o (ne_of_none z ha) (s1 c o z)
    refine ⟨_, rfl, _, rfl, a, t, sd, 1, rfl, by decide, R1, ⟨fun te r e v H2 b2 R2 d2 => ?_, fun e H2 b2 => wh.no (fun te z => by rw [e] at z; cases z) H2 (sb b2)⟩⟩
    obtain ⟨dx2, _, _, ea2⟩ := R2.ins
    refine ⟨_, rfl, a, dx2, _, rfl, ea2, rfl, nil_in ?_⟩
    refine rs_end R2 (fun er => ?_) fun er => wh.no (fun te' z => er (by rw [e] at z; cases z; rfl)) H2 (sb b2)
    subst er
    exact ⟨_, rfl, wh.yes te e v H2 (sb b2) (d2.mono (Keep.refl _ _) fun _ _ => trivial)⟩
def spReadTe (K : PySem.W.Frag) (CT : Addr) (s : Bool) : Sp := fun vs H Q E => ∃ (t : List Nat), vs = [.str (Sg t)] ∧ t.length ≤ 90000 ∧ (∀ c ∈ t, c < 128) ∧ Wht K CT (pT 20 s t) H Q E
theorem scReadTerm : FnScope ["text"] ["text"] (defScope sReadTerm) := ⟨rfl, rfl, rfl, by decide +kernel, rfl, by decide +kernel, by decide +kernel⟩
theorem scReadTable : FnScope ["text"] ["text"] (defScope sReadTable) := ⟨rfl, rfl, rfl, by decide +kernel, rfl, by decide +kernel, by decide +kernel⟩
theorem ok_readTerm {f fW CT : Addr} {fd fdW : FuncData} (F : Fun K "read_term" "read_term" sReadTerm f fd) (DW : Dn K mg "whole_term" sWholeT ["text", "side"] fW fdW) (GW : FnOk P w K mg base (CXd P w) 47 fW fdW ["text", "side"] (spWholeT K CT)) : FnOk P w K mg base (CXd P w) 48 f fd ["text"] (spReadTe K CT false) := by
  refine F.okD scReadTerm (fun vs H Q E h => ?_) (fun cdv A outer s H vs Q E hr h => ?_)
  · obtain ⟨t, rfl, _⟩ := h
    rfl
  · obtain ⟨t, rfl, hz, hc, wh⟩ := h
    exact ⟨_, pss_one (ps_ret (pe_fnX DW GW pass_okD hr rfl (pa_cons (pv 0) (pa_cons pe_str pa_nil)))), _, rfl, t, false, rfl, hz, hc, wh⟩
theorem ok_readTable {f fW CT : Addr} {fd fdW : FuncData} (F : Fun K "read_table" "read_table" sReadTable f fd) (DW : Dn K mg "whole_term" sWholeT ["text", "side"] fW fdW) (GW : FnOk P w K mg base (CXd P w) 47 fW fdW ["text", "side"] (spWholeT K CT)) : FnOk P w K mg base (CXd P w) 48 f fd ["text"] (spReadTe K CT true) := by
  refine F.okD scReadTable (fun vs H Q E h => ?_) (fun cdv A outer s H vs Q E hr h => ?_)
  · obtain ⟨t, rfl, _⟩ := h
    rfl
  · obtain ⟨t, rfl, hz, hc, wh⟩ := h
    exact ⟨_, pss_one (ps_ret (pe_fnX DW GW pass_okD hr rfl (pa_cons (pv 0) (pa_cons pe_str pa_nil)))), _, rfl, t, true, rfl, hz, hc, wh⟩
structure WhtT (K : PySem.W.Frag) (CT : Addr) (x : Option (Tr × List Nat)) (H : Hp) (Q : VK) (E : XK) : Prop where
  yes : ∀ te, x = some (te, []) → ∀ v H', Same H H' → DA K (Nw H) H' v te.dat → Root H H' v → Q v H'
  no : (∀ te, x ≠ some (te, [])) → ∀ H', Same H H' → E (.ref CT) none H'
def spReadTr (K : PySem.W.Frag) (CT : Addr) : Sp := fun vs H Q E => ∃ (t : List Nat), vs = [.str (Sg t)] ∧ t.length ≤ 90000 ∧ (∀ c ∈ t, c < 128) ∧ WhtT K CT (pTr 20 t) H Q E
abbrev nReadTr : List Str := ["text", "reader", "tree"]
theorem scReadTr : FnScope nReadTr ["text"] (defScope sReadTree) := ⟨rfl, rfl, rfl, by decide +kernel, rfl, by decide +kernel, by decide +kernel⟩
theorem ok_readTr {f fI fT fE C CT : Addr} {fd fdI fdT fdE : FuncData} (T : ClsR K C) (F : Fun K "read_tree" "read_tree" sReadTree f fd) (hC : mg "Reader" = some (.ref C)) (MK : Mk K C fI) (bI : Binds K fdI ["self", "text"] []) (GI : FnOk P w K mg base CX0 1 fI fdI ["self", "text"] (spInitR C))
    (DT : Dn K mg "tree_from" sTreeF ["reader", "depth"] fT fdT) (GT : ∀ n : Nat, FnOk P w K mg base (CXd P w) (3 + n) fT fdT ["reader", "depth"] (spTreeF K C CT n))
    (ME : Mn K C "must_end" "Reader.must_end" sEnd ["self"] fE fdE) (GE : FnOk P w K mg base (CXd P w) 2 fE fdE ["self"] (spEndR C CT)) : FnOk P w K mg base (CXd P w) 24 f fd ["text"] (spReadTr K CT) := by
  have GT' : FnOk P w K mg base (CXd P w) 23 fT fdT ["reader", "depth"] (spTreeF K C CT 20) := GT 20
  refine F.okD scReadTr (fun vs H Q E h => ?_) (fun cdv A outer s H vs Q E hr h => ?_)
  · obtain ⟨t, rfl, _⟩ := h
    rfl
  · obtain ⟨t, rfl, hz, hc, wh⟩ := h
    refine ⟨_, pss_cons (ps_set (i := 1) scReadTr.nd rfl (Or.inl rfl) (pe_make MK GI (hr.mono (by decide)) rfl hC bI .nil pass0 (pa_cons (pv 0) pa_nil)))
      (pss_cons (ps_set (i := 2) scReadTr.nd rfl (Or.inl rfl) (pe_fnX DT GT' pass_okD hr rfl (pa_cons (pv 1) (pa_cons pe_int pa_nil))))
      (pss_cons (ps_expr (pe_meth0 (pv 1) T.cl ME.me GE (hr.mono (by decide)) ME.bd .nil pass_okD))
      (pss_one (ps_ret (pv 2))))), ?_⟩
    refine ⟨_, rfl, fun a dx ha hdx hne => ⟨a, dx, t, rfl, upd_same, fun H1 b1 R1 => ⟨rfl, ?_⟩⟩⟩
    have s1 : Same H H1 := fun c o z => b1 c o (ne_of_none z ha) (by rw [upd_ne (ne_of_none z ha), upd_ne (ne_of_none z hdx)]; exact z)
    have R1 := rs_start R1 hz hc
    have sb : ∀ {H'}, But a H1 H' → Same H H' := fun b c o z => b c o (ne_of_none z ha) (s1 c o z)
    refine ⟨_, rfl, a, t, 1, rfl, by decide, R1, ⟨fun te r e v H2 b2 R2 d2 ro => ?_, fun e H2 b2 => wh.no (fun te z => by rw [e] at z; cases z) H2 (sb b2)⟩⟩
    obtain ⟨dx2, _, _, ea2⟩ := R2.ins
    refine ⟨_, rfl, a, dx2, _, rfl, ea2, rfl, nil_in ?_⟩
    refine rs_end R2 (fun er => ?_) fun er => wh.no (fun te' z => er (by rw [e] at z; cases z; rfl)) H2 (sb b2)
    subst er
    exact ⟨_, rfl, wh.yes te e v H2 (sb b2) (d2.mono (Keep.refl _ _) fun b z => Nw.of s1 b z.2) (let ⟨p, l, ys, x, e1, e2, e3, e4, e5⟩ := ro; ⟨p, l, ys, x, e1, e2, e3, s1.free e4, e5⟩)⟩
end
section
variable {P : Program} {w : World} {K : PySem.W.Frag} {mg : Str → Option Value} {base : Heap}
open TM
theorem drop_last (us : List V) (u : V) : (us ++ [u]).dropLast = us := by simp
theorem get_last (us : List V) (u : V) : (us ++ [u])[(us ++ [u]).length - 1]? = some u := by simp
theorem fit_log {z : Int} (h : Fit z) : z.natAbs.log2 < 1920 := by
  unfold Fit at h
  rcases Nat.eq_zero_or_pos z.natAbs with e | hp
  · rw [e]; decide
  · exact (Nat.log2_lt (by omega)).mpr (Nat.lt_trans h (by decide))
theorem str_codes (z : Int) : Str.ofString (toString z) = Sg (codes z) := (Sg.of _).symm
theorem fr_fits {a b : Int} (h : FrOk a b) : Fit a ∧ Fit b := by
  refine ⟨h.top, ?_⟩
  have := h.pos
  have := h.bot
  have e' : ((10 : Int) ^ 60) = ((10 ^ 60 : Nat) : Int) := by decide
  unfold Fit
  omega
theorem hue_fit {c : Int} (h : (Lf.hue c).fits) : Fit c := by
  have := h.1
  have := h.2
  have e' : ((10 : Int) ^ 60) = ((10 ^ 60 : Nat) : Int) := by decide
  unfold Fit
  omega
theorem frT_len {a b : Int} (h : FrOk a b) : (frT a b).length ≤ 123 := by
  have l1 := codes_len (fr_fits h).1
  have l2 := codes_len (fr_fits h).2
  unfold frT
  rw [List.length_append]
  split
  · simp; omega
  · rw [List.length_cons]; omega
theorem word_ne {t : Te} {x : String} (h : t.word ≠ Str.ofString x) : V.str t.word ≠ .str (Str.ofString x) := fun z => h (V.str.inj z)
theorem Un.wordT {k : Un} (h : ∀ a b, k ≠ .many a b) : k.word ++ Str.ofString " " = Sg (unT k) ∧ k.word.length ≤ 10 := by
  cases k with
  | many a b => exact absurd rfl (h a b)
  | near => exact ⟨by decide +kernel, by decide +kernel⟩
  | rows => exact ⟨by decide +kernel, by decide +kernel⟩
  | on => exact ⟨by decide +kernel, by decide +kernel⟩
  | turned => exact ⟨by decide +kernel, by decide +kernel⟩
theorem Lf.wordT {k : Lf} (h : ∀ c, k ≠ .hue c) : k.word = Sg (lfT k) := by
  cases k with
  | hue c => exact absurd rfl (h c)
  | one => decide +kernel
  | same => decide +kernel
  | tie => decide +kernel
  | all => decide +kernel
theorem un_hue (k : Un) : k.word ≠ Str.ofString "hue" := by
  cases k with
  | many a b => exact (by decide +kernel : Str.ofString "many" ≠ Str.ofString "hue")
  | near => decide +kernel
  | rows => decide +kernel
  | on => decide +kernel
  | turned => decide +kernel
theorem un_many {k : Un} (h : ∀ a b, k ≠ .many a b) : k.word ≠ Str.ofString "many" := by
  cases k with
  | many a b => exact absurd rfl (h a b)
  | near => decide +kernel
  | rows => decide +kernel
  | on => decide +kernel
  | turned => decide +kernel
theorem bi_hue (k : Bi) : k.word ≠ Str.ofString "hue" ∧ k.word ≠ Str.ofString "many" := by cases k <;> decide +kernel
theorem len_two {α : Type} {l : List α} (h : l.length = 2) : ∃ a b, l = [a, b] := by
  match l, h with
  | [a, b], _ => exact ⟨a, b, rfl⟩
end
section
variable {P : Program} {w : World} {K : PySem.W.Frag} {mg : Str → Option Value} {base : Heap}
theorem lc_vals {a : Addr} {xs : List V} {te : TE} {Q : Hp → Prop} {σ : L2.St} {H1 : Hp} {D : Addr} (vs : List V) (hlen : vs.length = xs.length) (hm : xs.length ≤ 900) (hD : H1 D = none) (hxs : SqL K H1 a xs)
    (hs : ∀ (i : Nat) (x v : V) (H' : Hp), xs[i]? = some x → vs[i]? = some v → Same H1 H' → te (σ ++ [some x]) H' fun u H3 => u = v ∧ Same H' H3)
    (hd : ∀ H', Same H1 H' → H' D = some (.lst vs) → Q H')
    (mono : ∀ σ H Q Q', (∀ v H1, Q v H1 → Q' v H1) → te σ H Q → te σ H Q') :
    ∃ W : Nat → Nat → List V → Hp → Prop, (∃ m, W 0 m [] (upd H1 D (.lst []))) ∧
      ∀ i m ys H', W i m ys H' → H' D = some (.lst ys) ∧ (((Itl K a).stop i H' ∧ Q H') ∨ ((Itl K a).go i H' ∧ ∀ z H2, (Itl K a).yld i H' z H2 → te (σ ++ [some z]) H2 fun v H3 => H3 D = some (.lst ys) ∧ ys.length < sizeLine ∧ ∃ m', m' < m ∧ W (i + 1) m' (ys ++ [v]) (upd H3 D (.lst (ys ++ [v]))))) := by
  refine lc_list (xs := xs) (fun i ys H' => ys = vs.take i ∧ Same H1 H' ∧ H' D = some (.lst ys)) ⟨by rw [List.take_zero], Same.upd hD, upd_same⟩ (fun i ys H' _ ⟨_, sm, eD⟩ => ⟨Same.sq sm hxs, eD⟩) ?_ ?_ mono
  · rintro i x ys H4 hx ⟨rfl, s4, eD⟩
    have hi : i < vs.length := by rw [hlen]; exact (List.getElem?_eq_some_iff.mp hx).1
    have hv : vs[i]? = some vs[i] := List.getElem?_eq_getElem hi
    refine mono _ _ _ _ ?_ (hs i x vs[i] H4 hx hv s4)
    rintro u H5 ⟨rfl, s5⟩
    refine ⟨s5 _ _ eD, small1000 (by rw [List.length_take]; omega), by rw [take_snoc hv], fun b o e => ?_, upd_same⟩
    rw [upd_ne (ne_of_none e hD)]
    exact s5 _ _ (s4 _ _ e)
  · rintro ys H4 ⟨rfl, s4, eD⟩
    rw [← hlen, List.take_length] at eD
    exact hd H4 s4 eD
theorem trTs_map : ∀ bs : List Tr, trTs bs = bs.map trT
  | [] => rfl
  | b :: bs => by rw [trTs, trTs_map bs]; rfl
theorem glue_part {sep x : List Nat} {xs : List (List Nat)} (h : x ∈ xs) : x.length ≤ (glueL sep xs).length := by
  cases xs with
  | nil => cases h
  | cons y xs =>
    rw [glue_cons, List.length_append]
    rcases List.mem_cons.mp h with rfl | h
    · omega
    · rw [List.length_flatMap]
      have : ∀ ys : List (List Nat), x ∈ ys → x.length ≤ (ys.map fun m => (sep ++ m).length).sum := fun ys => by
        induction ys with
        | nil => intro h; cases h
        | cons z ys ih =>
          intro h
          rw [List.map_cons, List.sum_cons, List.length_append]
          rcases List.mem_cons.mp h with rfl | h
          · omega
          · have := ih h
            omega
      have := this xs h
      omega
theorem glue_sum' (sep x : List Nat) (xs : List (List Nat)) : ((x :: xs).map fun y => y.length + sep.length).sum = (glueL sep (x :: xs)).length + sep.length := by
  rw [glue_cons, List.length_append, List.length_flatMap, List.map_cons, List.sum_cons]
  have : (xs.map fun m => (sep ++ m).length) = xs.map fun m => m.length + sep.length := List.map_congr_left fun m _ => by rw [List.length_append, Nat.add_comm]
  rw [this]
  omega
theorem fits_get : ∀ {bs : List Tr} {b : Tr}, Tr.fits bs → b ∈ bs → b.fit
  | [], _, _, h => by cases h
  | c :: bs, b, g, h => by
    rcases List.mem_cons.mp h with rfl | h
    · exact g.1
    · exact fits_get g.2 h
def joinLc (s : Stmt) : Expr := match s with
  | .Return (some (.BinOp (.BinOp _ _ (.Call _ [e] _ _) _) _ _ _)) _ => e
  | _ => .Constant .none 0 ⟨0, 0, 0, 0⟩
def spTrText (K : PySem.W.Frag) (d : Nat) : Sp := fun vs H Q _ => ∃ (v : V) (t : Tr), vs = [v] ∧ DA K any H v t.dat ∧ t.deep ≤ d ∧ t.fit ∧ t.knots ≤ 900 ∧ (trT t).length ≤ 80000 ∧ ∀ H', Same H H' → Q (.str (Sg (trT t))) H'
theorem wish_len {w : Option Int} (h : wishOk w) : (wishT w).length ≤ 61 := by
  cases w with
  | none => decide
  | some c => exact codes_len (h c rfl).2
theorem boughs_in {H : Hp} {ys : List V} {bs : List Tr} {d : Nat} (hl : ys.length = bs.length) (hb : ∀ (i : Nat) (x : V), ys[i]? = some x → ∃ t, bs[i]? = some t ∧ DA K any H x t.dat) (hd : Tr.deeps bs ≤ d) (hf : Tr.fits bs) (hk : Tr.knotss bs ≤ 900) (hz : (glueL [32] (trTs bs)).length ≤ 80000)
    {i : Nat} {x v : V} {H' : Hp} (hx : ys[i]? = some x) (hv : ((trTs bs).map fun l => V.str (Sg l))[i]? = some v) (s : Same H H') : ∃ t, DA K any H' x t.dat ∧ t.deep ≤ d ∧ t.fit ∧ t.knots ≤ 900 ∧ (trT t).length ≤ 80000 ∧ v = .str (Sg (trT t)) := by
  obtain ⟨t, ht, dt⟩ := hb i x hx
  have hm := List.mem_of_getElem? ht
  rw [trTs_map, List.map_map, List.getElem?_map, ht] at hv
  cases hv
  refine ⟨t, DA.same dt s, Tr.deeps_get hd ht, fits_get hf hm, Tr.knotss_get hk ht, ?_, rfl⟩
  refine Nat.le_trans (glue_part (sep := [32]) ?_) hz
  rw [trTs_map]
  exact List.mem_map.mpr ⟨t, hm, rfl⟩
theorem das_get {ok : Addr → Prop} {H : Hp} : ∀ {ys : List V} {ds : List PyData}, ys.length = ds.length → (∀ (i : Nat) (x : V), ys[i]? = some x → ∃ d, ds[i]? = some d ∧ DA K ok H x d) → DAs K ok H ys ds
  | [], [], _, _ => .nil
  | y :: ys, d :: ds, hl, h => by
    obtain ⟨d', e, z⟩ := h 0 y rfl
    cases e
    exact .cons z (das_get (by simpa using hl) fun i x hx => h (i + 1) x hx)
mutual
theorem Tr.lay_deep : ∀ t : Tr, t.dat.canLay0 = true ∧ t.dat.depth ≤ 2 * t.deep
  | .nd i w bs => by
    obtain ⟨a, b⟩ := Tr.lay_deeps bs
    have h : (dWish w).canLay0 = true ∧ (dWish w).depth = 0 := lay_wish w
    simp only [Tr.dat, Tr.deep, PyData.canLay0, PyData.canLayAll0, PyData.depth, PyData.depthAll, a, h.1, h.2, Bool.and_self, true_and]
    omega
theorem Tr.lay_deeps : ∀ ts : List Tr, PyData.canLayAll0 (Tr.dats ts) = true ∧ PyData.depthAll (Tr.dats ts) ≤ 2 * Tr.deeps ts
  | [] => ⟨rfl, Nat.le_refl _⟩
  | t :: ts => by
    obtain ⟨a, b⟩ := Tr.lay_deep t
    obtain ⟨c, d⟩ := Tr.lay_deeps ts
    simp only [Tr.dats, Tr.deeps, PyData.canLayAll0, PyData.depthAll, a, c, Bool.and_self, true_and]
    omega
end
abbrev nLTr : List Str := ["_law_tree_here", "_law_text_here"]
theorem scLTr : FnScope nLTr ["_law_tree_here"] (defScope sTreeText) := ⟨rfl, rfl, rfl, by decide +kernel, rfl, by decide +kernel, by decide +kernel⟩
theorem lcLTr : LcScopes (defScope sTreeText) nLTr (lcScope (joinLc (bodyAt sTreeText 3))) ["_law_bough"] := ⟨by decide +kernel, rfl, by decide +kernel, by decide +kernel, by decide +kernel, by decide +kernel, by decide +kernel, by decide +kernel, by decide +kernel, by decide +kernel⟩
theorem ok_lTr {f : Addr} {fd : FuncData} (B : BltX mg) (D : Dn K mg "_law_tree_text" sTreeText ["_law_tree_here"] f fd) : ∀ d : Nat, d ≤ 30 → FnOk P w K mg base CX0 (d + 1) f fd ["_law_tree_here"] (spTrText K d) := by
  intro d
  induction d with
  | zero =>
    intro _
    refine D.fn.ok scLTr (fun vs H Q E h => ?_) (fun cdv A outer s H vs Q E hr h => ?_)
    · obtain ⟨v, t, rfl, _⟩ := h
      rfl
    · obtain ⟨v, t, rfl, _, hd, _⟩ := h
      have := t.deep_pos
      omega
  | succ d ih' =>
    intro hd30
    have ih := ih' (by omega)
    refine D.fn.ok scLTr (fun vs H Q E h => ?_) (fun cdv A outer s H vs Q E hr h => ?_)
    · obtain ⟨v, t, rfl, _⟩ := h
      rfl
    · obtain ⟨v, ⟨i, wi, bs⟩, rfl, dv, hd, hfit, hk, hz, q⟩ := h
      obtain ⟨p, rfl⟩ := tree_ref dv
      obtain ⟨l, ys, h1, h2, hl, hb⟩ := tree_at dv
      have at1' : atI [vWish wi, .ref l] 1 = some (.ref l) := rfl
      have hW := wish_len hfit.1
      refine ⟨_, pss_cons (ps_set (i := 1) scLTr.nd rfl (Or.inl rfl) pe_str)
      (pss_mid (ps_if (pt_cmpR op_notN (pe_ix ix_tup (pv 0) pe_int (fun _ _ => rfl)) pe_non (nomark _)) (pss_one (ps_set (i := 1) scLTr.nd rfl (Or.inl rfl) (pe_callTy call_str_int (by rfl) B.str boot_str (pa_cons (pe_ix ix_tup (pv 0) pe_int (fun _ _ => rfl)) pa_nil)))) (pss_nil))
      (pss_cons (ps_if (pt_cmpR (op_eqD hr.units) (pe_ix ix_tup (pv 0) pe_int (fun _ _ => rfl)) (pe_lst pa_nil) (nomark _)) (pss_one (ps_ret (pv 1))) (pss_nil))
      (pss_one (ps_ret (pe_op op_add_str (pe_op op_add_str (pe_op op_add_str (pv 1) pe_str) (pe_bm PySem.F.plainAttrs_str PySem.F.slot_str_join PySem.F.type_str_join mt_join pe_str (pa_cons (pe_lc1 rfl lcLTr rfl (pi_list (pe_ix ix_tup (pv 0) pe_int (fun _ _ => rfl))) (fun _ _ _ => pe_fn D ih hr rfl (pa_cons (pv 2) pa_nil))) pa_nil))) pe_str))))), ?_⟩
      refine ⟨fun σ H' => σ = [some (.ref p), some (.str (Sg (wishT wi)))] ∧ H' = H, ?_, ?_⟩
      · refine ⟨_, rfl, p, _, _, _, rfl, rfl, h1, rfl, rfl, _, rfl, ?_⟩
        cases wi with
        | none => exact iteNS rfl ⟨by rw [lit_o]; rfl, rfl⟩
        | some c =>
          refine iteNP (fun z => by cases z) ?_
          refine ⟨_, rfl, p, _, _, _, rfl, rfl, h1, rfl, c, rfl, fit_log (hfit.1 c rfl).2, ?_⟩
          refine ⟨?_, rfl⟩
          show [some (V.ref p), some (V.str (Str.ofString (toString c)))] = _
          rw [str_codes]
          rfl
      rintro σ H' ⟨rfl, rfl⟩
      refine ⟨_, rfl, p, _, _, _, rfl, rfl, h1, at1', Nat.zero_le _, fun l0 hl0 => ?_⟩
      have s1 : Same H' (L2.upd H' l0 (.lst [])) := Same.upd hl0
      have e1 : L2.upd H' l0 (.lst []) l0 = some (.lst []) := upd_same
      generalize L2.upd H' l0 (.lst []) = H1 at s1 e1 ⊢
      have dl : DA K any H1 (.ref l) (.list (Tr.dats bs)) := .lst trivial (Same.sq s1 h2) (das_get (by rw [Tr.dats_len]; exact hl) fun j x hx => by
        obtain ⟨t, ht, dt⟩ := hb j x hx
        exact ⟨t.dat, by rw [Tr.dats_get, ht]; rfl, DA.same dt s1⟩)
      obtain ⟨y1, y2⟩ := Tr.lay_deeps bs
      refine ⟨.list (Tr.dats bs), .list [], dl, .lst trivial (SqL.of e1) .nil, ⟨y1, rfl, ?_⟩, _, rfl, ?_⟩
      · show (PyData.list (Tr.dats bs)).depth ≤ 64
        simp only [PyData.depth]
        simp only [Tr.deep] at hd
        have := hd30
        omega
      by_cases ne0 : bs = []
      · subst ne0
        rw [show PyData.eqv (.list (Tr.dats [])) (.list []) = true from rfl]
        refine iteT ?_
        refine ⟨_, rfl, ?_⟩
        have et : trT (.nd i wi []) = wishT wi := by simp [trT]
        rw [et] at q
        exact q H1 s1
      have nq : PyData.eqv (.list (Tr.dats bs)) (.list []) = false := by
        cases bs with
        | nil => exact absurd rfl ne0
        | cons b bs => simp [Tr.dats, PyData.eqv, PyData.eqvAll]
      rw [nq]
      refine iteF ?_
      have ne : bs ≠ [] := ne0
      obtain ⟨b0, bs', rfl⟩ : ∃ b bs', bs = b :: bs' := by
        cases bs with
        | nil => exact absurd rfl ne
        | cons b bs' => exact ⟨b, bs', rfl⟩
      have et : trT (.nd i wi (b0 :: bs')) = wishT wi ++ [40] ++ glueL [32] (trTs (b0 :: bs')) ++ [41] := by
        simp [trT]
      have lg : (glueL [32] (trTs (b0 :: bs'))).length + (wishT wi).length + 2 ≤ 80000 := by
        rw [et] at hz
        simp only [List.length_append, List.length_singleton] at hz
        omega
      refine ⟨_, rfl, _, _, rfl, rfl, ?_, ?_⟩
      · rw [lit_open, Sg.len, Sg.len]; exact sz100 (by show (wishT wi).length + 1 ≤ _; omega)
      rw [lit_open, Sg.app]
      refine ⟨rfl, _, rfl, p, _, _, _, rfl, rfl, s1.seqT h1, at1', _, rfl, ⟨_, Same.sq s1 h2⟩, fun D hD => ?_⟩
      refine lc_vals ((trTs (b0 :: bs')).map fun l => V.str (Sg l)) (by rw [List.length_map, trTs_map, List.length_map, hl]) (by have := Tr.knotss_len (b0 :: bs'); simp only [Tr.knots] at hk; omega) hD ((Same.sq s1 h2)) ?_ ?_ ?_
      · intro j x v H2 hx hv s2
        obtain ⟨t, dt, a1, a2, a3, a4, rfl⟩ := boughs_in hl hb (d := d) (by simp only [Tr.deep] at hd; omega) hfit.2 (by simp only [Tr.knots] at hk; omega) (by omega) hx hv (s1.trans s2)
        exact ⟨_, rfl, x, t, rfl, dt, a1, a2, a3, a4, fun H3 s3 => ⟨rfl, s3⟩⟩
      · intro H2 s2 eD
        have gs := glue_sum' [32] (trT b0) (trTs bs')
        refine ⟨[32], D, trTs (b0 :: bs'), by rw [lit_blank], rfl, SqL.of eD, ?_, ?_, ?_⟩
        · rw [show trTs (b0 :: bs') = trT b0 :: trTs bs' from rfl, gs]
          exact sz100 (by show (glueL [32] (trTs (b0 :: bs'))).length + 1 ≤ _; omega)
        · exact sz100 (by omega)
        refine ⟨_, _, rfl, rfl, ?_, ?_⟩
        · rw [Sg.len, Sg.len]; exact sz100 (by simp only [List.length_append, List.length_singleton]; omega)
        rw [Sg.app]
        refine ⟨_, _, rfl, rfl, ?_, ?_⟩
        · rw [lit_close, Sg.len, Sg.len]; exact sz100 (by simp only [List.length_append, List.length_singleton]; omega)
        rw [lit_close, Sg.app, ← et]
        exact q H2 (s1.trans s2)
      · rintro σ H' Q1 Q2 hq ⟨v, e, x, t, e1, a1, a2, a3, a4, a5, g⟩
        exact ⟨v, e, x, t, e1, a1, a2, a3, a4, a5, fun H2 s2 => hq _ _ (g H2 s2)⟩
end
section
variable {P : Program} {w : World} {K : PySem.W.Frag} {mg : Str → Option Value} {base : Heap}
structure BltF (mg : Str → Option Value) : Prop where
  abs : mg "abs" = none
  len : mg "len" = none
  isi : mg "isinstance" = none
  int : mg "int" = none
  bool : mg "bool" = none
  tuple : mg "tuple" = none
  list : mg "list" = none
  range : mg "range" = none
theorem scDiv : FnScope ["_law_one", "_law_other", "_law_left", "_law_right"] ["_law_one", "_law_other"] (defScope sDiv) := ⟨rfl, rfl, rfl, by decide +kernel, rfl, by decide +kernel, by decide +kernel⟩
theorem ok_div {f : Addr} {fd : FuncData} (B : BltF mg) (F : Fun K "_law_divisor" "_law_divisor" sDiv f fd) : FnOk P w K mg base CX0 1 f fd ["_law_one", "_law_other"] spG := by
  refine F.ok scDiv (fun vs H Q E h => ?_) (fun cdv A outer s H vs Q E hr h => ?_)
  · obtain ⟨a, b, rfl, _⟩ := h
    rfl
  · obtain ⟨a, b, rfl, k⟩ := h
    refine ⟨_, pss_cons (ps_set (i := 2) scDiv.nd rfl (Or.inl rfl) (pe_callB call_abs (by rfl) B.abs boot_abs (pa_cons (pv 0) pa_nil)))
      (pss_cons (ps_set (i := 3) scDiv.nd rfl (Or.inl rfl) (pe_callB call_abs (by rfl) B.abs boot_abs (pa_cons (pv 1) pa_nil)))
      (pss_cons (ps_while PassesOwn.never (pt_cmpR op_gt (pv 2) pe_int (nomark _))
        (pss_one (ps_par (i := 2) (j := 3) rfl scDiv.nd rfl rfl (by decide) rfl rfl (pa_cons (pe_op op_mod (pv 3) (pv 2)) (pa_cons (pv 2) pa_nil)) (by rfl))))
      (pss_one (ps_ret (pv 3))))), ?_⟩
    refine ⟨_, rfl, a, rfl, _, rfl, b, rfl, ?_⟩
    refine while_by (fun σ H' => ∃ (x y : Int), σ = [some (.int a), some (.int b), some (.int x), some (.int y)] ∧ H' = H ∧ 0 ≤ x ∧ 0 ≤ y ∧ Int.gcd x y = Int.gcd a b)
      (fun σ _ => match σ with | [_, _, some (.int x), _] => x.natAbs | _ => 0) ⟨_, _, rfl, rfl, (by split <;> omega), (by split <;> omega), M11.gcd_abs a b⟩ ?_ ?_
    · rintro σ H' ⟨x, y, rfl, rfl, hx, hy, hg⟩
      refine ⟨_, rfl, _, _, rfl, rfl, _, rfl, ?_⟩
      by_cases h0 : 0 < x
      · refine itDP h0 ?_
        refine ⟨_, rfl, _, rfl, _, _, rfl, rfl, h0, _, rfl, _, _, rfl, ?_⟩
        have e1 := Int.emod_nonneg y (b := x) (by omega)
        have e2 := Int.emod_lt_of_pos y h0
        refine ⟨⟨y % x, x, rfl, rfl, e1, hx, by rw [M11.gcd_stepN]; exact hg⟩, ?_⟩
        show (y % x).natAbs < x.natAbs
        omega
      · refine itDN h0 ?_
        have hx0 : x = 0 := by omega
        subst hx0
        refine ⟨_, rfl, ?_⟩
        have e : y = M11.G a b := by
          show y = ((Int.gcd a b : Nat) : Int)
          rw [← hg, Int.gcd_comm, Int.gcd_zero_right]
          omega
        rw [e]
        exact k
    · rintro σ H' Q1 Q2 hq ⟨v, e, i, j, e1, e2, c, ec, q⟩
      exact ⟨v, e, i, j, e1, e2, c, ec, hq _ _ q⟩
theorem scLow : FnScope ["_law_top", "_law_bottom", "_law_by"] ["_law_top", "_law_bottom"] (defScope sLow) := ⟨rfl, rfl, rfl, by decide +kernel, rfl, by decide +kernel, by decide +kernel⟩
theorem ok_low {f fG : Addr} {fd fdG : FuncData} (B : BltF mg) (F : Fun K "_law_lowest" "_law_lowest" sLow f fd) (DG : Dn K mg "_law_divisor" sDiv ["_law_one", "_law_other"] fG fdG) : FnOk P w K mg base CX0 2 f fd ["_law_top", "_law_bottom"] spF := by
  have GG : FnOk P w K mg base CX0 1 fG fdG ["_law_one", "_law_other"] spG := ok_div B DG.fn
  refine F.ok scLow (fun vs H Q E h => ?_) (fun cdv A outer s H vs Q E hr h => ?_)
  · obtain ⟨a, b, rfl, _⟩ := h
    rfl
  · obtain ⟨t, b, rfl, hb, hz, k⟩ := h
    refine ⟨_, pss_cons (ps_set (i := 2) scLow.nd rfl (Or.inl rfl) (pe_fn DG GG hr rfl (pa_cons (pv 0) (pa_cons (pv 1) pa_nil))))
      (pss_cons (ps_if (pt_cmpR op_lt (pv 1) pe_int (nomark _)) (pss_one (ps_set (i := 2) scLow.nd rfl (Or.inl rfl) (pe_un un_neg (pv 2)))) pss_nil)
      (pss_one (ps_ret (pe_tup (pa_cons (pe_op op_fdivB (pv 0) (pv 2)) (pa_cons (pe_op op_fdivB (pv 1) (pv 2)) pa_nil)))))), ?_⟩
    refine ⟨_, rfl, _, rfl, t, b, rfl, ?_⟩
    refine ⟨_, rfl, _, _, rfl, rfl, _, rfl, ?_⟩
    by_cases hn : b < 0
    · refine itDP hn ?_
      have e : -(M11.G t b) = M11.sgn t b := (if_pos hn).symm
      refine ⟨_, rfl, _, rfl, ?_⟩
      refine ⟨_, rfl, _, rfl, _, _, rfl, rfl, cdivB hb hz _ _ e, _, rfl, _, rfl, _, _, rfl, rfl, cdivB hb hz _ _ e, (by show 2 ≤ sizeLine; decide), fun p hp => ?_⟩
      have q := k p hp
      unfold M11.low at q
      rw [← e] at q
      exact q
    · refine itDN hn ?_
      have e : M11.G t b = M11.sgn t b := (if_neg hn).symm
      refine ⟨_, rfl, _, rfl, _, _, rfl, rfl, cdivB hb hz _ _ e, _, rfl, _, rfl, _, _, rfl, rfl, cdivB hb hz _ _ e, (by show 2 ≤ sizeLine; decide), fun p hp => ?_⟩
      have q := k p hp
      unfold M11.low at q
      rw [← e] at q
      exact q
def spFrac : Sp := fun vs H Q _ => ∃ (d : Addr) (n : Nat), vs = [.ref d] ∧ Drw H d n ∧ n ≤ 900000 ∧ ∀ (p : Addr) (a b : Int) H', But d H H' → Drw H' d (n + 4) → H' p = some (tupF (a, b)) → p ≠ d → H p = none → (a.natAbs < 10 ^ 60 ∧ 0 < b ∧ b < 10 ^ 60 ∧ Int.gcd a b = 1) → Q (.ref p) H'
theorem scFrac : FnScope ["_law_draw", "_law_top"] ["_law_draw"] (defScope sFrac) := ⟨rfl, rfl, rfl, by decide +kernel, rfl, by decide +kernel, by decide +kernel⟩
theorem tops7 (r : Nat) (h : r < 7) : ∃ v : Int, [V.int 0, .int 1, .int (-1), .int 2, .int 5, .int (-7), .int (10 ^ (59 : Int).toNat + 1)][r]? = some (.int v) ∧ v.natAbs < 10 ^ 60 := by
  rw [p59]
  match r, h with
  | 0, _ => exact ⟨_, rfl, by decide⟩
  | 1, _ => exact ⟨_, rfl, by decide⟩
  | 2, _ => exact ⟨_, rfl, by decide⟩
  | 3, _ => exact ⟨_, rfl, by decide⟩
  | 4, _ => exact ⟨_, rfl, by decide⟩
  | 5, _ => exact ⟨_, rfl, by decide⟩
  | 6, _ => exact ⟨_, rfl, by decide⟩
theorem bots5 (r : Nat) (h : r < 5) : ∃ v : Int, [V.int 1, .int 1, .int 2, .int 3, .int 12][r]? = some (.int v) ∧ 0 < v ∧ v ≤ 12 := by
  match r, h with
  | 0, _ => exact ⟨_, rfl, by decide, by decide⟩
  | 1, _ => exact ⟨_, rfl, by decide, by decide⟩
  | 2, _ => exact ⟨_, rfl, by decide, by decide⟩
  | 3, _ => exact ⟨_, rfl, by decide, by decide⟩
  | 4, _ => exact ⟨_, rfl, by decide, by decide⟩
theorem drw_ne {H : Hp} {d a : Addr} {j : Nat} (D : Drw H d j) (h : H a = none) : a ≠ d := fun e => by
  obtain ⟨_, _, _, e', _⟩ := D
  rw [e, e'] at h
  cases h
theorem but_old {d a : Addr} {H H' : Hp} (hB : But d H H') (hne : a ≠ d) (h : H' a = none) : H a = none := by
  cases e : H a with
  | none => rfl
  | some o => rw [hB a o hne e] at h; cases h
theorem ok_frac {f fT fL : Addr} {fd fdT fdL : FuncData} (F : Fun K "_law_fraction" "_law_fraction" sFrac f fd) (DT : Dn K mg "_law_take" sTake ["_law_draw", "_law_most"] fT fdT) (GT : FnOk P w K mg base CX0 2 fT fdT ["_law_draw", "_law_most"] spTake)
    (DL : Dn K mg "_law_lowest" sLow ["_law_top", "_law_bottom"] fL fdL) (GL : FnOk P w K mg base CX0 2 fL fdL ["_law_top", "_law_bottom"] spF) : FnOk P w K mg base CX0 3 f fd ["_law_draw"] spFrac := by
  refine F.ok scFrac (fun vs H Q E h => ?_) (fun cdv A outer s H vs Q E hr h => ?_)
  · obtain ⟨d, n, rfl, _⟩ := h
    rfl
  · obtain ⟨d, n, rfl, hd, hn, q⟩ := h
    refine ⟨_, pss_cons (ps_set (i := 1) scFrac.nd rfl (Or.inl rfl) (pe_ix ix_list (pe_lst (pa_cons pe_int (pa_cons pe_int (pa_cons (pe_un un_neg pe_int) (pa_cons pe_int (pa_cons pe_int (pa_cons (pe_un un_neg pe_int) (pa_cons (pe_op op_add (pe_op op_pow pe_int pe_int) pe_int) pa_nil)))))))) (pe_fn DT GT hr rfl (pa_cons (pv 0) (pa_cons pe_int pa_nil))) (fun _ _ => rfl)))
      (pss_one (ps_ret (pe_fn DL GL hr rfl (pa_cons (pv 1) (pa_cons (pe_ix ix_list (pe_lst (pa_cons pe_int (pa_cons pe_int (pa_cons pe_int (pa_cons pe_int (pa_cons pe_int pa_nil)))))) (pe_fn DT GT hr rfl (pa_cons (pv 0) (pa_cons pe_int pa_nil))) (fun _ _ => rfl)) pa_nil))))), ?_⟩
    refine ⟨1, rfl, 7, rfl, _, _, rfl, rfl, pow59, _, _, rfl, rfl, (by show 7 ≤ sizeLine; decide), fun l hl => ?_⟩
    have nl := drw_ne hd hl
    refine ⟨_, rfl, d, 7, n, rfl, by decide, by decide, hd.new hl, by omega, fun r H1 r0 r1 hB1 D1 => ?_⟩
    obtain ⟨r, rfl⟩ := Int.eq_ofNat_of_zero_le r0
    obtain ⟨tp, htp, btp⟩ := tops7 r (by omega)
    refine ⟨l, _, _, .int tp, rfl, rfl, SqL.of (hB1 l _ nl upd_same), atI_nat htp, ?_⟩
    have c1 := (But.new (p := d) (o := .lst [V.int 0, .int 1, .int (-1), .int 2, .int 5, .int (-7), .int (10 ^ (59 : Int).toNat + 1)]) hl).trans hB1
    refine ⟨_, rfl, (by show 5 ≤ sizeLine; decide), fun l2 hl2 => ?_⟩
    have nl2 := drw_ne D1 hl2
    refine ⟨_, rfl, d, 5, n + 2, rfl, by decide, by decide, D1.new hl2, by omega, fun r' H2 r0' r1' hB2 D2 => ?_⟩
    obtain ⟨r', rfl⟩ := Int.eq_ofNat_of_zero_le r0'
    obtain ⟨b, hb, b0, b1⟩ := bots5 r' (by omega)
    refine ⟨l2, _, _, .int b, rfl, rfl, SqL.of (hB2 l2 _ nl2 upd_same), atI_nat hb, ?_⟩
    have c2 := c1.trans ((But.new (p := d) (o := .lst [V.int 1, .int 1, .int 2, .int 3, .int 12]) hl2).trans hB2)
    refine ⟨tp, b, rfl, by omega, Nat.lt_of_le_of_lt (show b.natAbs ≤ 12 by omega) (by decide), fun p hp => ?_⟩
    have np := drw_ne D2 hp
    have le := M11.low_le (t := tp) (b := b) (by omega)
    have po := M11.low_pos (t := tp) (b := b) (by omega)
    have co := M11.low_cop (t := tp) (b := b) (by omega)
    refine q p (M11.low tp b).1 (M11.low tp b).2 _ (c2.trans (But.new hp)) (D2.new hp) upd_same np (but_old c2 np hp) ⟨Nat.lt_of_le_of_lt le.1 btp, po, ?_, co⟩
    have : (M11.low tp b).2 ≤ 12 := by have := le.2; omega
    have e : (12 : Int) < 10 ^ 60 := by decide
    omega
end
section
variable {P : Program} {w : World} {K : PySem.W.Frag} {mg : Str → Option Value} {base : Heap}
open TM
theorem das_app {ok : Addr → Prop} {H : Hp} : ∀ {ys : List V} {ds : List PyData} {ys' : List V} {ds' : List PyData}, DAs K ok H ys ds → DAs K ok H ys' ds' → DAs K ok H (ys ++ ys') (ds ++ ds')
  | _, _, _, _, .nil, h => h
  | _, _, _, _, .cons a r, h => .cons a (das_app r h)
def But3 (d T R : Addr) (H H' : Hp) : Prop := ∀ b o, b ≠ d → b ≠ T → b ≠ R → H b = some o → H' b = some o
theorem But3.trans {d T R : Addr} {H H1 H2 : Hp} (a : But3 d T R H H1) (b : But3 d T R H1 H2) : But3 d T R H H2 := fun c o n m l h => b c o n m l (a c o n m l h)
theorem But3.updT {d T R : Addr} {H : Hp} {o : HO} : But3 d T R H (L2.upd H T o) := fun b u _ m _ e => by rw [upd_ne m]; exact e
theorem But3.updR {d T R : Addr} {H : Hp} {o : HO} : But3 d T R H (L2.upd H R o) := fun b u _ _ m e => by rw [upd_ne m]; exact e
theorem But.three {d T R : Addr} {H H' : Hp} (h : But d H H') : But3 d T R H H' := fun b o n _ _ e => h b o n e
theorem Same.three {d T R : Addr} {H H' : Hp} (h : Same H H') : But3 d T R H H' := fun b o _ _ _ e => h b o e
abbrev Ok3 (d T R : Addr) (a : Addr) : Prop := a ≠ d ∧ a ≠ T ∧ a ≠ R
theorem But3.keep {d T R : Addr} {H H' : Hp} (h : But3 d T R H H') : Keep (Ok3 d T R) H H' := fun b o n e => h b o n.1 n.2.1 n.2.2 e
theorem da3 {d T R : Addr} {H H' : Hp} {v : V} {x : PyData} (h : DA K (Ok3 d T R) H v x) (b : But3 d T R H H') : DA K (Ok3 d T R) H' v x := h.mono b.keep fun _ z => z
theorem das3 {d T R : Addr} {H H' : Hp} {v : List V} {x : List PyData} (h : DAs K (Ok3 d T R) H v x) (b : But3 d T R H H') : DAs K (Ok3 d T R) H' v x := DAs.mono b.keep (fun _ z => z) h
def tsz (l : List Te) : Nat := (l.map Te.size).sum
theorem tsz_app (a b : List Te) : tsz (a ++ b) = tsz a + tsz b := by unfold tsz; rw [List.map_append, List.sum_append]
theorem tsz_one (a : Te) : tsz [a] = a.size := by unfold tsz; simp
theorem sOkL (k : Lf) : PyData.strOk k.word = true := by
  cases k with
  | hue c => exact (by decide +kernel : PyData.strOk "hue" = true)
  | _ => decide +kernel
theorem sOkU (k : Un) : PyData.strOk k.word = true := by
  cases k with
  | many a b => exact (by decide +kernel : PyData.strOk "many" = true)
  | _ => decide +kernel
theorem sOkB (k : Bi) : PyData.strOk k.word = true := by cases k <;> decide +kernel
theorem Te_lay : ∀ t : Te, t.dat.canLay0 = true ∧ t.dat.depth ≤ 2 * t.size := by
  intro t
  induction t with
  | lf k => cases k <;> simp [Te.dat, Te.size, Lf.rest, PyData.canLay0, PyData.canLayAll0, PyData.depth, PyData.depthAll, sOkL]
  | un k t ih =>
    have := t.size_pos
    cases k <;> simp only [Te.dat, Te.size, Un.rest, List.nil_append, List.cons_append, PyData.canLay0, PyData.canLayAll0, PyData.depth, PyData.depthAll, sOkU, ih.1, Bool.and_self, true_and] <;> omega
  | bi k t u h1 h2 =>
    simp only [Te.dat, Te.size, PyData.canLay0, PyData.canLayAll0, PyData.depth, PyData.depthAll, sOkB, h1.1, h2.1, Bool.and_self, true_and]
    omega
theorem Tes_lay : ∀ (m : Nat) (l : List Te), tsz l ≤ m → PyData.canLayAll0 (l.map Te.dat) = true ∧ PyData.depthAll (l.map Te.dat) ≤ 2 * m
  | m, [], _ => ⟨rfl, Nat.zero_le _⟩
  | m, t :: l, h => by
    have h' : t.size + tsz l ≤ m := by simpa [tsz] using h
    obtain ⟨a, b⟩ := Te_lay t
    obtain ⟨c, d⟩ := Tes_lay m l (by omega)
    rw [List.map_cons]
    simp only [PyData.canLayAll0, PyData.depthAll, a, c, Bool.and_self, true_and]
    omega
theorem tsz_len : ∀ l : List Te, l.length ≤ tsz l
  | [] => Nat.zero_le _
  | z :: l => by
    have e : tsz (z :: l) = z.size + tsz l := by unfold tsz; simp
    have := z.size_pos
    have := tsz_len l
    rw [List.length_cons]
    omega
structure TRs (K : PySem.W.Frag) (d T R : Addr) (H : Hp) (n : Nat) (us vs : List V) (ts rs : List Te) : Prop where
  drw : Drw H d n
  tT : H T = some (.lst us)
  tR : H R = some (.lst vs)
  nT : d ≠ T
  nR : d ≠ R
  nTR : T ≠ R
  dT : DAs K (Ok3 d T R) H us (ts.map Te.dat)
  dR : DAs K (Ok3 d T R) H vs (rs.map Te.dat)
  gT : ∀ t ∈ ts, t.ok true
  gR : ∀ t ∈ rs, t.ok false
theorem drw_same {H H' : Hp} {d : Addr} {n : Nat} (D : Drw H d n) (s : Same H H') : Drw H' d n := by
  obtain ⟨a, b, c, e, y⟩ := D
  exact ⟨a, b, c, s _ _ e, y⟩
theorem TRs.same {d T R : Addr} {H H' : Hp} {n : Nat} {us vs : List V} {ts rs : List Te} (h : TRs K d T R H n us vs ts rs) (s : Same H H') : TRs K d T R H' n us vs ts rs :=
  ⟨drw_same h.drw s, s _ _ h.tT, s _ _ h.tR, h.nT, h.nR, h.nTR, das3 h.dT (Same.three s), das3 h.dR (Same.three s), h.gT, h.gR⟩
theorem TRs.mono {d T R : Addr} {H : Hp} {n m : Nat} {us vs : List V} {ts rs : List Te} (h : TRs K d T R H n us vs ts rs) (l : n ≤ m) : TRs K d T R H m us vs ts rs :=
  ⟨h.drw.mono l, h.tT, h.tR, h.nT, h.nR, h.nTR, h.dT, h.dR, h.gT, h.gR⟩
theorem TRs.take {d T R : Addr} {H H' : Hp} {n m : Nat} {us vs : List V} {ts rs : List Te} (h : TRs K d T R H n us vs ts rs) (b : But d H H') (D : Drw H' d m) : TRs K d T R H' m us vs ts rs :=
  ⟨D, b _ _ h.nT.symm h.tT, b _ _ h.nR.symm h.tR, h.nT, h.nR, h.nTR, das3 h.dT b.three, das3 h.dR b.three, h.gT, h.gR⟩
theorem TRs.free {d T R a : Addr} {H : Hp} {n : Nat} {us vs : List V} {ts rs : List Te} (h : TRs K d T R H n us vs ts rs) (e : H a = none) : Ok3 d T R a :=
  ⟨drw_ne h.drw e, (ne_of_none h.tT e).symm, (ne_of_none h.tR e).symm⟩
theorem last_te {ok : Addr → Prop} {H : Hp} {us : List V} {ts : List Te} (h : DAs K ok H us (ts.map Te.dat)) (hne : ts ≠ []) : ∃ us' u ts' t, us = us' ++ [u] ∧ ts = ts' ++ [t] ∧ DAs K ok H us' (ts'.map Te.dat) ∧ DA K ok H u t.dat := by
  rcases List.eq_nil_or_concat ts with rfl | ⟨ts', t, rfl⟩
  · exact absurd rfl hne
  · rw [List.concat_eq_append] at *
    rw [List.map_append] at h
    obtain ⟨a, b, rfl, d1, d2⟩ := das_split h
    cases d2 with
    | cons dx d2 =>
      cases d2
      exact ⟨a, _, ts', t, rfl, rfl, d1, dx⟩
theorem TRs.popT {d T R : Addr} {H : Hp} {n : Nat} {us vs : List V} {ts rs : List Te} (h : TRs K d T R H n us vs ts rs) (hne : ts ≠ []) : ∃ us' u ts' t, us = us' ++ [u] ∧ ts = ts' ++ [t] ∧ t.ok true ∧ DA K (Ok3 d T R) (L2.upd H T (.lst us')) u t.dat ∧ TRs K d T R (L2.upd H T (.lst us')) n us' vs ts' rs ∧ But3 d T R H (L2.upd H T (.lst us')) := by
  obtain ⟨us', u, ts', t, rfl, rfl, a, b⟩ := last_te h.dT hne
  have s : But3 d T R H (L2.upd H T (.lst us')) := But3.updT
  exact ⟨us', u, ts', t, rfl, rfl, h.gT t (by simp), da3 b s, ⟨h.drw.updN h.nT.symm, upd_same, by rw [upd_ne h.nTR.symm]; exact h.tR, h.nT, h.nR, h.nTR, das3 a s, das3 h.dR s, fun x hx => h.gT x (by simp [hx]), h.gR⟩, s⟩
theorem TRs.popR {d T R : Addr} {H : Hp} {n : Nat} {us vs : List V} {ts rs : List Te} (h : TRs K d T R H n us vs ts rs) (hne : rs ≠ []) : ∃ vs' u rs' t, vs = vs' ++ [u] ∧ rs = rs' ++ [t] ∧ t.ok false ∧ DA K (Ok3 d T R) (L2.upd H R (.lst vs')) u t.dat ∧ TRs K d T R (L2.upd H R (.lst vs')) n us vs' ts rs' ∧ But3 d T R H (L2.upd H R (.lst vs')) := by
  obtain ⟨us', u, ts', t, rfl, rfl, a, b⟩ := last_te h.dR hne
  have s : But3 d T R H (L2.upd H R (.lst us')) := But3.updR
  exact ⟨us', u, ts', t, rfl, rfl, h.gR t (by simp), da3 b s, ⟨h.drw.updN h.nR.symm, by rw [upd_ne h.nTR]; exact h.tT, upd_same, h.nT, h.nR, h.nTR, das3 h.dT s, das3 a s, h.gT, fun x hx => h.gR x (by simp [hx])⟩, s⟩
theorem TRs.pushT {d T R : Addr} {H : Hp} {n : Nat} {us vs : List V} {ts rs : List Te} {v : V} {t : Te} (h : TRs K d T R H n us vs ts rs) (dv : DA K (Ok3 d T R) H v t.dat) (g : t.ok true) : TRs K d T R (L2.upd H T (.lst (us ++ [v]))) n (us ++ [v]) vs (ts ++ [t]) rs := by
  have s : But3 d T R H (L2.upd H T (.lst (us ++ [v]))) := But3.updT
  refine ⟨h.drw.updN h.nT.symm, upd_same, by rw [upd_ne h.nTR.symm]; exact h.tR, h.nT, h.nR, h.nTR, ?_, das3 h.dR s, fun x hx => ?_, h.gR⟩
  · rw [List.map_append]
    exact das_app (das3 h.dT s) (.cons (da3 dv s) .nil)
  · rcases List.mem_append.mp hx with z1 | z1
    · exact h.gT x z1
    · rw [List.mem_singleton.mp z1]; exact g
theorem TRs.pushR {d T R : Addr} {H : Hp} {n : Nat} {us vs : List V} {ts rs : List Te} {v : V} {t : Te} (h : TRs K d T R H n us vs ts rs) (dv : DA K (Ok3 d T R) H v t.dat) (g : t.ok false) : TRs K d T R (L2.upd H R (.lst (vs ++ [v]))) n us (vs ++ [v]) ts (rs ++ [t]) := by
  have s : But3 d T R H (L2.upd H R (.lst (vs ++ [v]))) := But3.updR
  refine ⟨h.drw.updN h.nR.symm, by rw [upd_ne h.nTR]; exact h.tT, upd_same, h.nT, h.nR, h.nTR, das3 h.dT s, ?_, h.gT, fun x hx => ?_⟩
  · rw [List.map_append]
    exact das_app (das3 h.dR s) (.cons (da3 dv s) .nil)
  · rcases List.mem_append.mp hx with z1 | z1
    · exact h.gR x z1
    · rw [List.mem_singleton.mp z1]; exact g
theorem eqv_nil : ∀ l : List Te, PyData.eqv (.list (l.map Te.dat)) (.list []) = l.isEmpty
  | [] => rfl
  | _ :: _ => rfl
theorem das_any {ok : Addr → Prop} {H : Hp} {v : List V} {x : List PyData} (h : DAs K ok H v x) : DAs K any H v x := DAs.mono (Keep.refl _ _) (fun _ _ => trivial) h
theorem ne_empty {H : Hp} {S : Addr} {us : List V} {ts : List Te} {ok : Addr → Prop} {Q : VK} (e : H S = some (.lst us)) (h : DAs K ok H us (ts.map Te.dat)) (z : tsz ts ≤ 20)
    (k : ∀ H', Same H H' → Q (.bl (!ts.isEmpty)) H') : 0 ≤ sizeLine ∧ ∀ l, H l = none → rNeD K (.ref S) (.ref l) (L2.upd H l (.lst [])) Q := by
  refine ⟨Nat.zero_le _, fun l hl => ?_⟩
  have s : Same H (L2.upd H l (.lst [])) := Same.upd hl
  obtain ⟨ly1, ly2⟩ := Tes_lay 20 ts z
  refine ⟨.list (ts.map Te.dat), .list [], .lst trivial (SqL.of (s _ _ e)) (das_any (DAs.mono (fun b o _ h => s b o h) (fun _ z => z) h)), .lst trivial (SqL.of upd_same) .nil, ⟨by simp only [PyData.canLay0, ly1], rfl, by simp only [PyData.depth]; omega⟩, ?_⟩
  rw [eqv_nil]
  exact k _ s
def EndT (K : PySem.W.Frag) (s : Bool) (d T R : Addr) (H : Hp) (n z : Nat) (Q : VK) : Prop := ∀ (v : V) (t : Te) (us vs : List V) (ts rs : List Te) (H' : Hp), But3 d T R H H' → TRs K d T R H' (n + 10) us vs ts rs → DA K (Ok3 d T R) H' v t.dat → t.ok s → t.size + tsz ts + tsz rs ≤ z + 1 → Q v H'
def spTerm (K : PySem.W.Frag) (s : Bool) : Sp := fun vs H Q _ => ∃ (d T R : Addr) (n : Nat) (us ws : List V) (ts rs : List Te), vs = [.ref d, .ref T, .ref R] ∧ TRs K d T R H n us ws ts rs ∧ n ≤ 800000 ∧ tsz ts + tsz rs ≤ 20 ∧ EndT K s d T R H n (tsz ts + tsz rs) Q
theorem un_end {s : Bool} {d T R : Addr} {H H2 H3 : Hp} {n z m : Nat} {us vs : List V} {ts rs : List Te} {Q : VK} {v : V} {t : Te} {k : Un} {wd : Str} (e : EndT K s d T R H n z Q) (b : But3 d T R H H2) (b3 : But3 d T R H2 H3) (h : TRs K d T R H3 m us vs ts rs) (dv : DA K (Ok3 d T R) H3 v t.dat) (hk : k.word = wd) (hr : k.rest = []) (g : (Te.un k t).ok s) (hz : t.size + tsz ts + tsz rs ≤ z) (hm : m ≤ n + 10) :
    2 ≤ sizeLine ∧ ∀ p, H3 p = none → Q (.ref p) (L2.upd H3 p (.tup [.str wd, v])) := by
  refine ⟨by decide, fun p hp => ?_⟩
  subst hk
  have s3 : Same H3 (L2.upd H3 p (.tup [.str k.word, v])) := Same.upd hp
  refine e _ (.un k t) us vs ts rs _ ((b.trans b3).trans (Same.three s3)) ((h.same s3).mono hm) ?_ g (by show t.size + 1 + _ + _ ≤ _; omega)
  have : (Te.un k t).dat = .tuple [.str k.word, t.dat] := by simp only [Te.dat, hr, List.nil_append]
  rw [this]
  exact .tup (h.free hp) (SqT.of upd_same) (.cons (.str _) (.cons (da3 dv (Same.three s3)) .nil))
theorem bi_end {s : Bool} {d T R : Addr} {H H3 : Hp} {n z m : Nat} {us vs : List V} {ts rs : List Te} {Q : VK} {v u : V} {t x : Te} {k : Bi} {wd : Str} (e : EndT K s d T R H n z Q) (b : But3 d T R H H3) (h : TRs K d T R H3 m us vs ts rs) (dv : DA K (Ok3 d T R) H3 v t.dat) (du : DA K (Ok3 d T R) H3 u x.dat) (hk : k.word = wd) (g : (Te.bi k t x).ok s) (hz : t.size + x.size + tsz ts + tsz rs ≤ z) (hm : m ≤ n + 10) :
    3 ≤ sizeLine ∧ ∀ p, H3 p = none → Q (.ref p) (L2.upd H3 p (.tup [.str wd, v, u])) := by
  refine ⟨by decide, fun p hp => ?_⟩
  subst hk
  have s3 : Same H3 (L2.upd H3 p (.tup [.str k.word, v, u])) := Same.upd hp
  exact e _ (.bi k t x) us vs ts rs _ (b.trans (Same.three s3)) ((h.same s3).mono hm) (.tup (h.free hp) (SqT.of upd_same) (.cons (.str _) (.cons (da3 dv (Same.three s3)) (.cons (da3 du (Same.three s3)) .nil)))) g (by show t.size + x.size + 1 + _ + _ ≤ _; omega)
end
section
variable {P : Program} {w : World} {K : PySem.W.Frag} {mg : Str → Option Value} {base : Heap}
open TM
abbrev nTT : List Str := ["_law_draw", "_law_tables", "_law_rows", "_law_way", "_law_one"]
theorem scTT : FnScope nTT ["_law_draw", "_law_tables", "_law_rows"] (defScope sTabTerm) := ⟨rfl, rfl, rfl, by decide +kernel, rfl, by decide +kernel, by decide +kernel⟩
def MidT (K : PySem.W.Frag) (d T R : Addr) (wy : Int) (H : Hp) (n : Nat) (us vs : List V) (ts rs : List Te) : L2.St → Hp → Prop := fun σ H2 => σ = [some (.ref d), some (.ref T), some (.ref R), some (.int wy), none] ∧ But3 d T R H H2 ∧ TRs K d T R H2 (n + 2) us vs ts rs
theorem lf_end {s : Bool} {d T R : Addr} {H H2 H' : Hp} {n z m : Nat} {us vs : List V} {ts rs : List Te} {Q : VK} {p : Addr} {k : Lf} {l : List V} (e : EndT K s d T R H n z Q) (b : But3 d T R H H2) (b2 : But3 d T R H2 H') (h : TRs K d T R H' m us vs ts rs) (hp : Ok3 d T R p) (hl : H' p = some (.tup l)) (hd : DAs K (Ok3 d T R) H' l (.str k.word :: k.rest)) (g : k.tab = s ∧ k.fits) (hz : tsz ts + tsz rs ≤ z) (hm : m ≤ n + 10) : Q (.ref p) H' :=
  e _ (.lf k) us vs ts rs _ (b.trans b2) (h.mono hm) (.tup hp (SqT.of hl) hd) g (by show 1 + _ + _ ≤ _; omega)
theorem sz_snoc (ts : List Te) (t : Te) : tsz (ts ++ [t]) = tsz ts + t.size := by rw [tsz_app, tsz_one]
theorem ok_tabTerm {f fT fF : Addr} {fd fdT fdF : FuncData} (B : BltF mg) (F : Fun K "_law_table_term" "_law_table_term" sTabTerm f fd) (DT : Dn K mg "_law_take" sTake ["_law_draw", "_law_most"] fT fdT) (GT : FnOk P w K mg base CX0 2 fT fdT ["_law_draw", "_law_most"] spTake)
    (DF : Dn K mg "_law_fraction" sFrac ["_law_draw"] fF fdF) (GF : FnOk P w K mg base CX0 3 fF fdF ["_law_draw"] spFrac) : FnOk P w K mg base CX0 4 f fd ["_law_draw", "_law_tables", "_law_rows"] (spTerm K true) := by
  refine F.ok scTT (fun vs H Q E h => ?_) (fun cdv A outer s H vs Q E hr h => ?_)
  · obtain ⟨d, T, R, n, us, ws, ts, rs, rfl, _⟩ := h
    rfl
  · obtain ⟨d, T, R, n, us, ws, ts, rs, rfl, hT, hn, hz, q⟩ := h
    have r2 := hr.mono (j := 2) (by decide)
    refine ⟨_, pss_cons (ps_set (i := 3) scTT.nd rfl (Or.inl rfl) (pe_fn DT GT r2 rfl (pa_cons (pv 0) (pa_cons pe_int pa_nil))))
      (pss_mid (ps_if (PW.pt (pw_and (pt_cmpR op_eq (pv 3) pe_int (nomark _)) (pw_and1 (pt_cmpR (op_neD hr.units) (pv 2) (pe_lst pa_nil) (nomark _)))))
        (pss_one (ps_ret (pe_tup (pa_cons pe_str (pa_cons (pe_bm0 PySem.F.plainAttrs_list PySem.F.slot_list_pop PySem.F.type_list_pop mt_pop (pv 2)) pa_nil))))) pss_nil)
      (pss_mid (ps_if (PW.pt (pw_and (pt_cmpR op_eq (pv 3) pe_int (nomark _)) (pw_and1 (pt_cmpR (op_neD hr.units) (pv 1) (pe_lst pa_nil) (nomark _)))))
        (pss_one (ps_ret (pe_tup (pa_cons pe_str (pa_cons (pe_bm0 PySem.F.plainAttrs_list PySem.F.slot_list_pop PySem.F.type_list_pop mt_pop (pv 1)) pa_nil))))) pss_nil)
      (pss_mid (ps_if (PW.pt (pw_and (pt_cmpR op_eq (pv 3) pe_int (nomark _)) (pw_and1 (pt_cmpR (op_neD hr.units) (pv 1) (pe_lst pa_nil) (nomark _)))))
        (pss_one (ps_ret (pe_tup (pa_cons pe_str (pa_cons (pe_fn DF GF hr rfl (pa_cons (pv 0) pa_nil)) (pa_cons (pe_bm0 PySem.F.plainAttrs_list PySem.F.slot_list_pop PySem.F.type_list_pop mt_pop (pv 1)) pa_nil)))))) pss_nil)
      (pss_mid (ps_if (PW.pt (pw_and (pt_cmpR op_gt (pv 3) pe_int (nomark _)) (pw_and1 (pt_cmpR op_gt (pe_callB call_len_seq (by rfl) B.len PySem.boot_len (pa_cons (pv 1) pa_nil)) pe_int (nomark _)))))
        (pss_cons (ps_set (i := 4) scTT.nd rfl (Or.inl rfl) (pe_bm0 PySem.F.plainAttrs_list PySem.F.slot_list_pop PySem.F.type_list_pop mt_pop (pv 1)))
        (pss_one (ps_ret (pe_tup (pa_cons (pe_ix ix_list (pe_lst (pa_cons pe_str (pa_cons pe_str (pa_cons pe_str pa_nil)))) (pe_op op_sub (pv 3) pe_int) (fun _ _ => rfl)) (pa_cons (pe_bm0 PySem.F.plainAttrs_list PySem.F.slot_list_pop PySem.F.type_list_pop mt_pop (pv 1)) (pa_cons (pv 4) pa_nil))))))) pss_nil)
      (@pss_one _ _ _ (@ps_ret _ _ _ _ (@QE.o _ _ _ (qe_ix ix_list (qe_lst (qa_cons ⟨pe_tup (pa_cons pe_str pa_nil)⟩ (qa_cons ⟨pe_tup (pa_cons pe_str pa_nil)⟩ (qa_cons ⟨pe_tup (pa_cons pe_str pa_nil)⟩ (qa_cons ⟨pe_tup (pa_cons pe_str pa_nil)⟩ qa_nil))))) ⟨pe_op op_mod (pv 3) pe_int⟩ (fun _ _ => rfl))))))))), ?_⟩
    refine ⟨_, rfl, d, 9, n, rfl, by decide, by decide, hT.drw, by omega, fun wy H1 y0 y1 hB1 D1 => ?_⟩
    have c1 : But3 d T R H H1 := hB1.three
    have h1 := hT.take hB1 D1
    clear hT hB1 D1
    refine ⟨MidT K d T R wy H n us ws ts rs, ?_, ?_⟩
    · refine ⟨_, rfl, rfl, _, rfl, ?_⟩
      by_cases hw : wy = 3
      · refine itDP (by rw [hw]) ?_
        refine ⟨_, rfl, ne_empty h1.tR h1.dR (by omega) fun H2 s2 => ⟨_, rfl, ?_⟩⟩
        have h2 := h1.same s2
        have c2 := c1.trans (Same.three s2)
        cases hrs : rs with
        | nil => exact iteF ⟨rfl, c2, hrs ▸ h2⟩
        | cons a r =>
          refine (iteT ?_ : if (!(a :: r).isEmpty) = true then _ else _)
          obtain ⟨vs', u, rs', t, rfl, e2, g, dv, h3, b3⟩ := h2.popR (by rw [hrs]; simp)
          refine ⟨_, rfl, .inl ⟨rfl, _, SqL.of h2.tR⟩, R, vs' ++ [u], u, rfl, rfl, h2.tR, get_last _ _, ?_⟩
          rw [drop_last]
          have := sz_snoc rs' t
          rw [← e2] at this
          exact un_end q c2 b3 h3 dv (k := .on) rfl rfl ⟨rfl, g⟩ (by omega) (by omega)
      · refine itDN (fun z => hw (V.int.inj z)) (iteF ⟨rfl, c1, h1⟩)
    clear c1 h1 H1
    rintro σ H1 ⟨rfl, c1, h1⟩
    refine ⟨MidT K d T R wy H n us ws ts rs, ?_, ?_⟩
    · refine ⟨_, rfl, rfl, _, rfl, ?_⟩
      by_cases hw : wy = 4
      · refine itDP (by rw [hw]) ?_
        refine ⟨_, rfl, ne_empty h1.tT h1.dT (by omega) fun H2 s2 => ⟨_, rfl, ?_⟩⟩
        have h2 := h1.same s2
        have c2 := c1.trans (Same.three s2)
        cases hrs : ts with
        | nil => exact iteF ⟨rfl, c2, hrs ▸ h2⟩
        | cons a r =>
          refine (iteT ?_ : if (!(a :: r).isEmpty) = true then _ else _)
          obtain ⟨vs', u, rs', t, rfl, e2, g, dv, h3, b3⟩ := h2.popT (by rw [hrs]; simp)
          refine ⟨_, rfl, .inl ⟨rfl, _, SqL.of h2.tT⟩, T, vs' ++ [u], u, rfl, rfl, h2.tT, get_last _ _, ?_⟩
          rw [drop_last]
          have := sz_snoc rs' t
          rw [← e2] at this
          exact un_end q c2 b3 h3 dv (k := .turned) rfl rfl ⟨rfl, g⟩ (by omega) (by omega)
      · refine itDN (fun z => hw (V.int.inj z)) (iteF ⟨rfl, c1, h1⟩)
    clear c1 h1 H1
    rintro σ H1 ⟨rfl, c1, h1⟩
    refine ⟨MidT K d T R wy H n us ws ts rs, ?_, ?_⟩
    · refine ⟨_, rfl, rfl, _, rfl, ?_⟩
      by_cases hw : wy = 5
      · refine itDP (by rw [hw]) ?_
        refine ⟨_, rfl, ne_empty h1.tT h1.dT (by omega) fun H2 s2 => ⟨_, rfl, ?_⟩⟩
        have h2 := h1.same s2
        have c2 := c1.trans (Same.three s2)
        cases hrs : ts with
        | nil => exact iteF ⟨rfl, c2, hrs ▸ h2⟩
        | cons a r =>
          refine (iteT ?_ : if (!(a :: r).isEmpty) = true then _ else _)
          refine ⟨_, rfl, d, n + 2, rfl, h2.drw, by omega, fun fp a' b' H3 hB3 D3 ef nfd hf0 gf => ?_⟩
          have h3 := h2.take hB3 D3
          have c3 : But3 d T R H H3 := c2.trans hB3.three
          have nf := h2.free hf0
          obtain ⟨vs', u, rs', t, rfl, e2, g, dv, h4, b4⟩ := h3.popT (by rw [hrs]; simp)
          refine ⟨_, rfl, .inl ⟨rfl, _, SqL.of h3.tT⟩, T, vs' ++ [u], u, rfl, rfl, h3.tT, get_last _ _, ?_⟩
          rw [drop_last]
          have zz := sz_snoc rs' t
          rw [← e2] at zz
          have ef4 := b4 _ _ nf.1 nf.2.1 nf.2.2 ef
          generalize L2.upd H3 T (.lst vs') = H4 at b4 h4 dv ef4 ⊢
          refine ⟨(by show 3 ≤ sizeLine; decide), fun p hp => ?_⟩
          have s5 : Same H4 (L2.upd H4 p (.tup [.str "many", .ref fp, u])) := Same.upd hp
          exact q _ (.un (.many a' b') t) vs' ws rs' rs _ ((c3.trans b4).trans (Same.three s5)) ((h4.same s5).mono (by omega)) (.tup (h4.free hp) (SqT.of upd_same) (.cons (.str _) (.cons (.tup nf (SqT.of (s5 _ _ ef4)) (.cons (.int _) (.cons (.int _) .nil))) (.cons (da3 dv (Same.three s5)) .nil)))) ⟨⟨gf.1, gf.2.1, gf.2.2.1, gf.2.2.2⟩, g⟩ (by show t.size + 1 + _ + _ ≤ _; omega)
      · refine itDN (fun z => hw (V.int.inj z)) (iteF ⟨rfl, c1, h1⟩)
    clear c1 h1 H1
    rintro σ H1 ⟨rfl, c1, h1⟩
    refine ⟨MidT K d T R wy H n us ws ts rs, ?_, ?_⟩
    · refine ⟨_, rfl, _, _, rfl, rfl, _, rfl, ?_⟩
      by_cases hw : 5 < wy
      · refine itDP hw ?_
        refine ⟨_, rfl, T, _, rfl, .inl (SqL.of h1.tT), _, _, rfl, rfl, _, rfl, ?_⟩
        by_cases h6 : (1 : Int) < ((us.length : Nat) : Int)
        · refine itDP h6 ?_
          have lu := das_len h1.dT
          rw [List.length_map] at lu
          obtain ⟨vs', u, rs', t, rfl, rfl, g, dv, h2, b2⟩ := h1.popT (fun z => by rw [z] at lu; rw [lu] at h6; exact absurd h6 (by decide))
          refine ⟨_, rfl, .inl ⟨rfl, _, SqL.of h1.tT⟩, T, vs' ++ [u], u, rfl, rfl, h1.tT, get_last _ _, ?_⟩
          rw [drop_last]
          have c2 := c1.trans b2
          generalize L2.upd H1 T (.lst vs') = H2 at b2 h2 dv c2 ⊢
          rw [List.length_append, List.length_append] at lu
          obtain ⟨us2, x, ts2, t2, rfl, rfl, g2, dx, h3', b3'⟩ := h2.popT (fun z => by
            rw [z] at lu
            rw [List.length_append] at h6
            have l0 : vs'.length = 0 := by
              have : vs'.length + 1 = 0 + 1 := lu
              omega
            rw [l0] at h6
            exact absurd h6 (by show ¬ ((1 : Int) < ((0 + 1 : Nat) : Int)); decide))
          clear h3' b3' dx
          refine ⟨(by show 3 ≤ sizeLine; decide), fun l hl => ?_⟩
          have s3 : Same H2 (L2.upd H2 l (.lst [.str "then", .str "meet", .str "plus"])) := Same.upd hl
          have e3 : L2.upd H2 l (.lst [.str "then", .str "meet", .str "plus"]) l = some (.lst [.str "then", .str "meet", .str "plus"]) := upd_same
          generalize L2.upd H2 l (.lst [.str "then", .str "meet", .str "plus"]) = H3 at s3 e3 ⊢
          have h3 := h2.same s3
          have c3 := c2.trans (Same.three s3)
          have dv3 := da3 dv (Same.three s3)
          obtain ⟨us3, x', ts3, t3, e4, e5, g3, dx, h4, b4⟩ := h3.popT (by simp)
          have z1 := sz_snoc (ts2 ++ [t2]) t
          have z2 := sz_snoc ts3 t3
          rw [← e5] at z2
          have dv4 := da3 dv3 b4
          have c4 := c3.trans b4
          refine ⟨_, rfl, _, _, rfl, rfl, ?_⟩
          obtain ⟨k, wd, hk, gk, ha⟩ : ∃ (k : Bi) (wd : Str), k.word = wd ∧ (Te.bi k t3 t).ok true ∧ atI [V.str "then", .str "meet", .str "plus"] (wy - 6) = some (.str wd) := by
            by_cases h7 : wy = 6
            · exact ⟨.thn, _, rfl, ⟨rfl, g3, g⟩, by rw [h7]; rfl⟩
            · by_cases h8 : wy = 7
              · exact ⟨.meet, _, rfl, ⟨rfl, g3, g⟩, by rw [h8]; rfl⟩
              · have h9 : wy = 8 := by omega
                exact ⟨.plus, _, rfl, ⟨g3, g⟩, by rw [h9]; rfl⟩
          refine ⟨l, _, _, .str wd, rfl, rfl, SqL.of e3, ha, _, rfl, .inl ⟨rfl, _, SqL.of h3.tT⟩, T, us2 ++ [x], x', rfl, rfl, h3.tT, by rw [e4]; exact get_last _ _, _, rfl, ?_⟩
          rw [e4, drop_last]
          exact bi_end q c4 h4 dx dv4 hk gk (by omega) (by omega)
        · exact itDN h6 ⟨rfl, c1, h1⟩
      · exact itDN hw (iteF ⟨rfl, c1, h1⟩)
    clear c1 h1 H1
    rintro σ H1 ⟨rfl, c1, h1⟩
    refine ⟨(by show 1 ≤ sizeLine; decide), fun p1 hp1 => ?_⟩
    have s2 : Same H1 (L2.upd H1 p1 (.tup [.str "same"])) := Same.upd hp1
    have e1 : L2.upd H1 p1 (.tup [.str "same"]) p1 = some (.tup [.str "same"]) := upd_same
    have f1 := h1.free hp1
    generalize L2.upd H1 p1 (.tup [.str "same"]) = H2 at s2 e1 ⊢
    have h2 := h1.same s2
    refine ⟨(by show 1 ≤ sizeLine; decide), fun p2 hp2 => ?_⟩
    have s3 : Same H2 (L2.upd H2 p2 (.tup [.str "tie"])) := Same.upd hp2
    have e2 : L2.upd H2 p2 (.tup [.str "tie"]) p2 = some (.tup [.str "tie"]) := upd_same
    have f2 := h2.free hp2
    generalize L2.upd H2 p2 (.tup [.str "tie"]) = H3 at s3 e2 ⊢
    have h3 := h2.same s3
    refine ⟨(by show 1 ≤ sizeLine; decide), fun p3 hp3 => ?_⟩
    have s4 : Same H3 (L2.upd H3 p3 (.tup [.str "all"])) := Same.upd hp3
    have e3 : L2.upd H3 p3 (.tup [.str "all"]) p3 = some (.tup [.str "all"]) := upd_same
    have f3 := h3.free hp3
    generalize L2.upd H3 p3 (.tup [.str "all"]) = H4 at s4 e3 ⊢
    have h4 := h3.same s4
    refine ⟨(by show 1 ≤ sizeLine; decide), fun p4 hp4 => ?_⟩
    have s5 : Same H4 (L2.upd H4 p4 (.tup [.str "tie"])) := Same.upd hp4
    have e4 : L2.upd H4 p4 (.tup [.str "tie"]) p4 = some (.tup [.str "tie"]) := upd_same
    have f4 := h4.free hp4
    generalize L2.upd H4 p4 (.tup [.str "tie"]) = H5 at s5 e4 ⊢
    have h5 := h4.same s5
    refine ⟨(by show 4 ≤ sizeLine; decide), fun L hL => ?_⟩
    have s6 : Same H5 (L2.upd H5 L (.lst [.ref p1, .ref p2, .ref p3, .ref p4])) := Same.upd hL
    have eL : L2.upd H5 L (.lst [.ref p1, .ref p2, .ref p3, .ref p4]) L = some (.lst [.ref p1, .ref p2, .ref p3, .ref p4]) := upd_same
    generalize L2.upd H5 L (.lst [.ref p1, .ref p2, .ref p3, .ref p4]) = H6 at s6 eL ⊢
    have h6 := h5.same s6
    have t5 := s5.trans s6
    have t4 := s4.trans t5
    have t3 := s3.trans t4
    have t2 := s2.trans t3
    have m0 := Int.emod_nonneg wy (b := 4) (by decide)
    have m1 := Int.emod_lt_of_pos wy (b := 4) (by decide)
    refine ⟨_, rfl, _, _, rfl, rfl, (by show (0 : Int) < 4; decide), ?_⟩
    obtain ⟨p, k, wd, ha, hk, hr', ht, fp, ep⟩ : ∃ (p : Addr) (k : Lf) (wd : Str), atI [V.ref p1, .ref p2, .ref p3, .ref p4] (wy % 4) = some (.ref p) ∧ k.word = wd ∧ k.rest = [] ∧ (k.tab = true ∧ k.fits) ∧ Ok3 d T R p ∧ H6 p = some (.tup [.str wd]) := by
      by_cases g0 : wy % 4 = 0
      · exact ⟨p1, .same, _, by rw [g0]; rfl, rfl, rfl, ⟨rfl, trivial⟩, f1, t3 _ _ e1⟩
      · by_cases g1 : wy % 4 = 1
        · exact ⟨p2, .tie, _, by rw [g1]; rfl, rfl, rfl, ⟨rfl, trivial⟩, f2, t4 _ _ e2⟩
        · by_cases g2 : wy % 4 = 2
          · exact ⟨p3, .all, _, by rw [g2]; rfl, rfl, rfl, ⟨rfl, trivial⟩, f3, t5 _ _ e3⟩
          · exact ⟨p4, .tie, _, by rw [show wy % 4 = 3 by omega]; rfl, rfl, rfl, ⟨rfl, trivial⟩, f4, s6 _ _ e4⟩
    exact ⟨L, _, _, .ref p, rfl, rfl, SqL.of eL, ha, lf_end q c1 (Same.three t2) h6 fp ep (by rw [hr', hk]; exact .cons (.str _) .nil) ht (Nat.le_refl _) (by omega)⟩
end
section
variable {P : Program} {w : World} {K : PySem.W.Frag} {mg : Str → Option Value} {base : Heap}
open TM
theorem scRT : FnScope nTT ["_law_draw", "_law_tables", "_law_rows"] (defScope sRowTerm) := ⟨rfl, rfl, rfl, by decide +kernel, rfl, by decide +kernel, by decide +kernel⟩
theorem hues4 (r : Nat) (h : r < 4) : ∃ v : Int, [V.int 0, .int 1, .int 7, .int (10 ^ (60 : Int).toNat - 1)][r]? = some (.int v) ∧ 0 ≤ v ∧ v < 10 ^ 60 := by
  match r, h with
  | 0, _ => exact ⟨_, rfl, by decide, by decide⟩
  | 1, _ => exact ⟨_, rfl, by decide, by decide⟩
  | 2, _ => exact ⟨_, rfl, by decide, by decide⟩
  | 3, _ => exact ⟨_, rfl, by decide, by decide⟩
theorem ok_rowTerm {f fT fF : Addr} {fd fdT fdF : FuncData} (B : BltF mg) (F : Fun K "_law_row_term" "_law_row_term" sRowTerm f fd) (DT : Dn K mg "_law_take" sTake ["_law_draw", "_law_most"] fT fdT) (GT : FnOk P w K mg base CX0 2 fT fdT ["_law_draw", "_law_most"] spTake)
    (DF : Dn K mg "_law_fraction" sFrac ["_law_draw"] fF fdF) (GF : FnOk P w K mg base CX0 3 fF fdF ["_law_draw"] spFrac) :
    FnOk P w K mg base CX0 4 f fd ["_law_draw", "_law_tables", "_law_rows"] (spTerm K false) := by
  refine F.ok scRT (fun vs H Q E h => ?_) (fun cdv A outer s H vs Q E hr h => ?_)
  · obtain ⟨d, T, R, n, us, ws, ts, rs, rfl, _⟩ := h
    rfl
  · obtain ⟨d, T, R, n, us, ws, ts, rs, rfl, hT, hn, hz, q⟩ := h
    have r2 := hr.mono (j := 2) (by decide)
    refine ⟨_, pss_cons (ps_set (i := 3) scRT.nd rfl (Or.inl rfl) (pe_fn DT GT r2 rfl (pa_cons (pv 0) (pa_cons pe_int pa_nil))))
      (pss_mid (ps_if (PW.pt (pw_and (pt_cmpR op_eq (pv 3) pe_int (nomark _)) (pw_and1 (pt_cmpR (op_neD hr.units) (pv 1) (pe_lst pa_nil) (nomark _))))) (pss_one (ps_ret (pe_tup (pa_cons pe_str (pa_cons (pe_bm0 PySem.F.plainAttrs_list PySem.F.slot_list_pop PySem.F.type_list_pop mt_pop (pv 1)) pa_nil))))) (pss_nil))
      (pss_mid (ps_if (PW.pt (pw_and (pt_cmpR op_eq (pv 3) pe_int (nomark _)) (pw_and1 (pt_cmpR (op_neD hr.units) (pv 2) (pe_lst pa_nil) (nomark _))))) (pss_one (ps_ret (pe_tup (pa_cons pe_str (pa_cons (pe_bm0 PySem.F.plainAttrs_list PySem.F.slot_list_pop PySem.F.type_list_pop mt_pop (pv 2)) pa_nil))))) (pss_nil))
      (pss_mid (ps_if (PW.pt (pw_and (pt_cmpR op_eq (pv 3) pe_int (nomark _)) (pw_and1 (pt_cmpR (op_neD hr.units) (pv 2) (pe_lst pa_nil) (nomark _))))) (pss_one (ps_ret (pe_tup (pa_cons pe_str (pa_cons (pe_fn DF GF hr rfl (pa_cons (pv 0) pa_nil)) (pa_cons (pe_bm0 PySem.F.plainAttrs_list PySem.F.slot_list_pop PySem.F.type_list_pop mt_pop (pv 2)) pa_nil)))))) (pss_nil))
      (pss_mid (ps_if (PW.pt (pw_and (pt_cmpR op_gt (pv 3) pe_int (nomark _)) (pw_and1 (pt_cmpR op_gt (pe_callB call_len_seq (by rfl) B.len PySem.boot_len (pa_cons (pv 2) pa_nil)) pe_int (nomark _))))) (pss_cons (ps_set (i := 4) scRT.nd rfl (Or.inl rfl) (pe_bm0 PySem.F.plainAttrs_list PySem.F.slot_list_pop PySem.F.type_list_pop mt_pop (pv 2)))
      (pss_one (ps_ret (pe_tup (pa_cons (pe_ix ix_list (pe_lst (pa_cons pe_str (pa_cons pe_str pa_nil))) (pe_op op_sub (pv 3) pe_int) (fun _ _ => rfl)) (pa_cons (pe_bm0 PySem.F.plainAttrs_list PySem.F.slot_list_pop PySem.F.type_list_pop mt_pop (pv 2)) (pa_cons (pv 4) pa_nil))))))) (pss_nil))
      (@pss_one _ _ _ (@ps_ret _ _ _ _ (@QE.o _ _ _ (qe_ix ix_list (qe_lst (qa_cons ⟨pe_tup (pa_cons pe_str pa_nil)⟩ (qa_cons (qe_tup (qa_cons ⟨pe_str⟩ (qa_cons (qe_ix ix_list (qe_lst (qa_cons ⟨pe_int⟩ (qa_cons ⟨pe_int⟩ (qa_cons ⟨pe_int⟩ (qa_cons ⟨pe_op op_sub (pe_op op_pow pe_int pe_int) pe_int⟩ qa_nil))))) ⟨pe_fn DT GT r2 rfl (pa_cons (pv 0) (pa_cons pe_int pa_nil))⟩ (fun _ _ => rfl)) qa_nil))) qa_nil))) ⟨pe_op op_mod (pv 3) pe_int⟩ (fun _ _ => rfl))))))))), ?_⟩
    refine ⟨_, rfl, d, 7, n, rfl, by decide, by decide, hT.drw, by omega, fun wy H1 y0 y1 hB1 D1 => ?_⟩
    have c1 : But3 d T R H H1 := hB1.three
    have h1 := hT.take hB1 D1
    clear hT hB1 D1
    refine ⟨MidT K d T R wy H n us ws ts rs, ?_, ?_⟩
    · refine ⟨_, rfl, rfl, _, rfl, ?_⟩
      by_cases hw : wy = 0
      · refine itDP (by rw [hw]) ?_
        refine ⟨_, rfl, ne_empty h1.tT h1.dT (by omega) fun H2 s2 => ⟨_, rfl, ?_⟩⟩
        have h2 := h1.same s2
        have c2 := c1.trans (Same.three s2)
        cases hrs : ts with
        | nil => exact iteF ⟨rfl, c2, hrs ▸ h2⟩
        | cons a r =>
          refine (iteT ?_ : if (!(a :: r).isEmpty) = true then _ else _)
          obtain ⟨vs', u, rs', t, rfl, e2, g, dv, h3, b3⟩ := h2.popT (by rw [hrs]; simp)
          refine ⟨_, rfl, .inl ⟨rfl, _, SqL.of h2.tT⟩, T, vs' ++ [u], u, rfl, rfl, h2.tT, get_last _ _, ?_⟩
          rw [drop_last]
          have := sz_snoc rs' t
          rw [← e2] at this
          exact un_end q c2 b3 h3 dv (k := .rows) rfl rfl ⟨rfl, g⟩ (by omega) (by omega)
      · refine itDN (fun z => hw (V.int.inj z)) (iteF ⟨rfl, c1, h1⟩)
    clear c1 h1 H1
    rintro σ H1 ⟨rfl, c1, h1⟩
    refine ⟨MidT K d T R wy H n us ws ts rs, ?_, ?_⟩
    · refine ⟨_, rfl, rfl, _, rfl, ?_⟩
      by_cases hw : wy = 1
      · refine itDP (by rw [hw]) ?_
        refine ⟨_, rfl, ne_empty h1.tR h1.dR (by omega) fun H2 s2 => ⟨_, rfl, ?_⟩⟩
        have h2 := h1.same s2
        have c2 := c1.trans (Same.three s2)
        cases hrs : rs with
        | nil => exact iteF ⟨rfl, c2, hrs ▸ h2⟩
        | cons a r =>
          refine (iteT ?_ : if (!(a :: r).isEmpty) = true then _ else _)
          obtain ⟨vs', u, rs', t, rfl, e2, g, dv, h3, b3⟩ := h2.popR (by rw [hrs]; simp)
          refine ⟨_, rfl, .inl ⟨rfl, _, SqL.of h2.tR⟩, R, vs' ++ [u], u, rfl, rfl, h2.tR, get_last _ _, ?_⟩
          rw [drop_last]
          have := sz_snoc rs' t
          rw [← e2] at this
          exact un_end q c2 b3 h3 dv (k := .near) rfl rfl ⟨rfl, g⟩ (by omega) (by omega)
      · refine itDN (fun z => hw (V.int.inj z)) (iteF ⟨rfl, c1, h1⟩)
    clear c1 h1 H1
    rintro σ H1 ⟨rfl, c1, h1⟩
    refine ⟨MidT K d T R wy H n us ws ts rs, ?_, ?_⟩
    · refine ⟨_, rfl, rfl, _, rfl, ?_⟩
      by_cases hw : wy = 2
      · refine itDP (by rw [hw]) ?_
        refine ⟨_, rfl, ne_empty h1.tR h1.dR (by omega) fun H2 s2 => ⟨_, rfl, ?_⟩⟩
        have h2 := h1.same s2
        have c2 := c1.trans (Same.three s2)
        cases hrs : rs with
        | nil => exact iteF ⟨rfl, c2, hrs ▸ h2⟩
        | cons a r =>
          refine (iteT ?_ : if (!(a :: r).isEmpty) = true then _ else _)
          refine ⟨_, rfl, d, n + 2, rfl, h2.drw, by omega, fun fp a' b' H3 hB3 D3 ef nfd hf0 gf => ?_⟩
          have h3 := h2.take hB3 D3
          have c3 : But3 d T R H H3 := c2.trans hB3.three
          have nf := h2.free hf0
          obtain ⟨vs', u, rs', t, rfl, e2, g, dv, h4, b4⟩ := h3.popR (by rw [hrs]; simp)
          refine ⟨_, rfl, .inl ⟨rfl, _, SqL.of h3.tR⟩, R, vs' ++ [u], u, rfl, rfl, h3.tR, get_last _ _, ?_⟩
          rw [drop_last]
          have zz := sz_snoc rs' t
          rw [← e2] at zz
          have ef4 := b4 _ _ nf.1 nf.2.1 nf.2.2 ef
          generalize L2.upd H3 R (.lst vs') = H4 at b4 h4 dv ef4 ⊢
          refine ⟨(by show 3 ≤ sizeLine; decide), fun p hp => ?_⟩
          have s5 : Same H4 (L2.upd H4 p (.tup [.str "many", .ref fp, u])) := Same.upd hp
          exact q _ (.un (.many a' b') t) us vs' ts rs' _ ((c3.trans b4).trans (Same.three s5)) ((h4.same s5).mono (by omega)) (.tup (h4.free hp) (SqT.of upd_same) (.cons (.str _) (.cons (.tup nf (SqT.of (s5 _ _ ef4)) (.cons (.int _) (.cons (.int _) .nil))) (.cons (da3 dv (Same.three s5)) .nil)))) ⟨⟨gf.1, gf.2.1, gf.2.2.1, gf.2.2.2⟩, g⟩ (by show t.size + 1 + _ + _ ≤ _; omega)
      · refine itDN (fun z => hw (V.int.inj z)) (iteF ⟨rfl, c1, h1⟩)
    clear c1 h1 H1
    rintro σ H1 ⟨rfl, c1, h1⟩
    refine ⟨MidT K d T R wy H n us ws ts rs, ?_, ?_⟩
    · refine ⟨_, rfl, _, _, rfl, rfl, _, rfl, ?_⟩
      by_cases hw : 4 < wy
      · refine itDP hw ?_
        refine ⟨_, rfl, R, _, rfl, .inl (SqL.of h1.tR), _, _, rfl, rfl, _, rfl, ?_⟩
        by_cases h6 : (1 : Int) < ((ws.length : Nat) : Int)
        · refine itDP h6 ?_
          have lu := das_len h1.dR
          rw [List.length_map] at lu
          obtain ⟨vs', u, rs', t, rfl, rfl, g, dv, h2, b2⟩ := h1.popR (fun z => by rw [z] at lu; rw [lu] at h6; exact absurd h6 (by decide))
          refine ⟨_, rfl, .inl ⟨rfl, _, SqL.of h1.tR⟩, R, vs' ++ [u], u, rfl, rfl, h1.tR, get_last _ _, ?_⟩
          rw [drop_last]
          have c2 := c1.trans b2
          generalize L2.upd H1 R (.lst vs') = H2 at b2 h2 dv c2 ⊢
          rw [List.length_append, List.length_append] at lu
          obtain ⟨us2, x, ts2, t2, rfl, rfl, g2, dx, h3', b3'⟩ := h2.popR (fun z => by
            rw [z] at lu
            rw [List.length_append] at h6
            have l0 : vs'.length = 0 := by
              have : vs'.length + 1 = 0 + 1 := lu
              omega
            rw [l0] at h6
            exact absurd h6 (by show ¬ ((1 : Int) < ((0 + 1 : Nat) : Int)); decide))
          clear h3' b3' dx
          refine ⟨(by show 2 ≤ sizeLine; decide), fun l hl => ?_⟩
          have s3 : Same H2 (L2.upd H2 l (.lst [.str "both", .str "plus"])) := Same.upd hl
          have e3 : L2.upd H2 l (.lst [.str "both", .str "plus"]) l = some (.lst [.str "both", .str "plus"]) := upd_same
          generalize L2.upd H2 l (.lst [.str "both", .str "plus"]) = H3 at s3 e3 ⊢
          have h3 := h2.same s3
          have c3 := c2.trans (Same.three s3)
          have dv3 := da3 dv (Same.three s3)
          obtain ⟨us3, x', ts3, t3, e4, e5, g3, dx, h4, b4⟩ := h3.popR (by simp)
          have z1 := sz_snoc (ts2 ++ [t2]) t
          have z2 := sz_snoc ts3 t3
          rw [← e5] at z2
          have dv4 := da3 dv3 b4
          have c4 := c3.trans b4
          refine ⟨_, rfl, _, _, rfl, rfl, ?_⟩
          obtain ⟨k, wd, hk, gk, ha⟩ : ∃ (k : Bi) (wd : Str), k.word = wd ∧ (Te.bi k t3 t).ok false ∧ atI [V.str "both", .str "plus"] (wy - 5) = some (.str wd) := by
            by_cases h7 : wy = 5
            · exact ⟨.both, _, rfl, ⟨rfl, g3, g⟩, by rw [h7]; rfl⟩
            · have h9 : wy = 6 := by omega
              exact ⟨.plus, _, rfl, ⟨g3, g⟩, by rw [h9]; rfl⟩
          refine ⟨l, _, _, .str wd, rfl, rfl, SqL.of e3, ha, _, rfl, .inl ⟨rfl, _, SqL.of h3.tR⟩, R, us2 ++ [x], x', rfl, rfl, h3.tR, by rw [e4]; exact get_last _ _, _, rfl, ?_⟩
          rw [e4, drop_last]
          exact bi_end q c4 h4 dx dv4 hk gk (by omega) (by omega)
        · exact itDN h6 ⟨rfl, c1, h1⟩
      · exact itDN hw (iteF ⟨rfl, c1, h1⟩)
    clear c1 h1 H1
    rintro σ H1 ⟨rfl, c1, h1⟩
    refine ⟨(by show 1 ≤ sizeLine; decide), fun p1 hp1 => ?_⟩
    have s2 : Same H1 (L2.upd H1 p1 (.tup [.str "one"])) := Same.upd hp1
    have e1 : L2.upd H1 p1 (.tup [.str "one"]) p1 = some (.tup [.str "one"]) := upd_same
    have f1 := h1.free hp1
    generalize L2.upd H1 p1 (.tup [.str "one"]) = H2 at s2 e1 ⊢
    have h2 := h1.same s2
    refine ⟨_, _, rfl, rfl, pow60, _, _, rfl, rfl, (by show 4 ≤ sizeLine; decide), fun l hl => ?_⟩
    have s3 : Same H2 (L2.upd H2 l (.lst [.int 0, .int 1, .int 7, .int (10 ^ (60 : Int).toNat - 1)])) := Same.upd hl
    have el : L2.upd H2 l (.lst [.int 0, .int 1, .int 7, .int (10 ^ (60 : Int).toNat - 1)]) l = some (.lst [.int 0, .int 1, .int 7, .int (10 ^ (60 : Int).toNat - 1)]) := upd_same
    have nl := drw_ne h2.drw hl
    generalize L2.upd H2 l (.lst [.int 0, .int 1, .int 7, .int (10 ^ (60 : Int).toNat - 1)]) = H3 at s3 el ⊢
    have h3 := h2.same s3
    refine ⟨_, rfl, d, 4, n + 2, rfl, by decide, by decide, h3.drw, by omega, fun r H4 r0 r1 hB4 D4 => ?_⟩
    have h4 := h3.take hB4 D4
    obtain ⟨r, rfl⟩ := Int.eq_ofNat_of_zero_le r0
    obtain ⟨c, hc, hc0, hc1⟩ := hues4 r (by omega)
    refine ⟨l, _, _, .int c, rfl, rfl, SqL.of (hB4 l _ nl el), atI_nat hc, ?_⟩
    have e4 : H4 p1 = some (.tup [.str "one"]) := hB4 p1 _ f1.1 (s3 _ _ e1)
    have c4 : But3 d T R H1 H4 := (Same.three (s2.trans s3)).trans hB4.three
    clear s2 s3 h2 h3 e1 el hl hB4 D4
    refine ⟨(by show 2 ≤ sizeLine; decide), fun p2 hp2 => ?_⟩
    have s5 : Same H4 (L2.upd H4 p2 (.tup [.str "hue", .int c])) := Same.upd hp2
    have e5 : L2.upd H4 p2 (.tup [.str "hue", .int c]) p2 = some (.tup [.str "hue", .int c]) := upd_same
    have f2 := h4.free hp2
    generalize L2.upd H4 p2 (.tup [.str "hue", .int c]) = H5 at s5 e5 ⊢
    have h5 := h4.same s5
    refine ⟨(by show 2 ≤ sizeLine; decide), fun L hL => ?_⟩
    have s6 : Same H5 (L2.upd H5 L (.lst [.ref p1, .ref p2])) := Same.upd hL
    have eL : L2.upd H5 L (.lst [.ref p1, .ref p2]) L = some (.lst [.ref p1, .ref p2]) := upd_same
    generalize L2.upd H5 L (.lst [.ref p1, .ref p2]) = H6 at s6 eL ⊢
    have h6 := h5.same s6
    have m0 := Int.emod_nonneg wy (b := 2) (by decide)
    have m1 := Int.emod_lt_of_pos wy (b := 2) (by decide)
    refine ⟨_, rfl, _, _, rfl, rfl, (by show (0 : Int) < 2; decide), ?_⟩
    have b6 : But3 d T R H1 H6 := c4.trans (Same.three (s5.trans s6))
    by_cases g0 : wy % 2 = 0
    · exact ⟨L, _, _, .ref p1, rfl, rfl, SqL.of eL, by show atI _ (wy % 2) = _; rw [g0]; rfl, lf_end (k := .one) q c1 b6 h6 f1 (s6 _ _ (s5 _ _ e4)) (.cons (.str _) .nil) ⟨rfl, trivial⟩ (Nat.le_refl _) (by omega)⟩
    · exact ⟨L, _, _, .ref p2, rfl, rfl, SqL.of eL, by show atI _ (wy % 2) = _; rw [show wy % 2 = 1 by omega]; rfl, lf_end (k := .hue c) q c1 b6 h6 f2 (s6 _ _ e5) (.cons (.str _) (.cons (.int _) .nil)) ⟨rfl, hc0, hc1⟩ (Nat.le_refl _) (by omega)⟩
end
section
variable {P : Program} {w : World} {K : PySem.W.Frag} {mg : Str → Option Value} {base : Heap}
abbrev Kn := Addr × Addr × Option Int
def kA (ks : List Kn) (c : Nat) : Addr := ((ks[c]?).map (·.1)).getD 0
def kW (ks : List Kn) (c : Nat) : Option Int := ((ks[c]?).map (·.2.2)).getD none
structure Knots (H : Hp) (ks : List Kn) (ch : Nat → List Nat) : Prop where
  tp : ∀ (i : Nat) (a l : Addr) (w : Option Int), ks[i]? = some (a, l, w) → H a = some (.tup [vWish w, .ref l])
  ls : ∀ (i : Nat) (a l : Addr) (w : Option Int), ks[i]? = some (a, l, w) → H l = some (.lst ((ch i).map fun c => V.ref (kA ks c)))
  nd : ∀ (i j : Nat) (a l : Addr) (w : Option Int) (a' : Addr) (w' : Option Int), ks[i]? = some (a, l, w) → ks[j]? = some (a', l, w') → i = j
theorem Knots.keep {H H' : Hp} {ks : List Kn} {ch : Nat → List Nat} (k : Knots H ks ch) (h : ∀ (i : Nat) (a l : Addr) (w : Option Int), ks[i]? = some (a, l, w) → (∀ o, H a = some o → H' a = some o) ∧ ∀ o, H l = some o → H' l = some o) : Knots H' ks ch :=
  ⟨fun i a l w e => (h i a l w e).1 _ (k.tp i a l w e), fun i a l w e => (h i a l w e).2 _ (k.ls i a l w e), k.nd⟩
theorem snoc_get {α : Type} {xs : List α} {x y : α} {i : Nat} (h : (xs ++ [x])[i]? = some y) : xs[i]? = some y ∨ (i = xs.length ∧ y = x) := by
  by_cases hi : i < xs.length
  · rw [List.getElem?_append_left hi] at h
    exact .inl h
  · rw [List.getElem?_append_right (by omega)] at h
    cases e : i - xs.length with
    | zero => rw [e] at h; cases h; exact .inr ⟨by omega, rfl⟩
    | succ j => rw [e] at h; cases h
theorem Knots.snoc {H H' : Hp} {ks : List Kn} {a l : Addr} {w : Option Int} (k : Knots H ks fun _ => []) (h : ∀ (i : Nat) (a l : Addr) (w : Option Int), ks[i]? = some (a, l, w) → (∀ o, H a = some o → H' a = some o) ∧ ∀ o, H l = some o → H' l = some o)
    (ha : H' a = some (.tup [vWish w, .ref l])) (hl : H' l = some (.lst [])) (hn : H l = none) : Knots H' (ks ++ [(a, l, w)]) fun _ => [] := by
  have k' := k.keep h
  refine ⟨fun i a' l' w' e => ?_, fun i a' l' w' e => ?_, fun i j a1 l1 w1 a2 w2 e1 e2 => ?_⟩
  · rcases snoc_get e with e | ⟨_, e⟩
    · exact k'.tp i a' l' w' e
    · cases e; exact ha
  · rcases snoc_get e with e | ⟨_, e⟩
    · exact k'.ls i a' l' w' e
    · cases e; exact hl
  · rcases snoc_get e1 with e1 | ⟨e1, z1⟩
    · rcases snoc_get e2 with e2 | ⟨e2, z2⟩
      · exact k.nd i j _ _ _ _ _ e1 e2
      · cases z2
        have := k.ls i _ _ _ e1
        rw [hn] at this
        cases this
    · cases z1
      rcases snoc_get e2 with e2 | ⟨e2, z2⟩
      · have := k.ls j _ _ _ e2
        rw [hn] at this
        cases this
      · omega
theorem Knots.hang {H : Hp} {ks : List Kn} {ch : Nat → List Nat} (k : Knots H ks ch) {j m : Nat} {a l : Addr} {w : Option Int} (hj : ks[j]? = some (a, l, w)) :
    Knots (L2.upd H l (.lst (((ch j).map fun c => V.ref (kA ks c)) ++ [V.ref (kA ks m)]))) ks (hung ch j m) := by
  refine ⟨fun i a' l' w' e => ?_, fun i a' l' w' e => ?_, k.nd⟩
  · have := k.tp i a' l' w' e
    rw [upd_ne (fun z => by rw [z, k.ls j a l w hj] at this; cases this)]
    exact this
  · unfold hung
    by_cases hi : i = j
    · subst hi
      rw [hj] at e
      cases e
      rw [upd_same, if_pos rfl, List.map_append]
      rfl
    · rw [if_neg hi, upd_ne (fun z => hi (by subst z; exact k.nd i j _ _ _ _ _ e hj))]
      exact k.ls i a' l' w' e
mutual
theorem Tr.da {ok : Addr → Prop} {H : Hp} {ks : List Kn} {ch : Nat → List Nat} (k : Knots H ks ch) (ho : ∀ (i : Nat) (a l : Addr) (w : Option Int), ks[i]? = some (a, l, w) → ok a ∧ ok l) : ∀ t : Tr, t.ok (kW ks) ch → (∀ x ∈ t.labs, x < ks.length) → DA K ok H (.ref (kA ks t.root)) t.dat
  | .nd i w bs, h, hl => by
    rw [Tr.ok] at h
    rw [Tr.labs] at hl
    have hi := hl i List.mem_cons_self
    have e : ks[i]? = some ks[i] := List.getElem?_eq_getElem hi
    rcases hk : ks[i] with ⟨a, l, w'⟩
    rw [hk] at e
    have ea : kA ks (Tr.nd i w bs).root = a := by
      show kA ks i = a
      unfold kA
      rw [e]
      rfl
    have ew : w = w' := by
      rw [h.1]
      unfold kW
      rw [e]
      rfl
    subst ew
    rw [ea, Tr.dat]
    refine .tup (ho i _ _ _ e).1 (SqT.of (k.tp i a l w e)) (.cons ?_ (.cons (.lst (ho i _ _ _ e).2 (SqL.of (k.ls i a l w e)) ?_) .nil))
    · cases w with
      | none => exact .non
      | some c => exact .int c
    · rw [h.2.1]
      exact Tr.das k ho bs h.2.2 fun x hx => hl x (List.mem_cons_of_mem _ hx)
theorem Tr.das {ok : Addr → Prop} {H : Hp} {ks : List Kn} {ch : Nat → List Nat} (k : Knots H ks ch) (ho : ∀ (i : Nat) (a l : Addr) (w : Option Int), ks[i]? = some (a, l, w) → ok a ∧ ok l) : ∀ ts : List Tr, Tr.oks (kW ks) ch ts → (∀ x ∈ Tr.labss ts, x < ks.length) → DAs K ok H ((ts.map Tr.root).map fun c => V.ref (kA ks c)) (Tr.dats ts)
  | [], _, _ => by rw [Tr.dats]; exact .nil
  | t :: ts, h, hl => by
    rw [Tr.oks] at h
    rw [Tr.labss] at hl
    rw [Tr.dats]
    exact .cons (Tr.da k ho t h.1 fun x hx => hl x (List.mem_append_left _ hx)) (Tr.das k ho ts h.2 fun x hx => hl x (List.mem_append_right _ hx))
end
theorem wish_no : wishOk none := fun c h => by cases h
theorem wish_of {c : Int} (h0 : 0 ≤ c) (h1 : c.natAbs < 10 ^ 60) : wishOk (some c) := fun x h => by
  cases h
  exact ⟨h0, h1⟩
mutual
theorem fit_of {ws : Nat → Option Int} {ch : Nat → List Nat} (hw : ∀ i, wishOk (ws i)) : ∀ t : Tr, t.ok ws ch → t.fit
  | .nd i w bs, h => by
    rw [Tr.ok] at h
    rw [Tr.fit]
    exact ⟨h.1 ▸ hw i, fits_of hw bs h.2.2⟩
theorem fits_of {ws : Nat → Option Int} {ch : Nat → List Nat} (hw : ∀ i, wishOk (ws i)) : ∀ ts : List Tr, Tr.oks ws ch ts → Tr.fits ts
  | [], _ => trivial
  | t :: ts, h => by
    rw [Tr.oks] at h
    exact ⟨fit_of hw t h.1, fits_of hw ts h.2⟩
end
theorem kW_ok {ks : List Kn} (h : ∀ k ∈ ks, wishOk k.2.2) (i : Nat) : wishOk (kW ks i) := by
  unfold kW
  cases e : ks[i]? with
  | none => exact wish_no
  | some k => exact h k (List.mem_of_getElem? e)
theorem wishes (r : Nat) (h : r < 6) : ∃ wi : Option Int, [V.non, .int 0, .int 1, .non, .int 7, .non][r]? = some (vWish wi) ∧ wishOk wi := by
  match r, h with
  | 0, _ => exact ⟨none, rfl, wish_no⟩
  | 1, _ => exact ⟨some 0, rfl, wish_of (by decide) (by decide)⟩
  | 2, _ => exact ⟨some 1, rfl, wish_of (by decide) (by decide)⟩
  | 3, _ => exact ⟨none, rfl, wish_no⟩
  | 4, _ => exact ⟨some 7, rfl, wish_of (by decide) (by decide)⟩
  | 5, _ => exact ⟨none, rfl, wish_no⟩
def spTree (K : PySem.W.Frag) : Sp := fun vs H Q _ => ∃ (d : Addr) (m n : Nat), vs = [.ref d, .int m] ∧ 1 ≤ m ∧ m ≤ 16 ∧ Drw H d n ∧ n ≤ 800000 ∧
  ∀ (H' : Hp) (v : V) (t : Tr), But d H H' → Drw H' d (n + 80) → t.knots = m → t.fit → DA K (fun a => H a = none ∧ a ≠ d) H' v t.dat → Q v H'
abbrev nTree : List Str := ["_law_draw", "_law_many", "_law_rows", "_law_k", "_law_wish"]
theorem scTree : FnScope nTree ["_law_draw", "_law_many"] (defScope sTree) := ⟨rfl, rfl, rfl, by decide +kernel, rfl, by decide +kernel, by decide +kernel⟩
theorem at_kn {ks : List Kn} {j : Nat} {a l : Addr} {w : Option Int} (h : ks[j]? = some (a, l, w)) : atI (ks.map fun k => V.ref k.1) (j : Int) = some (.ref a) := atI_nat (by rw [List.getElem?_map, h]; rfl)
theorem kn_ex {ks : List Kn} {j : Nat} (h : j < ks.length) : ∃ a l w, ks[j]? = some (a, l, w) ∧ kA ks j = a := by
  have e : ks[j]? = some ks[j] := List.getElem?_eq_getElem h
  rcases hk : ks[j] with ⟨a, l, w⟩
  rw [hk] at e
  refine ⟨a, l, w, e, ?_⟩
  unfold kA
  rw [e]
  rfl
theorem ok_tree {f fT : Addr} {fd fdT : FuncData} (B : BltX mg) (F : Fun K "_law_tree" "_law_tree" sTree f fd) (DT : Dn K mg "_law_take" sTake ["_law_draw", "_law_most"] fT fdT) (GT : FnOk P w K mg base CX0 2 fT fdT ["_law_draw", "_law_most"] spTake) :
    FnOk P w K mg base CX0 3 f fd ["_law_draw", "_law_many"] (spTree K) := by
  refine F.ok scTree (fun vs H Q E h => ?_) (fun cdv A outer s H vs Q E hr h => ?_)
  · obtain ⟨d, m, n, rfl, _⟩ := h
    rfl
  · obtain ⟨d, m, n, rfl, hm0, hm1, hd, hn, q⟩ := h
    refine ⟨_, pss_cons (ps_set (i := 2) scTree.nd rfl (Or.inl rfl) (pe_lst pa_nil))
      (pss_cons (ps_for PassesOwn.never rfl (pi_range1 rfl B.range (pa_cons (pv 1) pa_nil)) (pg_name (i := 3) scTree.nd rfl (Or.inl rfl))
        (pss_cons (ps_set (i := 4) scTree.nd rfl (Or.inl rfl) (pe_ix ix_list (pe_lst (pa_cons pe_non (pa_cons pe_int (pa_cons pe_int (pa_cons pe_non (pa_cons pe_int (pa_cons pe_non pa_nil))))))) (pe_fn DT GT hr rfl (pa_cons (pv 0) (pa_cons pe_int pa_nil))) (fun _ _ => rfl)))
        (pss_one (ps_expr (pe_bm PySem.F.plainAttrs_list PySem.F.slot_list_append PySem.F.type_list_append mt_append (pv 2) (pa_cons (pe_tup (pa_cons (pv 4) (pa_cons (pe_lst pa_nil) pa_nil))) pa_nil))))))
      (pss_cons (ps_for PassesOwn.never rfl (pi_range2 rfl B.range (pa_cons pe_int (pa_cons (pv 1) pa_nil))) (pg_name (i := 3) scTree.nd rfl (Or.inl rfl))
        (pss_one (ps_expr (pe_bm PySem.F.plainAttrs_list PySem.F.slot_list_append PySem.F.type_list_append mt_append (pe_ix ix_tup (pe_ix ix_list (pv 2) (pe_fn DT GT hr rfl (pa_cons (pv 0) (pa_cons (pv 3) pa_nil))) (fun _ _ => rfl)) pe_int (fun _ _ => rfl)) (pa_cons (pe_ix ix_list (pv 2) (pv 3) (fun _ _ => rfl)) pa_nil)))))
      (pss_one (ps_ret (pe_ix ix_list (pv 2) pe_int (fun _ _ => rfl)))))), ?_⟩
    have nd1 : ∀ {a : Addr} {Hx : Hp} {j : Nat}, Drw Hx d j → Hx a = none → a ≠ d := fun {a Hx j} D h e => by
      obtain ⟨_, _, _, e', _⟩ := D
      rw [e, e'] at h
      cases h
    have old : ∀ {a : Addr} {Hx : Hp}, But d H Hx → a ≠ d → Hx a = none → H a = none := fun {a Hx} hB hne h => by
      cases e : H a with
      | none => rfl
      | some o => rw [hB a o hne e] at h; cases h
    refine ⟨Nat.zero_le _, fun R hR => ?_⟩
    have hRd := nd1 hd hR
    refine ⟨_, rfl, (m : Int), rfl, by omega, by omega, for_range (n := m) (fun i σ H' => ∃ (o3 o4 : Option V) (ks : List Kn), σ = [some (.ref d), some (.int (m : Int)), some (.ref R), o3, o4] ∧ ks.length = i ∧ But d H H' ∧ Drw H' d (n + 2 * i) ∧ H' R = some (.lst (ks.map fun k => V.ref k.1)) ∧
      Knots H' ks (fun _ => []) ∧ (∀ k ∈ ks, wishOk k.2.2) ∧ ∀ (i : Nat) (a l : Addr) (w : Option Int), ks[i]? = some (a, l, w) → H a = none ∧ a ≠ d ∧ a ≠ R ∧ H l = none ∧ l ≠ d ∧ l ≠ R)
      ⟨none, none, [], rfl, rfl, (But.refl _ _).updN hR, hd.updN hRd, upd_same, ⟨(fun i a l w h => by cases h), (fun i a l w h => by cases h), (fun i j a l w a' w' h _ => by cases h)⟩, (fun k hk => by cases hk), (fun i a l w h => by cases h)⟩ ?_ ?_⟩
    · rintro i σ H1 hi ⟨o3, o4, ks, rfl, lk, c1, D1, e1, k1, w1, f1⟩
      refine ⟨(by show 6 ≤ sizeLine; decide), fun l0 hl0 => ?_⟩
      have nl0 := nd1 D1 hl0
      refine ⟨_, rfl, d, 6, n + 2 * i, rfl, by decide, by decide, D1.new hl0, by omega, fun r H2 r0 r1 hB2 D2 => ?_⟩
      obtain ⟨r, rfl⟩ := Int.eq_ofNat_of_zero_le r0
      obtain ⟨wi, hw, hwi⟩ := wishes r (by omega)
      have el : H2 l0 = some (.lst [V.non, .int 0, .int 1, .non, .int 7, .non]) := hB2 l0 _ nl0 upd_same
      refine ⟨l0, _, _, vWish wi, rfl, rfl, SqL.of el, atI_nat hw, ?_⟩
      have b12 : But d H1 H2 := (But.new hl0).trans hB2
      have c2 := c1.trans b12
      have e2 : H2 R = _ := b12 R _ hRd e1
      refine ⟨_, rfl, .inl ⟨rfl, _, SqL.of e2⟩, _, rfl, Nat.zero_le _, fun l hl => ?_⟩
      have nld := nd1 D2 hl
      refine ⟨(by show 2 ≤ sizeLine; decide), fun a ha => ?_⟩
      have nlR : l ≠ R := (ne_of_none e2 hl).symm
      have naR : a ≠ R := (ne_of_none (by rw [upd_ne nlR.symm]; exact e2) ha).symm
      have nal : a ≠ l := (ne_of_none upd_same ha).symm
      have ha2 : H2 a = none := by rw [upd_ne nal] at ha; exact ha
      have nad := nd1 D2 ha2
      refine ⟨R, _, _, rfl, rfl, by rw [upd_ne naR.symm, upd_ne nlR.symm]; exact e2, small1000 (by rw [List.length_map]; omega), ?_⟩
      have kp : ∀ b o, b ≠ d → b ≠ R → H1 b = some o → L2.upd (L2.upd (L2.upd H2 l (.lst [])) a (.tup [vWish wi, .ref l])) R (.lst ((ks.map fun k => V.ref k.1) ++ [.ref a])) b = some o := fun b o n1 n2 e => by
        have e' := b12 b o n1 e
        rw [upd_ne n2, upd_ne (ne_of_none e' ha2), upd_ne (ne_of_none e' hl)]
        exact e'
      refine ⟨_, _, ks ++ [(a, l, wi)], rfl, by rw [List.length_append, lk]; rfl, ?_, ?_, by rw [upd_same, List.map_append]; rfl, ?_, ?_, ?_⟩
      · exact ((c2.updN (old c2 nld hl)).updN (old c2 nad ha2)).updN hR
      · exact (((D2.updN nld).updN nad).updN hRd).mono (by omega)
      · refine k1.snoc (fun i a' l' w' e => ?_) (by rw [upd_ne naR, upd_same]) (by rw [upd_ne nlR, upd_ne nal.symm, upd_same]) ?_
        · obtain ⟨_, g1, g2, _, g3, g4⟩ := f1 i a' l' w' e
          exact ⟨fun o z => kp a' o g1 g2 z, fun o z => kp l' o g3 g4 z⟩
        · cases z : H1 l with
          | none => rfl
          | some o => rw [b12 l o nld z] at hl; cases hl
      · intro k hk
        rcases List.mem_append.mp hk with hk | hk
        · exact w1 k hk
        · rw [List.mem_singleton.mp hk]; exact hwi
      · intro i' a' l' w' e
        rcases snoc_get e with e | ⟨_, e⟩
        · exact f1 i' a' l' w' e
        · cases e
          exact ⟨old c2 nad ha2, nad, naR, old c2 nld hl, nld, nlR⟩
    · rintro σ H1 ⟨o3, o4, ks, rfl, lk, c1, D1, e1, k1, w1, f1⟩
      have em : ((m : Int) - 1).toNat = m - 1 := by omega
      refine ⟨_, rfl, 1, (m : Int), rfl, ⟨by decide, by decide, by omega, by omega⟩, ?_⟩
      rw [em]
      refine for_range (n := m - 1) (fun i σ H' => ∃ (o3 o4 : Option V) (ch : Nat → List Nat) (t : Tr), σ = [some (.ref d), some (.int (m : Int)), some (.ref R), o3, o4] ∧ But d H H' ∧ Drw H' d (n + 2 * m + 2 * i) ∧ H' R = some (.lst (ks.map fun k => V.ref k.1)) ∧
        Knots H' ks ch ∧ t.ok (kW ks) ch ∧ t.root = 0 ∧ t.knots = i + 1 ∧ (∀ x, t.labs.count x = if x < i + 1 then 1 else 0) ∧ (∀ x, i + 1 ≤ x → ch x = []) ∧ ∀ x, (ch x).length ≤ i)
        ⟨_, _, fun _ => [], .nd 0 (kW ks 0) [], rfl, c1, D1, e1, k1, by rw [Tr.ok, Tr.oks]; exact ⟨rfl, rfl, trivial⟩, rfl, by rw [Tr.knots, Tr.knotss], fun x => ?_, fun _ _ => rfl, fun _ => Nat.le_refl _⟩ ?_ ?_
      · rw [Tr.labs, Tr.labss, List.count_cons, List.count_nil]
        by_cases hx : x = 0
        · subst hx; rfl
        · have h1 : (0 == x) = false := by simpa using fun z : 0 = x => hx z.symm
          have h2 : ¬ x < 0 + 1 := by omega
          rw [if_neg h2, h1]
          rfl
      · rintro i σ H2 hi ⟨o3, o4, ch, t, rfl, c2, D2, e2, k2, t1, t2, t3, t4, t5, t6⟩
        have e1i : (1 + (i : Nat) : Int) = ((i + 1 : Nat) : Int) := by omega
        rw [e1i]
        refine ⟨_, rfl, _, rfl, _, rfl, d, ((i + 1 : Nat) : Int), n + 2 * m + 2 * i, rfl, by omega, by omega, D2, by omega, fun r H3 r0 r1 hB3 D3 => ?_⟩
        obtain ⟨r, rfl⟩ := Int.eq_ofNat_of_zero_le r0
        have hr1 : r < i + 1 := by omega
        have e3 : H3 R = _ := hB3 R _ hRd e2
        have k3 : Knots H3 ks ch := k2.keep fun i a' l' w' e => by
          obtain ⟨_, g1, g2, _, g3, g4⟩ := f1 i a' l' w' e
          exact ⟨fun o z => hB3 a' o g1 z, fun o z => hB3 l' o g3 z⟩
        obtain ⟨a, l, wi, hk, _⟩ := kn_ex (ks := ks) (j := r) (by omega)
        obtain ⟨a', l', wi', hk', ea'⟩ := kn_ex (ks := ks) (j := i + 1) (by omega)
        have el := k3.ls r a l wi hk
        refine ⟨R, _, _, _, rfl, rfl, SqL.of e3, at_kn hk, a, _, _, _, rfl, rfl, SqT.of (k3.tp r a l wi hk), rfl, .inl ⟨rfl, _, SqL.of el⟩, _, rfl, _, rfl, R, _, _, _, rfl, rfl, SqL.of e3, at_kn hk', ?_⟩
        obtain ⟨_, g1, g2, g0, g3, g4⟩ := f1 r a l wi hk
        refine ⟨l, _, _, rfl, rfl, el, ?_, ?_⟩
        · have := t6 r
          exact small1000 (by rw [List.length_map]; omega)
        · have k4 := k3.hang (m := i + 1) hk
          rw [ea'] at k4
          refine ⟨_, _, hung ch r (i + 1), t.add r (i + 1) (kW ks (i + 1)), rfl, (c2.trans hB3).updN g0, (D3.updN g3).mono (by omega), by rw [upd_ne g4.symm]; exact e3, k4, Tr.ok_add (by omega) (t5 _ (Nat.le_refl _)) t t1, by rw [Tr.root_add, t2], ?_, fun x => ?_, fun x hx => ?_, fun x => ?_⟩
          · rw [Tr.knots_add, t3, t4, if_pos hr1]
          · rw [Tr.count_add, t4, t4, if_pos hr1]
            by_cases z1 : x < i + 1
            · rw [if_pos z1, if_neg (by omega), if_pos (by omega)]
            · by_cases z2 : x = i + 1
              · rw [if_neg z1, if_pos z2, if_pos (by omega)]
              · rw [if_neg z1, if_neg z2, if_neg (by omega)]
          · unfold hung
            rw [if_neg (by omega)]
            exact t5 x (by omega)
          · unfold hung
            have := t6 x
            have := t6 r
            split
            · rw [List.length_append]; show _ + 1 ≤ _; omega
            · omega
      · rintro σ H2 ⟨o3, o4, ch, t, rfl, c2, D2, e2, k2, t1, t2, t3, t4, t5, t6⟩
        obtain ⟨a, l, wi, hk, ea⟩ := kn_ex (ks := ks) (j := 0) (by omega)
        refine ⟨_, rfl, R, _, _, _, rfl, rfl, SqL.of e2, at_kn hk, ?_⟩
        have da : DA K (fun a => H a = none ∧ a ≠ d) H2 (.ref (kA ks t.root)) t.dat := Tr.da k2 (fun i a l w e => by
          obtain ⟨g1, g2, _, g3, g4, _⟩ := f1 i a l w e
          exact ⟨⟨g1, g2⟩, g3, g4⟩) t t1 fun x hx => by
            have := List.count_pos_iff.mpr hx
            rw [t4] at this
            by_cases z : x < m - 1 + 1
            · omega
            · rw [if_neg z] at this; omega
        rw [t2, ea] at da
        exact q H2 _ t c2 (D2.mono (by omega)) (by omega) (fit_of (kW_ok w1) t t1) da
end
section
variable {P : Program} {w : World} {K : PySem.W.Frag} {mg : Str → Option Value} {base : Heap}
open TM
def slcLc (s : Stmt) : Expr := match s with
  | .Return (some (.Call _ [.Subscript e _ _] _ _)) _ => e
  | _ => .Constant .none 0 ⟨0, 0, 0, 0⟩
def spPartT (K : PySem.W.Frag) : Sp := fun vs H Q _ => ∃ (f : Addr) (a b : Int), vs = [.ref f] ∧ SqT K H f [.int a, .int b] ∧ FrOk a b ∧ ∀ H', Same H H' → Q (.str (Sg (frT a b))) H'
theorem scPartT : FnScope ["_law_f"] ["_law_f"] (defScope sPartT) := ⟨rfl, rfl, rfl, by decide +kernel, rfl, by decide +kernel, by decide +kernel⟩
theorem lcPartT : LcScopes (defScope sPartT) ["_law_f"] (lcScope (slcLc (bodyAt sPartT 0))) ["_law_number"] := ⟨by decide +kernel, rfl, by decide +kernel, by decide +kernel, by decide +kernel, by decide +kernel, by decide +kernel, by decide +kernel, by decide +kernel, by decide +kernel⟩
theorem ok_partT {f : Addr} {fd : FuncData} (B : BltX mg) (F : Fun K "_law_part_text" "_law_part_text" sPartT f fd) : FnOk P w K mg base CX0 1 f fd ["_law_f"] (spPartT K) := by
  refine F.ok scPartT (fun vs H Q E h => ?_) (fun cdv A outer s H vs Q E hr h => ?_)
  · obtain ⟨p, a, b, rfl, _⟩ := h
    rfl
  · obtain ⟨p, a, b, rfl, hp, fo, q⟩ := h
    obtain ⟨fa, fb⟩ := fr_fits fo
    have l1 := codes_len fa
    have l2 := codes_len fb
    refine ⟨_, pss_one (ps_ret (pe_bm PySem.F.plainAttrs_str PySem.F.slot_str_join PySem.F.type_str_join mt_join pe_str (pa_cons (pe_slice sl_list (pe_lc1 rfl lcPartT rfl (pi_tup (pv 0)) (fun _ _ _ => pe_callTy call_str_int (by rfl) B.str boot_str (pa_cons (pv 1) pa_nil))) po_none (po_some (pe_op op_add pe_int (pe_callTy call_int1 (by rfl) B.int boot_int (pa_cons (pe_cmpR op_gt (pe_ix ix_tup (pv 0) pe_int (fun _ _ => rfl)) pe_int (nomark _)) pa_nil))))) pa_nil))), ?_⟩
    refine ⟨rfl, _, rfl, p, rfl, ⟨_, hp⟩, fun D hD => ?_⟩
    have sm : ∀ {n : Nat}, n ≤ 200 → n ≤ sizeLine := fun h => Nat.le_trans h (by decide)
    refine lc_tup (K := K) (a := p) (xs := [.int a, .int b]) (fun i ys H' => ys = ([a, b].take i).map (fun z => V.str (Sg (codes z))) ∧ Same H H' ∧ H' D = some (.lst ys)) ⟨rfl, Same.upd hD, upd_same⟩ (fun i ys H' _ ⟨_, s', e⟩ => ⟨s'.seqT hp, e⟩) ?_ ?_ ?_
    · rintro i x ys H1 hx ⟨rfl, s1, e1⟩
      obtain ⟨z, hz, hi, rfl⟩ : ∃ z, [a, b][i]? = some z ∧ Fit z ∧ x = .int z := by
        match i, hx with
        | 0, hx => exact ⟨a, rfl, fa, (Option.some.inj hx).symm⟩
        | 1, hx => exact ⟨b, rfl, fb, (Option.some.inj hx).symm⟩
      refine ⟨_, rfl, z, rfl, fit_log hi, e1, small1000 (by rw [List.length_map, List.length_take]; simp; omega), ?_, fun b o z' => ?_, upd_same⟩
      · rw [take_snoc hz, List.map_append]
        show _ = _ ++ [V.str (Sg (codes z))]
        rw [← str_codes]
      · rw [upd_ne (ne_of_none z' hD)]
        exact s1 b o z'
    · rintro ys H1 ⟨rfl, s1, e1⟩
      have e1' : H1 D = some (.lst [.str (Sg (codes a)), .str (Sg (codes b))]) := e1
      refine ⟨_, rfl, p, _, _, _, rfl, rfl, s1.seqT hp, rfl, _, _, rfl, rfl, .inr ⟨_, rfl, ?_⟩⟩
      refine ⟨_, _, rfl, rfl, _, rfl, D, _, rfl, SqL.of e1', fun L hL => ?_⟩
      by_cases hb : b = 1
      · subst hb
        have ec : cutV [V.str (Sg (codes a)), .str (Sg (codes 1))] none (some (1 + (if decide ((1 : Int) < 1) = true then 1 else 0))) = [codes a].map fun l => V.str (Sg l) := rfl
        rw [ec]
        have s2 : Same H1 (L2.upd H1 L (.lst ([codes a].map fun l => V.str (Sg l)))) := Same.upd hL
        refine ⟨[47], L, [codes a], by rw [lit_slash], rfl, SqL.of upd_same, sm ?_, sm ?_, ?_⟩
        · simp; omega
        · simp [glueL]; omega
        · have e : glueL [47] [codes a] = frT a 1 := by simp [glueL, frT]
          rw [e]
          exact q _ (s1.trans s2)
      · have := fo.pos
        have ec : cutV [V.str (Sg (codes a)), .str (Sg (codes b))] none (some (1 + (if decide ((1 : Int) < b) = true then 1 else 0))) = [codes a, codes b].map fun l => V.str (Sg l) := by
          rw [decide_eq_true (by omega), if_pos rfl]
          rfl
        rw [ec]
        have s2 : Same H1 (L2.upd H1 L (.lst ([codes a, codes b].map fun l => V.str (Sg l)))) := Same.upd hL
        refine ⟨[47], L, [codes a, codes b], by rw [lit_slash], rfl, SqL.of upd_same, sm ?_, sm ?_, ?_⟩
        · simp; omega
        · simp [glueL]; omega
        · have e : glueL [47] [codes a, codes b] = frT a b := by simp [glueL, frT, hb]
          rw [e]
          exact q _ (s1.trans s2)
    · rintro σ H' Q1 Q2 hq ⟨v, e, z, e1, e2, g⟩
      exact ⟨v, e, z, e1, e2, hq _ _ g⟩
def spText (K : PySem.W.Frag) (d : Nat) : Sp := fun vs H Q _ => ∃ (v : V) (t : Te) (b : Bool), vs = [v, .bl b] ∧ DA K any H v t.dat ∧ t.fine ∧ dep t ≤ d ∧ (teT t).length ≤ 80000 ∧ ∀ H', Same H H' → Q (.str (Sg (teT t))) H'
abbrev nText : List Str := ["_law_term", "_law_rows", "_law_word", "_law_mark"]
abbrev aText : List Str := ["_law_term", "_law_rows"]
theorem scText : FnScope nText aText (defScope sText) := ⟨rfl, rfl, rfl, by decide +kernel, rfl, by decide +kernel, by decide +kernel⟩
theorem dep_pos (t : Te) : 1 ≤ dep t := by cases t <;> simp [dep]
def w4 : List V := [.str "one", .str "same", .str "tie", .str "all"]
def u4 : List V := [.str "near", .str "rows", .str "on", .str "turned"]
theorem in_leaf (t : Te) : inV (.str t.word) w4 = (match t with | .lf (.hue _) => false | .lf _ => true | _ => false) := by
  cases t with
  | lf k => cases k with
    | hue c => exact (by decide +kernel : inV (.str (Str.ofString "hue")) w4 = false)
    | _ => decide +kernel
  | un k t => cases k with
    | many a b => exact (by decide +kernel : inV (.str (Str.ofString "many")) w4 = false)
    | near => exact (by decide +kernel : inV (.str (Str.ofString "near")) w4 = false)
    | rows => exact (by decide +kernel : inV (.str (Str.ofString "rows")) w4 = false)
    | on => exact (by decide +kernel : inV (.str (Str.ofString "on")) w4 = false)
    | turned => exact (by decide +kernel : inV (.str (Str.ofString "turned")) w4 = false)
  | bi k t u => cases k with
    | both => exact (by decide +kernel : inV (.str (Str.ofString "both")) w4 = false)
    | thn => exact (by decide +kernel : inV (.str (Str.ofString "then")) w4 = false)
    | meet => exact (by decide +kernel : inV (.str (Str.ofString "meet")) w4 = false)
    | plus => exact (by decide +kernel : inV (.str (Str.ofString "plus")) w4 = false)
theorem in_one {k : Un} (h : ∀ a b, k ≠ .many a b) : inV (.str k.word) u4 = true := by
  cases k with
  | many a b => exact absurd rfl (h a b)
  | near => decide +kernel
  | rows => decide +kernel
  | on => decide +kernel
  | turned => decide +kernel
theorem in_two (k : Bi) : inV (.str k.word) u4 = false := by cases k <;> decide +kernel
def mkB : Bi → Str
  | .both => "*"
  | .thn => "then"
  | .meet => "meet"
  | .plus => "+"
theorem mk_bi (k : Bi) : Str.ofString " " ++ mkB k ++ Str.ofString " " = Sg (biT k) ∧ (mkB k).length ≤ 4 := by cases k <;> decide +kernel
theorem bi_both {k : Bi} (h : V.str k.word = .str (Str.ofString "both")) : k = .both := by
  cases k with
  | both => rfl
  | thn => exact absurd (V.str.inj h) (by decide +kernel)
  | meet => exact absurd (V.str.inj h) (by decide +kernel)
  | plus => exact absurd (V.str.inj h) (by decide +kernel)
theorem bi_plus {k : Bi} (h : V.str k.word = .str (Str.ofString "plus")) : k = .plus := by
  cases k with
  | plus => rfl
  | thn => exact absurd (V.str.inj h) (by decide +kernel)
  | meet => exact absurd (V.str.inj h) (by decide +kernel)
  | both => exact absurd (V.str.inj h) (by decide +kernel)
theorem flat4 : w4.all flatV = true ∧ u4.all flatV = true := by decide +kernel
theorem Str.assoc (a b c : Str) : a ++ b ++ c = a ++ (b ++ c) := by
  rw [← Sg.of a, ← Sg.of b, ← Sg.of c, Sg.app, Sg.app, Sg.app, Sg.app, List.append_assoc]
theorem ok_text {f fP : Addr} {fd fdP : FuncData} (B : BltX mg) (D : Dn K mg "_law_text" sText aText f fd) (DP : Dn K mg "_law_part_text" sPartT ["_law_f"] fP fdP) (GP : FnOk P w K mg base CX0 1 fP fdP ["_law_f"] (spPartT K)) :
    ∀ d : Nat, FnOk P w K mg base CX0 (d + 1) f fd aText (spText K d) := by
  intro d
  induction d with
  | zero =>
    refine D.fn.ok scText (fun vs H Q E h => ?_) (fun cdv A outer s H vs Q E hr h => ?_)
    · obtain ⟨v, t, b, rfl, _⟩ := h
      rfl
    · obtain ⟨v, t, b, rfl, _, _, hd, _⟩ := h
      have := dep_pos t
      omega
  | succ d ih =>
    refine D.fn.ok scText (fun vs H Q E h => ?_) (fun cdv A outer s H vs Q E hr h => ?_)
    · obtain ⟨v, t, b, rfl, _⟩ := h
      rfl
    · obtain ⟨v, t, fl, rfl, dv, fi, hd, hz, q⟩ := h
      obtain ⟨p, pre, ks, rfl, hp, lk, dk, dp⟩ := tm_at t dv
      have r1 := hr.mono (j := 1) (by omega)
      have big : ∀ {n : Nat}, n ≤ 90000 → n ≤ sizeLine := fun h => Nat.le_trans h (by decide)
      refine ⟨_, pss_cons (ps_set (i := 2) scText.nd rfl (Or.inl rfl) (pe_ix ix_tup (pv 0) pe_int (fun _ _ => rfl)))
      (pss_cons (ps_if (pt_cmpR op_in_seq (pv 2) (pe_lst (pa_cons pe_str (pa_cons pe_str (pa_cons pe_str (pa_cons pe_str pa_nil))))) rfl) (pss_one (ps_ret (pv 2))) (pss_nil))
      (pss_cons (ps_if (pt_cmpR op_eq (pv 2) pe_str (nomark _)) (pss_one (ps_ret (pe_op op_add_str pe_str (pe_callTy call_str_int (by rfl) B.str boot_str (pa_cons (pe_ix ix_tup (pv 0) pe_int (fun _ _ => rfl)) pa_nil))))) (pss_nil))
      (pss_cons (ps_if (pt_cmpR op_eq (pv 2) pe_str (nomark _)) (pss_one (ps_ret (pe_op op_add_str (pe_op op_add_str (pe_fn DP GP r1 rfl (pa_cons (pe_ix ix_tup (pv 0) pe_int (fun _ _ => rfl)) pa_nil)) pe_str) (pe_fn D ih hr rfl (pa_cons (pe_ix ix_tup (pv 0) pe_int (fun _ _ => rfl)) (pa_cons (pv 1) pa_nil)))))) (pss_nil))
      (pss_cons (ps_if (pt_cmpR op_in_seq (pv 2) (pe_lst (pa_cons pe_str (pa_cons pe_str (pa_cons pe_str (pa_cons pe_str pa_nil))))) rfl) (pss_one (ps_ret (pe_op op_add_str (pe_op op_add_str (pv 2) pe_str) (pe_fn D ih hr rfl (pa_cons (pe_ix ix_tup (pv 0) pe_int (fun _ _ => rfl)) (pa_cons (pe_cmpR op_in_seq (pv 2) (pe_lst (pa_cons pe_str (pa_cons pe_str pa_nil))) rfl) pa_nil)))))) (pss_nil))
      (pss_cons (ps_set (i := 3) scText.nd rfl (Or.inl rfl) (pv 2))
      (pss_mid (ps_if (pt_cmpR op_eq (pv 2) pe_str (nomark _)) (pss_one (ps_set (i := 3) scText.nd rfl (Or.inl rfl) pe_str)) (pss_nil))
      (pss_mid (ps_if (pt_cmpR op_eq (pv 2) pe_str (nomark _)) (pss_one (ps_set (i := 3) scText.nd rfl (Or.inl rfl) pe_str)) (pss_nil))
      (pss_one (ps_ret (pe_op op_add_str (pe_op op_add_str (pe_op op_add_str (pe_op op_add_str (pe_op op_add_str (pe_op op_add_str pe_str (pe_fn D ih hr rfl (pa_cons (pe_ix ix_tup (pv 0) pe_int (fun _ _ => rfl)) (pa_cons (pv 1) pa_nil)))) pe_str) (pv 3)) pe_str) (pe_fn D ih hr rfl (pa_cons (pe_ix ix_tup (pv 0) pe_int (fun _ _ => rfl)) (pa_cons (pv 1) pa_nil)))) pe_str)))))))))), ?_⟩
      refine ⟨_, rfl, p, _, _, _, rfl, rfl, hp, at_hd _ _, ?_⟩
      refine ⟨_, rfl, (by show 4 ≤ sizeLine; decide), fun l1 hl1 => ?_⟩
      have s1 : Same H (L2.upd H l1 (.lst [V.str (Str.ofString "one"), V.str (Str.ofString "same"), V.str (Str.ofString "tie"), V.str (Str.ofString "all")])) := Same.upd hl1
      have e1 : L2.upd H l1 (.lst [V.str (Str.ofString "one"), V.str (Str.ofString "same"), V.str (Str.ofString "tie"), V.str (Str.ofString "all")]) l1 = some (.lst [V.str (Str.ofString "one"), V.str (Str.ofString "same"), V.str (Str.ofString "tie"), V.str (Str.ofString "all")]) := upd_same
      refine ⟨l1, [V.str (Str.ofString "one"), V.str (Str.ofString "same"), V.str (Str.ofString "tie"), V.str (Str.ofString "all")], rfl, .inl (SqL.of e1), rfl, flat4.1, _, rfl, ?_⟩
      show if inV (.str t.word) w4 = true then _ else _
      generalize L2.upd H l1 (.lst [V.str (Str.ofString "one"), V.str (Str.ofString "same"), V.str (Str.ofString "tie"), V.str (Str.ofString "all")]) = H1 at s1 e1 ⊢
      rw [in_leaf]
      obtain ⟨sd, ok⟩ := id fi
      cases t with
      | lf k =>
        by_cases hh : ∃ c, k = .hue c
        · obtain ⟨c, rfl⟩ := hh
          have hc := hue_fit ok.2
          have lc := codes_len hc
          have ep := das_int dp
          subst ep
          refine iteF ?_
          refine ⟨_, rfl, rfl, _, rfl, itDP rfl ?_⟩
          refine ⟨_, rfl, p, _, _, _, rfl, rfl, s1.seqT hp, at_snd _ _ _, c, rfl, fit_log hc, ?_⟩
          refine ⟨_, _, rfl, rfl, ?_, ?_⟩
          · rw [str_codes, lit_hueb, Sg.len, Sg.len]; exact big (by simp; omega)
          · rw [str_codes, lit_hueb, Sg.app]
            exact q H1 s1
        · have wk := Lf.wordT fun c z => hh ⟨c, z⟩
          have e : (match Te.lf k with | .lf (.hue _) => false | .lf _ => true | _ => false) = true := by
            cases k with
            | hue c => exact absurd ⟨c, rfl⟩ hh
            | _ => rfl
          rw [e]
          refine iteT ⟨_, rfl, ?_⟩
          show Q (.str k.word) H1
          rw [wk]
          exact q H1 s1
      | un k t =>
        refine iteF ?_
        obtain ⟨k0, rfl⟩ := List.length_eq_one_iff.mp lk
        cases dk with
        | cons dt _ =>
          have ft : t.fine := Te.kid_fine fi (by simp [Te.kids])
          have hdt : dep t ≤ d := by simp only [dep] at hd; omega
          refine ⟨_, rfl, rfl, _, rfl, itDN (word_ne (t := .un k t) (un_hue k)) ?_⟩
          by_cases hm : ∃ a b, k = .many a b
          · obtain ⟨a, b, rfl⟩ := hm
            have fo : FrOk a b := ok.1
            have lf := frT_len fo
            obtain ⟨fA, rfl, hf⟩ := das_fr dp
            have hzt : (teT t).length + (frT a b).length + 4 ≤ 80000 := by
              rw [teT, unT] at hz
              simp only [List.length_append, List.length_cons, List.length_nil] at hz
              omega
            refine ⟨_, rfl, rfl, _, rfl, itDP rfl ?_⟩
            refine ⟨_, rfl, p, _, _, _, rfl, rfl, s1.seqT hp, at_snd _ _ _, ?_⟩
            refine ⟨fA, a, b, rfl, s1.seqT hf, fo, fun H2 s2 => ?_⟩
            have s02 := s1.trans s2
            refine ⟨_, _, rfl, rfl, ?_, ?_⟩
            · rw [lit_of, Sg.len, Sg.len]; exact big (by simp; omega)
            rw [lit_of, Sg.app]
            refine ⟨_, rfl, p, _, _, _, rfl, rfl, s02.seqT hp, rfl, _, rfl, k0, t, fl, rfl, DA.same dt s02, ft, hdt, by omega, fun H3 s3 => ?_⟩
            refine ⟨_, _, rfl, rfl, ?_, ?_⟩
            · rw [Sg.len, Sg.len]; exact big (by simp only [List.length_append, List.length_cons, List.length_nil]; omega)
            rw [Sg.app]
            exact q H3 (s02.trans s3)
          · obtain ⟨wk, lw⟩ := Un.wordT fun a b z => hm ⟨a, b, z⟩
            have hzt : (teT t).length + (unT k).length ≤ 80000 := by
              rw [teT, List.length_append] at hz
              omega
            have rk : k.rest = [] := by
              cases k with
              | many a b => exact absurd ⟨a, b, rfl⟩ hm
              | _ => rfl
            have ep : pre = [] := by
              have dp' : DAs K any H pre k.rest := dp
              rw [rk] at dp'
              cases dp'
              rfl
            subst ep
            refine ⟨_, rfl, rfl, _, rfl, itDN (word_ne (t := .un k t) (un_many fun a b z => hm ⟨a, b, z⟩)) ?_⟩
            refine ⟨_, rfl, (by show 4 ≤ sizeLine; decide), fun l2 hl2 => ?_⟩
            have s2 : Same H1 (L2.upd H1 l2 (.lst [V.str (Str.ofString "near"), V.str (Str.ofString "rows"), V.str (Str.ofString "on"), V.str (Str.ofString "turned")])) := Same.upd hl2
            refine ⟨l2, [V.str (Str.ofString "near"), V.str (Str.ofString "rows"), V.str (Str.ofString "on"), V.str (Str.ofString "turned")], rfl, .inl (SqL.of upd_same), rfl, flat4.2, _, rfl, ?_⟩
            generalize L2.upd H1 l2 (.lst [V.str (Str.ofString "near"), V.str (Str.ofString "rows"), V.str (Str.ofString "on"), V.str (Str.ofString "turned")]) = H2 at s2 ⊢
            have s02 := s1.trans s2
            show if inV (.str k.word) u4 = true then _ else _
            rw [in_one fun a b z => hm ⟨a, b, z⟩]
            refine iteT ?_
            have l1' : (Str.ofString " ").length = 1 := by decide +kernel
            refine ⟨_, rfl, _, _, rfl, rfl, ?_, ?_⟩
            · have l2' : (Te.un k t).word.length ≤ 10 := lw
              exact big (by rw [l1']; omega)
            refine ⟨_, rfl, p, _, _, _, rfl, rfl, s02.seqT hp, rfl, _, rfl, (by show 2 ≤ sizeLine; decide), fun l3 hl3 => ?_⟩
            have s3 : Same H2 (L2.upd H2 l3 (.lst [.str "near", .str "on"])) := Same.upd hl3
            have s03 := s02.trans s3
            refine ⟨l3, _, rfl, .inl (SqL.of upd_same), rfl, by decide +kernel, ?_⟩
            refine ⟨k0, t, inV (.str (Te.un k t).word) [.str "near", .str "on"], rfl, DA.same dt s03, ft, hdt, by omega, fun H4 s4 => ?_⟩
            refine ⟨_, _, rfl, rfl, ?_, ?_⟩
            · show (k.word ++ Str.ofString " ").length + _ ≤ _
              rw [wk, Sg.len, Sg.len]; exact big (by omega)
            show Q (.str (k.word ++ Str.ofString " " ++ Sg (teT t))) H4
            rw [wk, Sg.app]
            exact q H4 (s03.trans s4)
      | bi k t u =>
        refine iteF ?_
        obtain ⟨k0, k1, rfl⟩ := len_two lk
        cases dk with
        | cons dt du' =>
          cases du' with
          | cons du _ =>
            have ep : pre = [] := by cases dp; rfl
            subst ep
            have ft : t.fine := Te.kid_fine fi (by simp [Te.kids])
            have fu : u.fine := Te.kid_fine fi (by simp [Te.kids])
            have hdt : dep t ≤ d := by simp only [dep] at hd; omega
            have hdu : dep u ≤ d := by simp only [dep] at hd; omega
            have hzz : (teT t).length + (biT k).length + (teT u).length + 2 ≤ 80000 := by
              rw [teT] at hz
              simp only [List.length_append, List.length_cons, List.length_nil] at hz
              omega
            refine ⟨_, rfl, rfl, _, rfl, itDN (word_ne (t := .bi k t u) (bi_hue k).1) ?_⟩
            refine ⟨_, rfl, rfl, _, rfl, itDN (word_ne (t := .bi k t u) (bi_hue k).2) ?_⟩
            refine ⟨_, rfl, (by show 4 ≤ sizeLine; decide), fun l2 hl2 => ?_⟩
            have s2 : Same H1 (L2.upd H1 l2 (.lst [V.str (Str.ofString "near"), V.str (Str.ofString "rows"), V.str (Str.ofString "on"), V.str (Str.ofString "turned")])) := Same.upd hl2
            refine ⟨l2, [V.str (Str.ofString "near"), V.str (Str.ofString "rows"), V.str (Str.ofString "on"), V.str (Str.ofString "turned")], rfl, .inl (SqL.of upd_same), rfl, flat4.2, _, rfl, ?_⟩
            generalize L2.upd H1 l2 (.lst [V.str (Str.ofString "near"), V.str (Str.ofString "rows"), V.str (Str.ofString "on"), V.str (Str.ofString "turned")]) = H2 at s2 ⊢
            have s02 := s1.trans s2
            show if inV (.str k.word) u4 = true then _ else _
            rw [in_two]
            refine iteF ?_
            refine ⟨_, rfl, ?_⟩
            refine ⟨fun σ H' => (σ = [some (.ref p), some (.bl fl), some (.str k.word), some (.str k.word)] ∧ k ≠ .both ∨ σ = [some (.ref p), some (.bl fl), some (.str k.word), some (.str (mkB k))] ∧ k = .both) ∧ H' = H2, ?_, ?_⟩
            · refine ⟨_, rfl, rfl, _, rfl, ?_⟩
              by_cases hb : k = .both
              · subst hb
                exact itDP rfl ⟨.inr ⟨rfl, rfl⟩, rfl⟩
              · exact itDN (fun z => hb (bi_both z)) ⟨.inl ⟨rfl, hb⟩, rfl⟩
            rintro σ H' ⟨hσ, rfl⟩
            refine ⟨fun σ H'' => σ = [some (.ref p), some (.bl fl), some (.str k.word), some (.str (mkB k))] ∧ H'' = H', ?_, ?_⟩
            · rcases hσ with ⟨rfl, hb⟩ | ⟨rfl, rfl⟩
              · refine ⟨_, rfl, rfl, _, rfl, ?_⟩
                by_cases hp' : k = .plus
                · subst hp'
                  exact itDP rfl ⟨rfl, rfl⟩
                · refine itDN (fun z => hp' (bi_plus z)) ⟨?_, rfl⟩
                  cases k with
                  | both => exact absurd rfl hb
                  | plus => exact absurd rfl hp'
                  | thn => rfl
                  | meet => rfl
              · exact ⟨_, rfl, rfl, _, rfl, itDN (fun z => absurd (V.str.inj z) (by decide +kernel)) ⟨rfl, rfl⟩⟩
            rintro σ H'' ⟨rfl, rfl⟩
            obtain ⟨mk1, mk2⟩ := mk_bi k
            have l1' : (Str.ofString " ").length = 1 := by decide +kernel
            have l2' : (Str.ofString "(").length = 1 := by decide +kernel
            have l3' : (Str.ofString ")").length = 1 := by decide +kernel
            refine ⟨_, rfl, p, _, _, _, rfl, rfl, s02.seqT hp, rfl, _, rfl, k0, t, fl, rfl, DA.same dt s02, ft, hdt, by omega, fun H3 s3 => ?_⟩
            have s03 := s02.trans s3
            refine ⟨_, _, rfl, rfl, ?_, ?_⟩
            · rw [l2', Sg.len]; exact big (by omega)
            refine ⟨_, _, rfl, rfl, ?_, ?_⟩
            · rw [Str.length_append, l1', l2', Sg.len]; exact big (by omega)
            refine ⟨_, rfl, _, _, rfl, rfl, ?_, ?_⟩
            · rw [Str.length_append, Str.length_append, l1', l2', Sg.len]; exact big (by omega)
            refine ⟨_, _, rfl, rfl, ?_, ?_⟩
            · rw [Str.length_append, Str.length_append, Str.length_append, l1', l2', Sg.len]; exact big (by omega)
            refine ⟨_, rfl, p, _, _, _, rfl, rfl, s03.seqT hp, rfl, _, rfl, k1, u, fl, rfl, DA.same du s03, fu, hdu, by omega, fun H4 s4 => ?_⟩
            refine ⟨_, _, rfl, rfl, ?_, ?_⟩
            · rw [Str.length_append, Str.length_append, Str.length_append, Str.length_append, l1', l2', Sg.len, Sg.len]; exact big (by omega)
            refine ⟨_, _, rfl, rfl, ?_, ?_⟩
            · rw [Str.length_append, Str.length_append, Str.length_append, Str.length_append, Str.length_append, l1', l2', l3', Sg.len, Sg.len]; exact big (by omega)
            have fin : Str.ofString "(" ++ Sg (teT t) ++ Str.ofString " " ++ mkB k ++ Str.ofString " " ++ Sg (teT u) ++ Str.ofString ")" = Sg (teT (.bi k t u)) := by
              rw [Str.assoc (Str.ofString "(" ++ Sg (teT t)) (Str.ofString " ") (mkB k), Str.assoc (Str.ofString "(" ++ Sg (teT t)) (Str.ofString " " ++ mkB k) (Str.ofString " "), mk1, lit_open, lit_close, Sg.app, Sg.app, Sg.app, Sg.app]
              congr 1
              simp [teT]
            rw [fin]
            exact q H4 (s03.trans s4)
end
section
variable {P : Program} {w : World} {K : PySem.W.Frag} {mg : Str → Option Value} {base : Heap}
open TM
def spGrown (K : PySem.W.Frag) : Sp := fun vs H Q _ => ∃ (d : Addr) (m n : Nat), vs = [.ref d, .int m] ∧ m ≤ 19 ∧ Drw H d n ∧ n ≤ 700000 ∧
  ∀ (p R T : Addr) (ws us : List V) (rs ts : List Te) (H' : Hp), But d H H' → Drw H' d (n + 12 * m) → H' p = some (.tup [.ref R, .ref T]) → H' R = some (.lst ws) → H' T = some (.lst us) → p ≠ d → R ≠ d → T ≠ d → DAs K (fun a => a ≠ d) H' ws (rs.map Te.dat) → DAs K (fun a => a ≠ d) H' us (ts.map Te.dat) →
    (∀ t ∈ rs, t.ok false) → (∀ t ∈ ts, t.ok true) → tsz ts + tsz rs ≤ m → Q (.ref p) H'
abbrev nGrown : List Str := ["_law_draw", "_law_many", "_law_tables", "_law_rows", "_law_time"]
theorem scGrown : FnScope nGrown ["_law_draw", "_law_many"] (defScope sGrown) := ⟨rfl, rfl, rfl, by decide +kernel, rfl, by decide +kernel, by decide +kernel⟩
theorem ok_grown {f fT fR fB : Addr} {fd fdT fdR fdB : FuncData} (B : BltX mg) (F : Fun K "_law_grown" "_law_grown" sGrown f fd) (DT : Dn K mg "_law_take" sTake ["_law_draw", "_law_most"] fT fdT) (GT : FnOk P w K mg base CX0 2 fT fdT ["_law_draw", "_law_most"] spTake)
    (DR : Dn K mg "_law_row_term" sRowTerm ["_law_draw", "_law_tables", "_law_rows"] fR fdR) (GR : FnOk P w K mg base CX0 4 fR fdR ["_law_draw", "_law_tables", "_law_rows"] (spTerm K false))
    (DB : Dn K mg "_law_table_term" sTabTerm ["_law_draw", "_law_tables", "_law_rows"] fB fdB) (GB : FnOk P w K mg base CX0 4 fB fdB ["_law_draw", "_law_tables", "_law_rows"] (spTerm K true)) : FnOk P w K mg base CX0 5 f fd ["_law_draw", "_law_many"] (spGrown K) := by
  refine F.ok scGrown (fun vs H Q E h => ?_) (fun cdv A outer s H vs Q E hr h => ?_)
  · obtain ⟨d, m, n, rfl, _⟩ := h
    rfl
  · obtain ⟨d, m, n, rfl, hm, D0, hn, q⟩ := h
    have r2 := hr.mono (j := 2) (by decide)
    refine ⟨_, pss_cons (ps_set (i := 2) scGrown.nd rfl (Or.inl rfl) (pe_lst pa_nil))
      (pss_cons (ps_set (i := 3) scGrown.nd rfl (Or.inl rfl) (pe_lst pa_nil))
      (pss_cons (ps_for PassesOwn.never rfl (pi_range1 rfl B.range (pa_cons (pv 1) pa_nil)) (pg_name (i := 4) scGrown.nd rfl (Or.inl rfl)) (pss_one (ps_if (pt_cmpR op_eq (pe_fn DT GT r2 rfl (pa_cons (pv 0) (pa_cons pe_int pa_nil))) pe_int (nomark _)) (pss_one (ps_expr (pe_bm PySem.F.plainAttrs_list PySem.F.slot_list_append PySem.F.type_list_append mt_append (pv 3) (pa_cons (pe_fn DR GR hr rfl (pa_cons (pv 0) (pa_cons (pv 2) (pa_cons (pv 3) pa_nil)))) pa_nil)))) (pss_one (ps_expr (pe_bm PySem.F.plainAttrs_list PySem.F.slot_list_append PySem.F.type_list_append mt_append (pv 2) (pa_cons (pe_fn DB GB hr rfl (pa_cons (pv 0) (pa_cons (pv 2) (pa_cons (pv 3) pa_nil)))) pa_nil)))))))
      (pss_one (ps_ret (pe_tup (pa_cons (pv 3) (pa_cons (pv 2) pa_nil))))))), ?_⟩
    refine ⟨Nat.zero_le _, fun T hT => ?_⟩
    have Td := drw_ne D0 hT
    have s1 : Same H (L2.upd H T (.lst [])) := Same.upd hT
    have e1 : L2.upd H T (.lst []) T = some (.lst []) := upd_same
    have D1 : Drw (L2.upd H T (.lst [])) d n := D0.new hT
    generalize L2.upd H T (.lst []) = H1 at s1 e1 D1 ⊢
    refine ⟨Nat.zero_le _, fun R hR => ?_⟩
    have Rd := drw_ne D1 hR
    have RH := s1.free hR
    have TR : T ≠ R := fun z => by rw [z, hR] at e1; cases e1
    have s2 : Same H1 (L2.upd H1 R (.lst [])) := Same.upd hR
    have e2 : L2.upd H1 R (.lst []) R = some (.lst []) := upd_same
    have D2 : Drw (L2.upd H1 R (.lst [])) d n := D1.new hR
    generalize L2.upd H1 R (.lst []) = H2 at s2 e2 D2 ⊢
    have b3 : ∀ {H1' H2' : Hp}, But d H H1' → But3 d T R H1' H2' → But d H H2' := fun b c x o nx z => c x o nx (fun y => by rw [y, hT] at z; cases z) (fun y => by rw [y, RH] at z; cases z) (b x o nx z)
    refine ⟨_, rfl, (m : Int), rfl, by omega, by omega, for_range (n := m) (fun i σ H' => ∃ (us vs : List V) (ts rs : List Te) (o4 : Option V), σ = [some (.ref d), some (.int (m : Int)), some (.ref T), some (.ref R), o4] ∧ But d H H' ∧ TRs K d T R H' (n + 12 * i) us vs ts rs ∧ tsz ts + tsz rs ≤ i)
      ⟨[], [], [], [], _, rfl, fun x o _ z => s2 _ _ (s1 _ _ z), ⟨D2, s2 _ _ e1, e2, Td.symm, Rd.symm, TR, .nil, .nil, (fun t h => by cases h), (fun t h => by cases h)⟩, Nat.zero_le _⟩ ?_ ?_⟩
    · rintro i σ H3 hi ⟨us, vs, ts, rs, o4, rfl, b0, h3, z3⟩
      refine ⟨_, rfl, d, 2, n + 12 * i, rfl, by decide, by decide, h3.drw, by omega, fun r H4 r0 r1 hB D4 => ?_⟩
      have h4 := h3.take hB D4
      have b4 : But d H H4 := b0.trans hB
      refine ⟨rfl, _, rfl, ?_⟩
      refine ite2 (fun _ => ?_) (fun _ => ?_)
      · refine ⟨_, rfl, .inl ⟨rfl, _, SqL.of h4.tR⟩, _, rfl, _, rfl, _, rfl, d, T, R, _, us, vs, ts, rs, rfl, h4, by omega, by omega, fun v t us' vs' ts' rs' H5 c5 h5 dv g hz => ?_⟩
        have lv := das_len h5.dR
        have lr := tsz_len rs'
        rw [List.length_map] at lv
        refine ⟨R, _, _, rfl, rfl, h5.tR, small1000 (by omega), ?_⟩
        refine ⟨us', vs' ++ [v], ts', rs' ++ [t], _, rfl, b3 (b3 b4 c5) But3.updR, (h5.pushR dv g).mono (by omega), ?_⟩
        rw [sz_snoc]
        omega
      · refine ⟨_, rfl, .inl ⟨rfl, _, SqL.of h4.tT⟩, _, rfl, _, rfl, _, rfl, d, T, R, _, us, vs, ts, rs, rfl, h4, by omega, by omega, fun v t us' vs' ts' rs' H5 c5 h5 dv g hz => ?_⟩
        have lv := das_len h5.dT
        have lr := tsz_len ts'
        rw [List.length_map] at lv
        refine ⟨T, _, _, rfl, rfl, h5.tT, small1000 (by omega), ?_⟩
        refine ⟨us' ++ [v], vs', ts' ++ [t], rs', _, rfl, b3 (b3 b4 c5) But3.updT, (h5.pushT dv g).mono (by omega), ?_⟩
        rw [sz_snoc]
        omega
    · rintro σ H3 ⟨us, vs, ts, rs, o4, rfl, b0, h3, z3⟩
      refine ⟨_, rfl, _, rfl, (by show 2 ≤ sizeLine; decide), fun p hp => ?_⟩
      have s4 : Same H3 (L2.upd H3 p (.tup [.ref R, .ref T])) := Same.upd hp
      refine q p R T vs us rs ts _ (b0.trans (But.new hp)) (h3.drw.new hp) upd_same (s4 _ _ h3.tR) (s4 _ _ h3.tT) (drw_ne h3.drw hp) Rd Td (DAs.mono (fun c o _ z => s4 _ _ z) (fun _ z => z.1) h3.dR) (DAs.mono (fun c o _ z => s4 _ _ z) (fun _ z => z.1) h3.dT) h3.gR h3.gT (by omega)
theorem asc_app {a b : List Nat} (ha : ∀ c ∈ a, c < 128) (hb : ∀ c ∈ b, c < 128) : ∀ c ∈ a ++ b, c < 128 := fun c h => (List.mem_append.mp h).elim (ha c) (hb c)
theorem frT_asc (a b : Int) : ∀ c ∈ frT a b, c < 128 := by
  unfold frT
  refine asc_app codes_asc ?_
  split
  · intro c h; cases h
  · intro c h
    rcases List.mem_cons.mp h with rfl | h
    · decide
    · exact codes_asc c h
theorem teT_asc : ∀ t : Te, ∀ c ∈ teT t, c < 128
  | .lf k => by
    cases k with
    | hue z => exact asc_app (by decide) codes_asc
    | one => decide
    | same => decide
    | tie => decide
    | all => decide
  | .un k t => by
    refine asc_app ?_ (teT_asc t)
    cases k with
    | many a b => exact asc_app (frT_asc a b) (by decide)
    | near => decide
    | rows => decide
    | on => decide
    | turned => decide
  | .bi k t u => by
    have hk : ∀ c ∈ biT k, c < 128 := by cases k <;> decide
    intro c h
    rw [teT] at h
    rcases List.mem_cons.mp h with rfl | h
    · decide
    · exact asc_app (teT_asc t) (asc_app hk (asc_app (teT_asc u) (by decide))) c h
theorem glue_asc {sep : List Nat} {xs : List (List Nat)} (hs : ∀ c ∈ sep, c < 128) (hx : ∀ x ∈ xs, ∀ c ∈ x, c < 128) : ∀ c ∈ glueL sep xs, c < 128 := by
  cases xs with
  | nil => intro c h; cases h
  | cons x xs =>
    rw [glue_cons]
    refine asc_app (hx x List.mem_cons_self) fun c h => ?_
    obtain ⟨y, hy, hc⟩ := List.mem_flatMap.mp h
    exact asc_app hs (hx y (List.mem_cons_of_mem _ hy)) c hc
mutual
theorem trT_asc : ∀ t : Tr, ∀ c ∈ trT t, c < 128
  | .nd i w bs => by
    rw [trT]
    refine asc_app ?_ ?_
    · cases w with
      | none => decide
      | some z => exact codes_asc
    · split
      · intro c h; cases h
      · intro c h
        rcases List.mem_cons.mp h with rfl | h
        · decide
        · exact asc_app (glue_asc (by decide) (trTs_asc bs)) (by decide) c h
theorem trTs_asc : ∀ ts : List Tr, ∀ x ∈ trTs ts, ∀ c ∈ x, c < 128
  | [], x, h => by cases h
  | t :: ts, x, h => by
    rw [trTs] at h
    rcases List.mem_cons.mp h with rfl | h
    · exact trT_asc t
    · exact trTs_asc ts x h
end
theorem biT_len (k : Bi) : (biT k).length ≤ 6 := by cases k <;> decide
theorem un_len {k : Un} (h : ∀ a b, k = .many a b → FrOk a b) : (unT k).length ≤ 130 := by
  cases k with
  | many a b => have := frT_len (h a b rfl); rw [unT, List.length_append]; show _ + 4 ≤ _; omega
  | near => decide
  | rows => decide
  | on => decide
  | turned => decide
theorem dep_size : ∀ t : Te, dep t ≤ t.size
  | .lf _ => Nat.le_refl _
  | .un _ t => by have := dep_size t; simp only [dep, Te.size]; omega
  | .bi _ t u => by have := dep_size t; have := dep_size u; simp only [dep, Te.size]; omega
theorem teT_len : ∀ (t : Te) (s : Bool), t.ok s → (teT t).length ≤ 140 * t.size
  | .lf k, s, h => by
    cases k with
    | hue c =>
      have := codes_len (hue_fit h.2)
      rw [teT, lfT, List.length_append]
      show 4 + _ ≤ 140
      omega
    | one => show 3 ≤ 140; decide
    | same => show 4 ≤ 140; decide
    | tie => show 3 ≤ 140; decide
    | all => show 3 ≤ 140; decide
  | .un k t, s, h => by
    have fi : (Te.un k t).fine := ⟨s, h⟩
    obtain ⟨s', ht⟩ := Te.kid_fine fi (x := t) (by simp [Te.kids])
    have := teT_len t s' ht
    have lu : (unT k).length ≤ 130 := un_len fun a b e => by subst e; exact h.1
    rw [teT, List.length_append]
    simp only [Te.size]
    omega
  | .bi k t u, s, h => by
    have fi : (Te.bi k t u).fine := ⟨s, h⟩
    obtain ⟨s1, ht⟩ := Te.kid_fine fi (x := t) (by simp [Te.kids])
    obtain ⟨s2, hu⟩ := Te.kid_fine fi (x := u) (by simp [Te.kids])
    have := teT_len t s1 ht
    have := teT_len u s2 hu
    have := biT_len k
    simp only [teT, Te.size, List.length_cons, List.length_append, List.length_nil]
    omega
mutual
theorem trT_len : ∀ t : Tr, t.fit → (trT t).length + 1 ≤ 64 * t.knots
  | .nd i w bs, h => by
    have hw := wish_len h.1
    have hb := trTs_len bs h.2
    rw [trT, List.length_append]
    cases bs with
    | nil => simp only [Tr.knots, Tr.knotss, List.isEmpty_nil, if_true, List.length_nil]; omega
    | cons b bs =>
      have := glue_sum' [32] (trT b) (trTs bs)
      rw [trTs] at hb
      simp only [List.isEmpty_cons, Tr.knots, trTs]
      rw [if_neg (by decide), List.length_cons, List.length_append]
      have e1 : ([32] : List Nat).length = 1 := rfl
      have e2 : ([41] : List Nat).length = 1 := rfl
      rw [e1] at this
      omega
theorem trTs_len : ∀ ts : List Tr, Tr.fits ts → ((trTs ts).map fun x => x.length + 1).sum ≤ 64 * Tr.knotss ts
  | [], _ => Nat.le_refl _
  | t :: ts, h => by
    have := trT_len t h.1
    have := trTs_len ts h.2
    simp only [trTs, List.map_cons, List.sum_cons, Tr.knotss]
    omega
end
theorem tsz_mem {t : Te} {ts : List Te} (h : t ∈ ts) : t.size ≤ tsz ts := by
  unfold tsz
  induction ts with
  | nil => cases h
  | cons x ts ih =>
    rw [List.map_cons, List.sum_cons]
    rcases List.mem_cons.mp h with rfl | h
    · omega
    · have := ih h
      omega
end
section
open TM
theorem pNum_is {l r : List Nat} {z : Int} (h : pNum l = some (z, r)) : l = codes z ++ r ∧ Fit z := by
  unfold pNum at h
  cases e : numP l with
  | none => rw [e] at h; cases h
  | some x =>
    obtain ⟨z', k⟩ := x
    rw [e] at h
    cases h
    obtain ⟨h1, h2⟩ := codes_numP e
    refine ⟨?_, h2⟩
    rw [← h1, List.take_append_drop]
theorem pNum0_is {l r : List Nat} {z : Int} (h : pNum0 l = some (z, r)) : l = codes z ++ r ∧ 0 ≤ z ∧ Fit z := by
  unfold pNum0 at h
  split at h
  case isFalse => cases h
  case isTrue ok =>
    cases h
    obtain ⟨o1, o2, o3⟩ := okF_iff.mp ok
    have u := dgs_uniq _ _ (Nat.le_refl _) figs_fig o1 o3
    have b := Nat.lt_of_lt_of_le (dval_lt _ _ (Nat.le_refl _) (figs_fig (l := l))) (Nat.pow_le_pow_right (by decide) o2)
    refine ⟨?_, by unfold valF; omega, by unfold Fit valF; omega⟩
    unfold valF
    rw [codes_nat, u]
    have := figs_take l
    conv => lhs; rw [← List.take_append_drop (figsOf l).length l, this]
theorem pFrac_is {l r : List Nat} {f : Int × Int} (h : pFrac l = some (f, r)) : l = frT f.1 f.2 ++ r ∧ FrOk f.1 f.2 := by
  unfold pFrac at h
  cases e : pNum l with
  | none => rw [e] at h; cases h
  | some x =>
    obtain ⟨a, r0⟩ := x
    obtain ⟨h1, h2⟩ := pNum_is e
    simp only [e] at h
    cases e1 : pTake [47] r0 with
    | none =>
      simp only [e1] at h
      cases h
      refine ⟨by rw [h1]; simp [frT], ⟨h2, show (0 : Int) < 1 by decide, show (1 : Int) < 10 ^ 60 by decide, by simp⟩⟩
    | some r1 =>
      simp only [e1] at h
      cases e2 : pNum0 r1 with
      | none => simp only [e2] at h; cases h
      | some y =>
        obtain ⟨b, r2⟩ := y
        obtain ⟨g1, g2, g3⟩ := pNum0_is e2
        simp only [e2] at h
        split at h
        case isTrue => cases h
        case isFalse nb =>
          cases h
          have hb : ¬ b < 2 := fun z => nb (.inl z)
          have hg : M11.G a b = 1 := Decidable.not_not.mp fun z => nb (.inr z)
          refine ⟨?_, ⟨h2, by show 0 < b; omega, ?_, ?_⟩⟩
          · rw [h1, pTake_is e1, g1]
            show _ = frT a b ++ _
            unfold frT
            rw [if_neg (by omega)]
            simp
          · unfold Fit at g3
            show b < 10 ^ 60
            have e' : ((10 : Int) ^ 60) = ((10 ^ 60 : Nat) : Int) := by decide
            omega
          · have : ((Int.gcd a b : Nat) : Int) = 1 := hg
            exact Int.ofNat.inj this
theorem first_is {α : Type} {f : α → List Nat} {k : α} : ∀ {ks : List α} {l r : List Nat}, pFirst f ks l = some (k, r) → k ∈ ks ∧ l = f k ++ r
  | [], _, _, h => by cases h
  | x :: ks, l, r, h => by
    unfold pFirst at h
    cases e : pTake (f x) l with
    | some r' =>
      rw [e] at h
      cases h
      exact ⟨List.mem_cons_self, pTake_is e⟩
    | none =>
      rw [e] at h
      obtain ⟨h1, h2⟩ := first_is h
      exact ⟨List.mem_cons_of_mem _ h1, h2⟩
theorem leaf_ok {s : Bool} {k : Lf} (h : k ∈ leafs s) : k.tab = s ∧ k.fits := by
  cases s
  · have h' : k = .one := by simpa [leafs] using h
    subst h'
    exact ⟨rfl, trivial⟩
  · have h' : k = .same ∨ k = .tie ∨ k = .all := by simpa [leafs] using h
    rcases h' with rfl | rfl | rfl <;> exact ⟨rfl, trivial⟩
theorem one_ok {s s' : Bool} {k : Un} {t : Te} (h : (k, s') ∈ ones s) (ht : t.ok s') : (Te.un k t).ok s := by
  cases s
  · have h' : (k = .near ∧ s' = false) ∨ (k = .rows ∧ s' = true) := by simpa [ones] using h
    rcases h' with ⟨rfl, rfl⟩ | ⟨rfl, rfl⟩ <;> exact ⟨rfl, ht⟩
  · have h' : (k = .on ∧ s' = false) ∨ (k = .turned ∧ s' = true) := by simpa [ones] using h
    rcases h' with ⟨rfl, rfl⟩ | ⟨rfl, rfl⟩ <;> exact ⟨rfl, ht⟩
theorem two_ok {s : Bool} {k : Bi} {t u : Te} (h : k ∈ twos s) (ht : t.ok s) (hu : u.ok s) : (Te.bi k t u).ok s := by
  cases s
  · have h' : k = .both ∨ k = .plus := by simpa [twos] using h
    rcases h' with rfl | rfl
    · exact ⟨rfl, ht, hu⟩
    · exact ⟨ht, hu⟩
  · have h' : k = .thn ∨ k = .meet ∨ k = .plus := by simpa [twos] using h
    rcases h' with rfl | rfl | rfl
    · exact ⟨rfl, ht, hu⟩
    · exact ⟨rfl, ht, hu⟩
    · exact ⟨ht, hu⟩
theorem pT_is : ∀ (n : Nat) (s : Bool) (l r : List Nat) (te : Te), pT n s l = some (te, r) → l = teT te ++ r ∧ te.ok s ∧ dep te ≤ n := by
  intro n
  induction n with
  | zero => intro s l r te h; cases h
  | succ n ih =>
    intro s l r te h
    rw [pT_succ] at h
    cases e1 : pFirst lfT (leafs s) l with
    | some x =>
      obtain ⟨k, r1⟩ := x
      simp only [e1] at h
      cases h
      obtain ⟨h1, h2⟩ := first_is e1
      exact ⟨h2, leaf_ok h1, by show 1 ≤ n + 1; omega⟩
    | none =>
      simp only [e1] at h
      cases e2 : pFirst (fun x => unT x.1) (ones s) l with
      | some x =>
        obtain ⟨⟨k, s'⟩, r1⟩ := x
        obtain ⟨h1, h2⟩ := first_is e2
        simp only [e2] at h
        cases e3 : pT n s' r1 with
        | none => simp only [e3] at h; cases h
        | some y =>
          obtain ⟨t, r2⟩ := y
          simp only [e3] at h
          cases h
          obtain ⟨g1, g2, g3⟩ := ih _ _ _ _ e3
          exact ⟨by rw [h2, g1, teT, List.append_assoc], one_ok h1 g2, by show dep t + 1 ≤ n + 1; omega⟩
      | none =>
        simp only [e2] at h
        cases e3 : (if s = true then none else pTake [104, 117, 101, 32] l) with
        | some r1 =>
          simp only [e3] at h
          have hs : s = false := by
            cases s
            · rfl
            · rw [if_pos rfl] at e3; cases e3
          subst hs
          have e3' : pTake [104, 117, 101, 32] l = some r1 := e3
          cases e4 : pNum0 r1 with
          | none => simp only [e4] at h; cases h
          | some y =>
            obtain ⟨c, r2⟩ := y
            simp only [e4] at h
            cases h
            obtain ⟨g1, g2, g3⟩ := pNum0_is e4
            refine ⟨by rw [pTake_is e3', g1, teT, lfT, List.append_assoc], ⟨rfl, g2, ?_⟩, by show 1 ≤ n + 1; omega⟩
            unfold Fit at g3
            have e' : ((10 : Int) ^ 60) = ((10 ^ 60 : Nat) : Int) := by decide
            omega
        | none =>
          simp only [e3] at h
          cases e4 : pTake [40] l with
          | some r1 =>
            simp only [e4] at h
            unfold p2 at h
            cases e5 : pT n s r1 with
            | none => simp only [e5] at h; cases h
            | some y =>
              obtain ⟨t, r2⟩ := y
              simp only [e5] at h
              cases e6 : pFirst biT (twos s) r2 with
              | none => simp only [e6] at h; cases h
              | some y =>
                obtain ⟨k, r3⟩ := y
                simp only [e6] at h
                cases e7 : pT n s r3 with
                | none => simp only [e7] at h; cases h
                | some y =>
                  obtain ⟨u, r4⟩ := y
                  simp only [e7] at h
                  cases e8 : pTake [41] r4 with
                  | none => simp only [e8] at h; cases h
                  | some r5 =>
                    simp only [e8] at h
                    cases h
                    obtain ⟨a1, a2, a3⟩ := ih _ _ _ _ e5
                    obtain ⟨b1, b2⟩ := first_is e6
                    obtain ⟨c1, c2, c3⟩ := ih _ _ _ _ e7
                    refine ⟨?_, two_ok b1 a2 c2, by show max (dep t) (dep u) + 1 ≤ n + 1; omega⟩
                    rw [pTake_is e4, a1, b2, c1, pTake_is e8, teT]
                    simp
          | none =>
            simp only [e4] at h
            unfold pM at h
            cases e5 : pFrac l with
            | none => simp only [e5] at h; cases h
            | some y =>
              obtain ⟨f, r1⟩ := y
              simp only [e5] at h
              cases e6 : pTake [32, 111, 102, 32] r1 with
              | none => simp only [e6] at h; cases h
              | some r2 =>
                simp only [e6] at h
                cases e7 : pT n s r2 with
                | none => simp only [e7] at h; cases h
                | some y =>
                  obtain ⟨t, r3⟩ := y
                  simp only [e7] at h
                  cases h
                  obtain ⟨a1, a2⟩ := pFrac_is e5
                  obtain ⟨c1, c2, c3⟩ := ih _ _ _ _ e7
                  refine ⟨?_, ⟨a2, c2⟩, by show dep t + 1 ≤ n + 1; omega⟩
                  rw [a1, pTake_is e6, c1, teT, unT]
                  simp
end
section
open TM
theorem pWish_is {l r : List Nat} {w : Option Int} (h : pWish l = some (w, r)) : l = wishT w ++ r ∧ wishOk w := by
  unfold pWish at h
  cases e : pTake [111] l with
  | some r' =>
    simp only [e] at h
    cases h
    exact ⟨pTake_is e, fun c z => by cases z⟩
  | none =>
    simp only [e] at h
    cases e2 : pNum0 l with
    | none => simp only [e2] at h; cases h
    | some x =>
      obtain ⟨c, r'⟩ := x
      simp only [e2] at h
      cases h
      obtain ⟨h1, h2, h3⟩ := pNum0_is e2
      exact ⟨h1, fun c' z => by cases z; exact ⟨h2, h3⟩⟩
theorem pMore_is {f : List Nat → Option (Tr × List Nat)} {n : Nat} (hf : ∀ l t r, f l = some (t, r) → l = trT t ++ r ∧ t.fit ∧ t.deep ≤ n) : ∀ k l ts r, pMore f k l = some (ts, r) → l = (trTs ts).flatMap (fun m => [32] ++ m) ++ r ∧ Tr.fits ts ∧ Tr.deeps ts ≤ n := by
  intro k
  induction k with
  | zero => intro l ts r h; cases h
  | succ k ih =>
    intro l ts r h
    unfold pMore at h
    cases e : pTake [32] l with
    | none =>
      simp only [e] at h
      cases h
      exact ⟨rfl, trivial, Nat.zero_le _⟩
    | some r0 =>
      simp only [e] at h
      cases e1 : f r0 with
      | none => simp only [e1] at h; cases h
      | some x =>
        obtain ⟨t, r1⟩ := x
        simp only [e1] at h
        cases e2 : pMore f k r1 with
        | none => simp only [e2] at h; cases h
        | some y =>
          obtain ⟨ts', r2⟩ := y
          simp only [e2] at h
          cases h
          obtain ⟨a1, a2, a3⟩ := hf _ _ _ e1
          obtain ⟨b1, b2, b3⟩ := ih _ _ _ e2
          refine ⟨?_, ⟨a2, b2⟩, by simp only [Tr.deeps]; omega⟩
          rw [pTake_is e, a1, b1]
          simp [trTs]
theorem trT_more (w : Option Int) (i : Nat) (b : Tr) (bs : List Tr) (r : List Nat) : trT (.nd i w (b :: bs)) ++ r = wishT w ++ (40 :: (trT b ++ ((trTs bs).flatMap (fun m => [32] ++ m) ++ (41 :: r)))) := by
  simp only [trT, trTs, List.isEmpty_cons, glue_cons]
  simp
theorem pTr_is : ∀ n l t r, pTr n l = some (t, r) → l = trT t ++ r ∧ t.fit ∧ t.deep ≤ n := by
  intro n
  induction n with
  | zero => intro l t r h; cases h
  | succ n ih =>
    intro l t r h
    unfold pTr at h
    cases e : pWish l with
    | none => simp only [e] at h; cases h
    | some x =>
      obtain ⟨w, r0⟩ := x
      simp only [e] at h
      obtain ⟨w1, w2⟩ := pWish_is e
      cases e1 : pTake [40] r0 with
      | none =>
        simp only [e1] at h
        cases h
        exact ⟨by rw [w1]; simp [trT], ⟨w2, trivial⟩, by simp [Tr.deep, Tr.deeps]⟩
      | some r1 =>
        simp only [e1] at h
        cases e2 : pTr n r1 with
        | none => simp only [e2] at h; cases h
        | some x =>
          obtain ⟨b, r2⟩ := x
          simp only [e2] at h
          cases e3 : pMore (pTr n) (r2.length + 1) r2 with
          | none => simp only [e3] at h; cases h
          | some x =>
            obtain ⟨bs, r3⟩ := x
            simp only [e3] at h
            cases e4 : pTake [41] r3 with
            | none => simp only [e4] at h; cases h
            | some r4 =>
              simp only [e4] at h
              cases h
              obtain ⟨a1, a2, a3⟩ := ih _ _ _ e2
              obtain ⟨b1, b2, b3⟩ := pMore_is ih _ _ _ _ e3
              refine ⟨?_, ⟨w2, a2, b2⟩, by simp only [Tr.deep, Tr.deeps]; omega⟩
              rw [trT_more, w1, pTake_is e1, a1, b1, pTake_is e4]
              rfl
def isNS (c : Nat) : Bool := c == 45 || isFig c
def nE (z0 : Int) (l : List Nat) : Option (Int × List Nat) := match numO (l.takeWhile isNS) with
  | none => none
  | some z => if z < z0 then none else some (z, l.dropWhile isNS)
theorem dw_head {p : Nat → Bool} : ∀ {l : List Nat} {c : Nat}, (l.dropWhile p).head? = some c → p c = false
  | [], _, h => by cases h
  | x :: l, c, h => by
    by_cases hx : p x = true
    · rw [List.dropWhile_cons_of_pos hx] at h
      exact dw_head h
    · rw [List.dropWhile_cons_of_neg hx] at h
      cases h
      simpa using hx
theorem tw_app {p : Nat → Bool} : ∀ {a r : List Nat}, (∀ c ∈ a, p c = true) → (∀ c, r.head? = some c → p c = false) → (a ++ r).takeWhile p = a ∧ (a ++ r).dropWhile p = r
  | [], r, _, hr => by
    cases r with
    | nil => exact ⟨rfl, rfl⟩
    | cons c r =>
      have := hr c rfl
      simp [this]
  | x :: a, r, ha, hr => by
    have hx := ha x List.mem_cons_self
    obtain ⟨h1, h2⟩ := tw_app (a := a) (r := r) (fun c hc => ha c (List.mem_cons_of_mem _ hc)) hr
    rw [List.cons_append, List.takeWhile_cons_of_pos hx, List.dropWhile_cons_of_pos hx, h1, h2]
    exact ⟨rfl, rfl⟩
theorem ns_fig {c : Nat} (h : isNS c = false) : isFig c = false ∧ c ≠ 45 := by
  unfold isNS at h
  rw [Bool.or_eq_false_iff] at h
  exact ⟨h.2, by simpa using h.1⟩
theorem codes_ns (z : Int) : ∀ c ∈ codes z, isNS c = true := by
  have hd : ∀ n, ∀ c ∈ dgs n, isNS c = true := fun n c hc => by
    unfold isNS
    rw [dgs_fig n c hc, Bool.or_true]
  rcases Int.lt_or_le z 0 with h | h
  · obtain ⟨n, rfl⟩ : ∃ n : Nat, z = -(n : Int) := ⟨z.natAbs, by omega⟩
    rw [codes_neg n (by omega)]
    intro c hc
    rcases List.mem_cons.mp hc with rfl | hc
    · decide
    · exact hd n c hc
  · obtain ⟨n, rfl⟩ := Int.eq_ofNat_of_zero_le h
    rw [codes_nat]
    exact hd n
theorem nE_is {z0 z : Int} {l r : List Nat} (h : nE z0 l = some (z, r)) : l = codes z ++ r ∧ Fit z ∧ z0 ≤ z := by
  unfold nE at h
  cases e : numO (l.takeWhile isNS) with
  | none => rw [e] at h; cases h
  | some z' =>
    simp only [e] at h
    split at h
    case isTrue => cases h
    case isFalse hz =>
      cases h
      have g := num_prog (r := l.dropWhile isNS) e (fun c hc => (ns_fig (dw_head hc)).1)
      rw [List.takeWhile_append_dropWhile] at g
      obtain ⟨g1, g2⟩ := codes_numP g
      refine ⟨?_, g2, by omega⟩
      rw [← g1]
      have e2 : l.take (l.takeWhile isNS).length = l.takeWhile isNS := (congrArg (List.take _) (List.takeWhile_append_dropWhile (p := isNS) (l := l)).symm).trans List.take_left
      rw [e2, List.takeWhile_append_dropWhile]
theorem nE_txt {z z0 : Int} {r : List Nat} (h : Fit z) (h0 : z0 ≤ z) (hr : ∀ c, r.head? = some c → isNS c = false) : nE z0 (codes z ++ r) = some (z, r) := by
  obtain ⟨h1, h2⟩ := tw_app (codes_ns z) hr
  have g := (num_law (numP_codes (r := []) h (fun c hc => by cases hc))).1
  rw [List.append_nil, List.take_length] at g
  unfold nE
  rw [h1, h2, g]
  show (if z < z0 then none else _) = _
  rw [if_neg (by omega)]
def fE (l : List Nat) : Option (List Nat) := match nE (-(10 ^ 60)) l with
  | none => none
  | some (a, r) => match pTake [47] r with
    | none => pTake [32, 111, 102, 32] r
    | some r1 => match nE 2 r1 with
      | none => none
      | some (b, r2) => if M11.G a b = 1 then pTake [32, 111, 102, 32] r2 else none
theorem fE_is {l r : List Nat} (h : fE l = some r) : ∃ a b, FrOk a b ∧ l = unT (.many a b) ++ r := by
  unfold fE at h
  cases e : nE (-(10 ^ 60)) l with
  | none => simp only [e] at h; cases h
  | some x =>
    obtain ⟨a, r0⟩ := x
    simp only [e] at h
    obtain ⟨a1, a2, a3⟩ := nE_is e
    cases e1 : pTake [47] r0 with
    | none =>
      simp only [e1] at h
      refine ⟨a, 1, ⟨a2, by decide, by decide, by simp⟩, ?_⟩
      rw [a1, pTake_is h]
      simp [unT, frT]
    | some r1 =>
      simp only [e1] at h
      cases e2 : nE 2 r1 with
      | none => simp only [e2] at h; cases h
      | some x =>
        obtain ⟨b, r2⟩ := x
        simp only [e2] at h
        obtain ⟨b1, b2, b3⟩ := nE_is e2
        split at h
        case isFalse => cases h
        case isTrue hg =>
          refine ⟨a, b, ⟨a2, by omega, ?_, Int.ofNat.inj hg⟩, ?_⟩
          · unfold Fit at b2
            have e' : ((10 : Int) ^ 60) = ((10 ^ 60 : Nat) : Int) := by decide
            omega
          · rw [a1, pTake_is e1, b1, pTake_is h]
            simp [unT, frT, show b ≠ 1 by omega]
theorem fE_txt {a b : Int} (h : FrOk a b) (r : List Nat) : fE (unT (.many a b) ++ r) = some r := by
  have ha : Fit a := h.top
  have hb : Fit b := by
    have := h.pos
    have := h.bot
    have e' : ((10 : Int) ^ 60) = ((10 ^ 60 : Nat) : Int) := by decide
    unfold Fit
    omega
  have lo : -(10 ^ 60 : Int) ≤ a := by
    unfold Fit at ha
    have e' : ((10 : Int) ^ 60) = ((10 ^ 60 : Nat) : Int) := by decide
    omega
  unfold fE
  by_cases h1 : b = 1
  · subst h1
    have e : unT (.many a 1) ++ r = codes a ++ (32 :: ([111, 102, 32] ++ r)) := by simp [unT, frT]
    rw [e, nE_txt ha lo (fun c hc => by cases hc; decide)]
    simp only [pTake_hd (show (47 : Nat) ≠ 32 by decide)]
    exact pTake_app [32, 111, 102, 32] r
  · have e : unT (.many a b) ++ r = codes a ++ (47 :: (codes b ++ (32 :: ([111, 102, 32] ++ r)))) := by simp [unT, frT, h1]
    have := h.pos
    rw [e, nE_txt ha lo (fun c hc => by cases hc; decide)]
    simp only [pTake_one, nE_txt hb (show (2 : Int) ≤ b by omega) (r := 32 :: ([111, 102, 32] ++ r)) (fun c hc => by cases hc; decide)]
    have hg : M11.G a b = 1 := by
      show ((Int.gcd a b : Nat) : Int) = 1
      rw [h.cop]
      rfl
    rw [if_pos hg]
    exact pTake_app [32, 111, 102, 32] r
end
section
open TM
def isLow (c : Nat) : Bool := decide (97 ≤ c) && decide (c ≤ 122)
def hdNS : List Nat → Bool
  | c :: _ => isNS c
  | [] => false
def eW (f : Bool → List Nat → Option (List Nat)) (s : Bool) (w r : List Nat) : Option (List Nat) :=
  if w ∈ (leafs s).map lfT then some r
  else match pTake [32] r with
    | none => none
    | some r1 =>
      if s = false ∧ w = [104, 117, 101] then (match nE 0 r1 with
        | none => none
        | some (_, r2) => some r2)
      else if s = false ∧ w = [110, 101, 97, 114] then f false r1
      else if s = false ∧ w = [114, 111, 119, 115] then f true r1
      else if s = true ∧ w = [111, 110] then f false r1
      else if s = true ∧ w = [116, 117, 114, 110, 101, 100] then f true r1
      else none
def e2 (f : List Nat → Option (List Nat)) (s : Bool) (l : List Nat) : Option (List Nat) := match f l with
  | none => none
  | some r => match pFirst biT (twos s) r with
    | none => none
    | some (_, r1) => match f r1 with
      | none => none
      | some r2 => pTake [41] r2
def eT : Nat → Bool → List Nat → Option (List Nat)
  | 0, _, _ => none
  | n + 1, s, l => match pTake [40] l with
    | some r => e2 (eT n s) s r
    | none => if hdNS l = true then (match fE l with
        | none => none
        | some r => eT n s r)
      else eW (eT n) s (l.takeWhile isLow) (l.dropWhile isLow)
theorem eT_is : ∀ (n : Nat) (s : Bool) (l r : List Nat), eT n s l = some r → ∃ te : Te, te.ok s ∧ l = teT te ++ r := by
  intro n
  induction n with
  | zero => intro s l r h; cases h
  | succ n ih =>
    intro s l r h
    unfold eT at h
    cases e1 : pTake [40] l with
    | some r1 =>
      simp only [e1] at h
      unfold e2 at h
      cases e5 : eT n s r1 with
      | none => simp only [e5] at h; cases h
      | some r2 =>
        simp only [e5] at h
        cases e6 : pFirst biT (twos s) r2 with
        | none => simp only [e6] at h; cases h
        | some y =>
          obtain ⟨k, r3⟩ := y
          simp only [e6] at h
          cases e7 : eT n s r3 with
          | none => simp only [e7] at h; cases h
          | some r4 =>
            simp only [e7] at h
            obtain ⟨t, t1, t2⟩ := ih _ _ _ e5
            obtain ⟨u, u1, u2⟩ := ih _ _ _ e7
            obtain ⟨b1, b2⟩ := first_is e6
            refine ⟨.bi k t u, two_ok b1 t1 u1, ?_⟩
            rw [pTake_is e1, t2, b2, u2, pTake_is h, teT]
            simp
    | none =>
      simp only [e1] at h
      split at h
      case isTrue =>
        cases e2 : fE l with
        | none => simp only [e2] at h; cases h
        | some r1 =>
          simp only [e2] at h
          obtain ⟨a, b, f1, f2⟩ := fE_is e2
          obtain ⟨t, t1, t2⟩ := ih _ _ _ h
          exact ⟨.un (.many a b) t, ⟨f1, t1⟩, by rw [f2, t2, teT, List.append_assoc]⟩
      case isFalse =>
        have el := (List.takeWhile_append_dropWhile (p := isLow) (l := l)).symm
        generalize l.takeWhile isLow = w at h el
        generalize l.dropWhile isLow = r0 at h el
        unfold eW at h
        split at h
        case isTrue hw =>
          cases h
          obtain ⟨k, k1, k2⟩ := List.mem_map.mp hw
          exact ⟨.lf k, leaf_ok k1, by rw [el, ← k2]; rfl⟩
        case isFalse =>
          cases e3 : pTake [32] r0 with
          | none => simp only [e3] at h; cases h
          | some r1 =>
            simp only [e3] at h
            have er := pTake_is e3
            have one : ∀ (k : Un) (s' : Bool), (k, s') ∈ ones s → unT k = w ++ [32] → eT n s' r1 = some r → ∃ te : Te, te.ok s ∧ l = teT te ++ r := fun k s' hk hu g => by
              obtain ⟨t, t1, t2⟩ := ih _ _ _ g
              refine ⟨.un k t, one_ok hk t1, ?_⟩
              rw [el, er, t2, teT, hu]
              simp
            split at h
            case isTrue hc =>
              obtain ⟨rfl, rfl⟩ := hc
              cases e4 : nE 0 r1 with
              | none => simp only [e4] at h; cases h
              | some y =>
                obtain ⟨c, r2⟩ := y
                simp only [e4] at h
                cases h
                obtain ⟨c1, c2, c3⟩ := nE_is e4
                refine ⟨.lf (.hue c), ⟨rfl, c3, ?_⟩, ?_⟩
                · unfold Fit at c2
                  have e' : ((10 : Int) ^ 60) = ((10 ^ 60 : Nat) : Int) := by decide
                  omega
                · rw [el, er, c1]
                  simp [teT, lfT]
            case isFalse =>
              split at h
              case isTrue hc => obtain ⟨rfl, rfl⟩ := hc; exact one .near false (by simp [ones]) rfl h
              case isFalse =>
                split at h
                case isTrue hc => obtain ⟨rfl, rfl⟩ := hc; exact one .rows true (by simp [ones]) rfl h
                case isFalse =>
                  split at h
                  case isTrue hc => obtain ⟨rfl, rfl⟩ := hc; exact one .on false (by simp [ones]) rfl h
                  case isFalse =>
                    split at h
                    case isTrue hc => obtain ⟨rfl, rfl⟩ := hc; exact one .turned true (by simp [ones]) rfl h
                    case isFalse => cases h
def Bk (r : List Nat) : Prop := ∀ c, r.head? = some c → c = 32 ∨ c = 41
theorem Bk.ns {r : List Nat} (h : Bk r) : ∀ c, r.head? = some c → isNS c = false := fun c hc => by
  rcases h c hc with rfl | rfl <;> decide
theorem Bk.low {r : List Nat} (h : Bk r) : ∀ c, r.head? = some c → isLow c = false := fun c hc => by
  rcases h c hc with rfl | rfl <;> decide
theorem bk_bi (k : Bi) (l : List Nat) : Bk (biT k ++ l) := fun c hc => by
  cases k <;> (cases hc; exact .inl rfl)
theorem eT_word {n : Nat} {s : Bool} {w r : List Nat} (hw : w.all isLow = true) (hn : w ≠ []) (hr : ∀ c, r.head? = some c → isLow c = false) : eT (n + 1) s (w ++ r) = eW (eT n) s w r := by
  have ha : ∀ c ∈ w, isLow c = true := fun c hc => List.all_eq_true.mp hw c hc
  obtain ⟨h1, h2⟩ := tw_app ha hr
  cases w with
  | nil => exact absurd rfl hn
  | cons c w =>
    have hc := ha c List.mem_cons_self
    unfold isLow at hc
    rw [Bool.and_eq_true, decide_eq_true_iff, decide_eq_true_iff] at hc
    have n1 : pTake [40] (c :: w ++ r) = none := pTake_hd (by omega)
    have n2 : hdNS (c :: w ++ r) = false := by
      show isNS c = false
      unfold isNS
      rw [Bool.or_eq_false_iff]
      refine ⟨by rw [beq_eq_false_iff_ne]; omega, ?_⟩
      cases hf : isFig c with
      | false => rfl
      | true => have := fig_lt hf; omega
    unfold eT
    simp only [n1, n2, h1, h2]
    rfl
theorem eT_txt : ∀ (te : Te) (s : Bool) (n : Nat) (r : List Nat), te.ok s → dep te ≤ n → Bk r → eT n s (teT te ++ r) = some r := by
  intro te
  induction te with
  | lf k =>
    intro s n r h hd hr
    obtain ⟨n, rfl⟩ : ∃ m, n = m + 1 := ⟨n - 1, by simp only [dep] at hd; omega⟩
    obtain ⟨h1, h2⟩ := h
    by_cases hh : ∃ c, k = .hue c
    · obtain ⟨c, rfl⟩ := hh
      have hs : s = false := h1.symm
      subst hs
      have hf : Fit c := by
        have := h2.1
        have := h2.2
        have e' : ((10 : Int) ^ 60) = ((10 ^ 60 : Nat) : Int) := by decide
        unfold Fit
        omega
      have e : teT (.lf (.hue c)) ++ r = [104, 117, 101] ++ (32 :: (codes c ++ r)) := by simp [teT, lfT]
      rw [e, eT_word (by decide) (by decide) (fun c hc => by cases hc; decide)]
      unfold eW
      rw [if_neg (by decide)]
      simp only [pTake_one]
      rw [if_pos ⟨trivial, trivial⟩, nE_txt hf h2.1 hr.ns]
    · have hk : k ∈ leafs s := by
        cases k with
        | hue c => exact absurd ⟨c, rfl⟩ hh
        | one => cases h1; simp [leafs, Lf.tab]
        | same => cases h1; simp [leafs, Lf.tab]
        | tie => cases h1; simp [leafs, Lf.tab]
        | all => cases h1; simp [leafs, Lf.tab]
      have hl : (lfT k).all isLow = true ∧ lfT k ≠ [] := by
        cases k with
        | hue c => exact absurd ⟨c, rfl⟩ hh
        | _ => exact ⟨by decide, by decide⟩
      show eT (n + 1) s (lfT k ++ r) = _
      rw [eT_word hl.1 hl.2 hr.low]
      unfold eW
      rw [if_pos (List.mem_map.mpr ⟨k, hk, rfl⟩)]
  | un k t ih =>
    intro s n r h hd hr
    obtain ⟨n, rfl⟩ : ∃ m, n = m + 1 := ⟨n - 1, by simp only [dep] at hd; omega⟩
    have hd' : dep t ≤ n := by simp only [dep] at hd; omega
    have fin : ∀ (w : List Nat), unT k = w ++ [32] → w.all isLow = true → w ≠ [] → (∀ r1, eW (eT n) s w (32 :: r1) = eT n (match k with | .near => false | .rows => true | .on => false | .turned => true | .many _ _ => s) r1) → t.ok (match k with | .near => false | .rows => true | .on => false | .turned => true | .many _ _ => s) → eT (n + 1) s (teT (.un k t) ++ r) = some r := fun w hu hw hn he hok => by
      have e : teT (.un k t) ++ r = w ++ (32 :: (teT t ++ r)) := by rw [teT, hu]; simp
      rw [e, eT_word hw hn (fun c hc => by cases hc; decide), he, ih _ n r hok hd' hr]
    cases k with
    | near =>
      obtain ⟨rfl, h⟩ := h
      refine fin [110, 101, 97, 114] rfl (by decide) (by decide) (fun r1 => ?_) h
      unfold eW
      rw [if_neg (by decide)]
      simp only [pTake_one]
      rw [if_neg (by decide), if_pos (by decide)]
    | rows =>
      obtain ⟨rfl, h⟩ := h
      refine fin [114, 111, 119, 115] rfl (by decide) (by decide) (fun r1 => ?_) h
      unfold eW
      rw [if_neg (by decide)]
      simp only [pTake_one]
      rw [if_neg (by decide), if_neg (by decide), if_pos (by decide)]
    | on =>
      obtain ⟨rfl, h⟩ := h
      refine fin [111, 110] rfl (by decide) (by decide) (fun r1 => ?_) h
      unfold eW
      rw [if_neg (by decide)]
      simp only [pTake_one]
      rw [if_neg (by decide), if_neg (by decide), if_neg (by decide), if_pos (by decide)]
    | turned =>
      obtain ⟨rfl, h⟩ := h
      refine fin [116, 117, 114, 110, 101, 100] rfl (by decide) (by decide) (fun r1 => ?_) h
      unfold eW
      rw [if_neg (by decide)]
      simp only [pTake_one]
      rw [if_neg (by decide), if_neg (by decide), if_neg (by decide), if_neg (by decide), if_pos (by decide)]
    | many a b =>
      obtain ⟨hf, hok⟩ := h
      have e : teT (.un (.many a b) t) ++ r = unT (.many a b) ++ (teT t ++ r) := by rw [teT, List.append_assoc]
      obtain ⟨c, l, ec, hc⟩ := codes_hd a
      have e2 : ∃ l', unT (.many a b) ++ (teT t ++ r) = c :: l' := ⟨_, by rw [unT, frT, ec]; rfl⟩
      obtain ⟨l', e2⟩ := e2
      have lt := Odd1.lt hc
      have g := fE_txt hf (teT t ++ r)
      rw [e]
      rw [e2] at g ⊢
      unfold eT
      have n2 : hdNS (c :: l') = true := by
        show isNS c = true
        unfold isNS
        rcases hc with rfl | hc
        · rfl
        · rw [hc, Bool.or_true]
      simp only [pTake_hd (show (40 : Nat) ≠ c from fun z => lt.2 z.symm), n2, if_true, g]
      exact ih s n r hok hd' hr
  | bi k t u h1 h2 =>
    intro s n r h hd hr
    obtain ⟨n, rfl⟩ : ∃ m, n = m + 1 := ⟨n - 1, by simp only [dep] at hd; omega⟩
    have hdt : dep t ≤ n := by simp only [dep] at hd; omega
    have hdu : dep u ≤ n := by simp only [dep] at hd; omega
    have hk : t.ok s ∧ u.ok s ∧ k ∈ twos s := by
      cases k with
      | plus => exact ⟨h.1, h.2, by cases s <;> simp [twos]⟩
      | both => obtain ⟨rfl, a, b⟩ := h; exact ⟨a, b, by simp [twos]⟩
      | thn => obtain ⟨rfl, a, b⟩ := h; exact ⟨a, b, by simp [twos]⟩
      | meet => obtain ⟨rfl, a, b⟩ := h; exact ⟨a, b, by simp [twos]⟩
    obtain ⟨ht, hu, hm⟩ := hk
    have e : teT (.bi k t u) ++ r = 40 :: (teT t ++ (biT k ++ (teT u ++ (41 :: r)))) := by
      rw [teT, List.cons_append, List.append_assoc, List.append_assoc, List.append_assoc]
      rfl
    rw [e]
    unfold eT
    simp only [pTake_one]
    unfold e2
    simp only [h1 s n _ ht hdt (bk_bi k _), first_sign hm, h2 s n (41 :: r) hu hdu (fun c hc => by cases hc; exact .inr rfl), pTake_one]
end
section
open TM
def tW (l : List Nat) : Option (List Nat) := match pTake [111] l with
  | some r => some r
  | none => match nE 0 l with
    | none => none
    | some (_, r) => some r
def tM (f : List Nat → Option (List Nat)) : Nat → List Nat → Option (List Nat)
  | 0, _ => none
  | k + 1, l => match pTake [32] l with
    | none => some l
    | some r => match f r with
      | none => none
      | some r1 => tM f k r1
def tE : Nat → List Nat → Option (List Nat)
  | 0, _ => none
  | n + 1, l => match tW l with
    | none => none
    | some r => match pTake [40] r with
      | none => some r
      | some r1 => match tE n r1 with
        | none => none
        | some r2 => match tM (tE n) (r2.length + 1) r2 with
          | none => none
          | some r3 => pTake [41] r3
theorem tW_is {l r : List Nat} (h : tW l = some r) : ∃ w, wishOk w ∧ l = wishT w ++ r := by
  unfold tW at h
  cases e : pTake [111] l with
  | some r' =>
    simp only [e] at h
    cases h
    exact ⟨none, (fun c z => by cases z), pTake_is e⟩
  | none =>
    simp only [e] at h
    cases e2 : nE 0 l with
    | none => simp only [e2] at h; cases h
    | some x =>
      obtain ⟨c, r'⟩ := x
      simp only [e2] at h
      cases h
      obtain ⟨h1, h2, h3⟩ := nE_is e2
      exact ⟨some c, (fun c' z => by cases z; exact ⟨h3, h2⟩), h1⟩
theorem tM_is {f : List Nat → Option (List Nat)} (hf : ∀ l r, f l = some r → ∃ t : Tr, t.fit ∧ l = trT t ++ r) : ∀ k l r, tM f k l = some r → ∃ ts, Tr.fits ts ∧ l = (trTs ts).flatMap (fun m => [32] ++ m) ++ r := by
  intro k
  induction k with
  | zero => intro l r h; cases h
  | succ k ih =>
    intro l r h
    unfold tM at h
    cases e : pTake [32] l with
    | none =>
      simp only [e] at h
      cases h
      exact ⟨[], trivial, rfl⟩
    | some r0 =>
      simp only [e] at h
      cases e1 : f r0 with
      | none => simp only [e1] at h; cases h
      | some r1 =>
        simp only [e1] at h
        obtain ⟨t, t1, t2⟩ := hf _ _ e1
        obtain ⟨ts, s1, s2⟩ := ih _ _ h
        refine ⟨t :: ts, ⟨t1, s1⟩, ?_⟩
        rw [pTake_is e, t2, s2]
        simp [trTs]
theorem tE_is : ∀ n l r, tE n l = some r → ∃ t : Tr, t.fit ∧ l = trT t ++ r := by
  intro n
  induction n with
  | zero => intro l r h; cases h
  | succ n ih =>
    intro l r h
    unfold tE at h
    cases e : tW l with
    | none => simp only [e] at h; cases h
    | some r0 =>
      simp only [e] at h
      obtain ⟨w, w1, w2⟩ := tW_is e
      cases e1 : pTake [40] r0 with
      | none =>
        simp only [e1] at h
        cases h
        exact ⟨.nd 0 w [], ⟨w1, trivial⟩, by rw [w2]; simp [trT]⟩
      | some r1 =>
        simp only [e1] at h
        cases e2 : tE n r1 with
        | none => simp only [e2] at h; cases h
        | some r2 =>
          simp only [e2] at h
          cases e3 : tM (tE n) (r2.length + 1) r2 with
          | none => simp only [e3] at h; cases h
          | some r3 =>
            simp only [e3] at h
            obtain ⟨b, b1, b2⟩ := ih _ _ e2
            obtain ⟨bs, s1, s2⟩ := tM_is ih _ _ _ e3
            refine ⟨.nd 0 w (b :: bs), ⟨w1, b1, s1⟩, ?_⟩
            rw [trT_more, w2, pTake_is e1, b2, s2, pTake_is h]
            rfl
theorem tW_txt {w : Option Int} {r : List Nat} (h : wishOk w) (hr : ∀ c, r.head? = some c → isNS c = false) : tW (wishT w ++ r) = some r := by
  unfold tW
  cases w with
  | none => simp only [wishT, pTake_app]
  | some c =>
    obtain ⟨h0, hf⟩ := h c rfl
    obtain ⟨d, l, e, hd⟩ := codes_hd c
    have : pTake [111] (codes c ++ r) = none := by
      rw [e]
      have := Odd1.lt hd
      exact pTake_hd (by omega)
    simp only [wishT, this, nE_txt hf h0 hr]
theorem Bk.no40 {r : List Nat} (h : Bk r) : pTake [40] r = none := take40 fun z => by
  rcases h 40 z with y | y <;> exact absurd y (by decide)
theorem bk_more (ts : List Tr) (r : List Nat) : Bk ((trTs ts).flatMap (fun m => [32] ++ m) ++ (41 :: r)) := fun c hc => by
  cases ts with
  | nil => cases hc; exact .inr rfl
  | cons t ts => simp [trTs] at hc; exact .inl hc.symm
mutual
theorem tE_txt : ∀ (t : Tr) (n : Nat) (r : List Nat), t.fit → t.deep ≤ n → Bk r → tE n (trT t ++ r) = some r
  | .nd i w [], n, r, h, hd, hr => by
    obtain ⟨n, rfl⟩ : ∃ m, n = m + 1 := ⟨n - 1, by simp only [Tr.deep] at hd; omega⟩
    have e : trT (.nd i w []) ++ r = wishT w ++ r := by simp [trT]
    rw [e]
    simp only [tE, tW_txt h.1 hr.ns, hr.no40]
  | .nd i w (b :: bs), n, r, h, hd, hr => by
    obtain ⟨n, rfl⟩ : ∃ m, n = m + 1 := ⟨n - 1, by simp only [Tr.deep] at hd; omega⟩
    obtain ⟨h1, h2, h3⟩ := h
    have d1 : b.deep ≤ n := by simp only [Tr.deep, Tr.deeps] at hd; omega
    have d2 : Tr.deeps bs ≤ n := by simp only [Tr.deep, Tr.deeps] at hd; omega
    rw [trT_more]
    have hb := tE_txt b n _ h2 d1 (bk_more bs r)
    have hm := tM_txt bs n r (((trTs bs).flatMap (fun m => [32] ++ m) ++ (41 :: r)).length + 1) h3 d2 (by omega)
    have hw := tW_txt (r := 40 :: (trT b ++ ((trTs bs).flatMap (fun m => [32] ++ m) ++ (41 :: r)))) h1 (fun c hc => by cases hc; decide)
    simp only [tE, hw, pTake_one, hb, hm]
theorem tM_txt : ∀ (ts : List Tr) (n : Nat) (r : List Nat) (k : Nat), Tr.fits ts → Tr.deeps ts ≤ n → ((trTs ts).flatMap (fun m => [32] ++ m) ++ (41 :: r)).length < k → tM (tE n) k ((trTs ts).flatMap (fun m => [32] ++ m) ++ (41 :: r)) = some (41 :: r)
  | [], n, r, k, _, _, hk => by
    obtain ⟨k, rfl⟩ : ∃ m, k = m + 1 := ⟨k - 1, by omega⟩
    simp only [trTs, List.flatMap_nil, List.nil_append, tM, pTake_hd (show (32 : Nat) ≠ 41 by decide)]
  | t :: ts, n, r, k, h, hd, hk => by
    obtain ⟨k, rfl⟩ : ∃ m, k = m + 1 := ⟨k - 1, by omega⟩
    have e : (trTs (t :: ts)).flatMap (fun m => [32] ++ m) ++ (41 :: r) = 32 :: (trT t ++ ((trTs ts).flatMap (fun m => [32] ++ m) ++ (41 :: r))) := by
      simp [trTs]
    have d1 : t.deep ≤ n := by simp only [Tr.deeps] at hd; omega
    have d2 : Tr.deeps ts ≤ n := by simp only [Tr.deeps] at hd; omega
    rw [e] at hk ⊢
    have ht := tE_txt t n _ h.1 d1 (bk_more ts r)
    have hm := tM_txt ts n r k h.2 d2 (by simp only [List.length_cons, List.length_append] at hk ⊢; omega)
    simp only [tM, pTake_one, ht, hm]
end
theorem codes_cnt (z : Int) {c : Nat} (h : isNS c = false) : (codes z).count c = 0 :=
  List.count_eq_zero.mpr fun m => by
    have := codes_ns z c m
    rw [h] at this
    cases this
theorem frT_cnt (a b : Int) {c : Nat} (h : isNS c = false) (h2 : c ≠ 47) : (frT a b).count c = 0 := by
  unfold frT
  rw [List.count_append, codes_cnt a h]
  split
  · rfl
  · rw [List.count_cons_of_ne (fun z => h2 z.symm), codes_cnt b h]
theorem lfT_cnt (k : Lf) : (lfT k).count 40 = 0 ∧ (lfT k).count 32 ≤ 1 := by
  cases k with
  | hue c =>
    simp only [lfT]
    rw [List.count_append, List.count_append, codes_cnt c (by decide), codes_cnt c (by decide)]
    exact ⟨by decide, by decide⟩
  | _ => exact ⟨by decide, by decide⟩
theorem unT_cnt (k : Un) : (unT k).count 40 = 0 ∧ 1 ≤ (unT k).count 32 ∧ (unT k).count 32 ≤ 2 := by
  cases k with
  | many a b =>
    simp only [unT]
    rw [List.count_append, List.count_append, frT_cnt a b (by decide) (by decide), frT_cnt a b (by decide) (by decide)]
    exact ⟨by decide, by decide, by decide⟩
  | _ => exact ⟨by decide, by decide, by decide⟩
theorem biT_cnt (k : Bi) : (biT k).count 40 = 0 ∧ (biT k).count 32 = 2 := by
  cases k <;> exact ⟨by decide, by decide⟩
theorem teT_cnt : ∀ te : Te, dep te ≤ (teT te).count 32 + 1 ∧ 2 * (teT te).count 40 + 1 ≤ te.size ∧ (teT te).count 32 + 1 ≤ 2 * te.size
  | .lf k => by
    obtain ⟨h1, h2⟩ := lfT_cnt k
    simp only [teT, dep, Te.size]
    omega
  | .un k t => by
    obtain ⟨h1, h2, h3⟩ := unT_cnt k
    obtain ⟨g1, g2, g3⟩ := teT_cnt t
    simp only [teT, dep, Te.size, List.count_append]
    omega
  | .bi k t u => by
    obtain ⟨h1, h2⟩ := biT_cnt k
    obtain ⟨g1, g2, g3⟩ := teT_cnt t
    obtain ⟨f1, f2, f3⟩ := teT_cnt u
    have c1 : ([41] : List Nat).count 40 = 0 := by decide
    have c2 : ([41] : List Nat).count 32 = 0 := by decide
    simp only [teT, dep, Te.size, List.count_append, List.count_cons_self, List.count_cons_of_ne (show (40 : Nat) ≠ 32 by decide), c1, c2]
    omega
theorem wishT_cnt (w : Option Int) : (wishT w).count 40 = 0 ∧ (wishT w).count 32 = 0 := by
  cases w with
  | none => exact ⟨by decide, by decide⟩
  | some c => exact ⟨codes_cnt c (by decide), codes_cnt c (by decide)⟩
mutual
theorem trT_cnt : ∀ t : Tr, t.deep ≤ (trT t).count 40 + 1 ∧ (trT t).count 40 + (trT t).count 32 + 1 = t.knots
  | .nd i w [] => by
    obtain ⟨h1, h2⟩ := wishT_cnt w
    have e : trT (.nd i w []) = wishT w := by simp [trT]
    rw [e, h1, h2]
    simp [Tr.deep, Tr.deeps, Tr.knots, Tr.knotss]
  | .nd i w (b :: bs) => by
    obtain ⟨h1, h2⟩ := wishT_cnt w
    obtain ⟨g1, g2⟩ := trT_cnt b
    obtain ⟨f1, f2⟩ := trTs_cnt bs
    have e := trT_more w i b bs []
    rw [List.append_nil] at e
    have c1 : ([41] : List Nat).count 40 = 0 := by decide
    have c2 : ([41] : List Nat).count 32 = 0 := by decide
    rw [e]
    simp only [Tr.deep, Tr.deeps, Tr.knots, Tr.knotss, List.count_append, List.count_cons_self, List.count_cons_of_ne (show (40 : Nat) ≠ 32 by decide), c1, c2]
    omega
theorem trTs_cnt : ∀ ts : List Tr, Tr.deeps ts ≤ ((trTs ts).flatMap (fun m => [32] ++ m)).count 40 + 1 ∧ ((trTs ts).flatMap (fun m => [32] ++ m)).count 40 + ((trTs ts).flatMap (fun m => [32] ++ m)).count 32 = Tr.knotss ts
  | [] => ⟨by simp [Tr.deeps], rfl⟩
  | t :: ts => by
    obtain ⟨g1, g2⟩ := trT_cnt t
    obtain ⟨f1, f2⟩ := trTs_cnt ts
    have e : (trTs (t :: ts)).flatMap (fun m => [32] ++ m) = 32 :: (trT t ++ (trTs ts).flatMap (fun m => [32] ++ m)) := by simp [trTs]
    rw [e]
    simp only [Tr.deeps, Tr.knotss, List.count_append, List.count_cons_self, List.count_cons_of_ne (show (32 : Nat) ≠ 40 by decide)]
    omega
end
def Few (l : List Nat) : Prop := l.count 32 ≤ 17 ∧ l.count 40 ≤ 18
theorem term_yes {s : Bool} {l : List Nat} (f : Few l) (h : eT 40 s l = some []) : ∃ te : Te, te.ok s ∧ l = teT te ∧ dep te ≤ 20 ∧ pT 20 s l = some (te, []) := by
  obtain ⟨te, t1, t2⟩ := eT_is _ _ _ _ h
  rw [List.append_nil] at t2
  subst t2
  have d : dep te ≤ 20 := by
    have := (teT_cnt te).1
    have := f.1
    omega
  have g := pT_txt te s 20 [] t1 (fun c hc => by cases hc)
  rw [if_pos d, List.append_nil] at g
  exact ⟨te, t1, rfl, d, g⟩
theorem term_no {s : Bool} {l : List Nat} (h : eT 40 s l ≠ some []) (te : Te) : pT 20 s l ≠ some (te, []) := fun z => by
  obtain ⟨h1, h2, h3⟩ := pT_is _ _ _ _ _ z
  apply h
  rw [h1]
  exact eT_txt te s 40 [] h2 (by omega) (fun c hc => by cases hc)
theorem tree_yes {l : List Nat} (f : Few l) (h : tE 40 l = some []) : ∃ t : Tr, t.fit ∧ l = trT t ∧ t.deep ≤ 20 ∧ pTr 20 l = some (t.nrm, []) := by
  obtain ⟨t, t1, t2⟩ := tE_is _ _ _ h
  rw [List.append_nil] at t2
  subst t2
  have d : t.deep ≤ 20 := by
    have := (trT_cnt t).1
    have := f.2
    omega
  have g := pTr_txt t 20 [] t1 ⟨(fun c hc => by cases hc), by simp⟩
  rw [if_pos d, List.append_nil] at g
  exact ⟨t, t1, rfl, d, g⟩
theorem tree_no {l : List Nat} (h : tE 40 l ≠ some []) (t : Tr) : pTr 20 l ≠ some (t, []) := fun z => by
  obtain ⟨h1, h2, h3⟩ := pTr_is _ _ _ _ z
  apply h
  rw [h1]
  exact tE_txt t 40 [] h2 (by omega) (fun c hc => by cases hc)
end
section
open PySem.StrLaws PySem.Builtin.Str
theorem piece_free (x y : Str) (hy : 1 ≤ y.length) (a b : Nat) (hb : b ≤ x.length) (hn : ∀ k, a ≤ k → k < b → ¬At x y x.length k) (u v : List Nat) : (strSub x a b).cps.toList ≠ u ++ (y.cps.toList ++ v) := fun e => by
  rw [strSub_toList] at e
  have le := congrArg List.length e
  have ly : y.cps.toList.length = y.length := Array.length_toList
  have lx : x.cps.toList.length = x.length := Array.length_toList
  rw [List.length_take, List.length_drop, List.length_append, List.length_append, ly, lx] at le
  refine hn (a + u.length) (by omega) (by omega) ⟨by omega, ?_⟩
  rw [subAt_eq, beq_iff_eq, ← List.drop_drop]
  have e2 : x.cps.toList.drop a = u ++ (y.cps.toList ++ v) ++ (x.cps.toList.drop a).drop (b - a) := by rw [← e, List.take_append_drop]
  rw [e2, List.append_assoc, List.drop_left, List.append_assoc, ← ly, List.take_left]
theorem parts_freeN (x y : Str) (hy : 1 ≤ y.length) : ∀ (cuts : List Nat) (a f : Nat), ChainG x y x.length a cuts f → (∀ k, f ≤ k → ¬At x y x.length k) → ∀ p ∈ partsFrom x y.length a cuts, ∀ u v, p.cps.toList ≠ u ++ (y.cps.toList ++ v)
  | [], a, f, h, hn, p, hp => by
    have e : f = a := h
    subst e
    rw [List.mem_singleton.mp hp]
    exact piece_free x y hy f x.length (Nat.le_refl _) fun k h1 _ => hn k h1
  | d :: r, a, f, h, hn, p, hp => by
    rcases List.mem_cons.mp hp with rfl | hp'
    · exact piece_free x y hy a d (by have := h.2.1.1; omega) h.2.2.1
    · exact parts_freeN x y hy r _ f h.2.2.2 hn p hp'
theorem spl_free (t y : List Nat) (hy : y ≠ []) (h128 : ∀ c ∈ y, c < 256) : ∀ p ∈ splL t y, ∀ u v, p ≠ u ++ (y ++ v) := by
  have ly : 1 ≤ (Sg y).length := by rw [Sg.len]; exact List.length_pos_iff.mpr hy
  have ey : (Sg y).cps.toList = y := by simp [Sg]
  have ex : (Sg t).cps.toList = t := by simp [Sg]
  obtain ⟨f, hG, hn⟩ := occ_tight (Sg t) (Sg y) ly
  intro p hp u v
  obtain ⟨q, hq, rfl⟩ := List.mem_map.mp hp
  rw [← ey]
  unfold Txt.split at hq
  split at hq
  · rename_i hc
    rw [List.mem_singleton.mp hq]
    intro e
    rw [Bool.or_eq_true, decide_eq_true_eq, decide_eq_true_eq] at hc
    rcases hc with h | h
    · have le := congrArg List.length e
      rw [List.length_append, List.length_append, ey, ex] at le
      rw [Sg.len, Sg.len] at h
      omega
    · have k1 : Builtin.Str.strKind (Sg y) = 1 := if_pos (by simpa [Sg] using h128)
      rw [k1] at h
      unfold Builtin.Str.strKind at h
      split at h
      · omega
      · split at h <;> omega
  · split at hq
    · rename_i he
      rw [List.mem_singleton.mp hq]
      have e0 : occurrences (Sg t) (Sg y) 0 (Sg t).length ((Sg t).length + 1) = [] := List.isEmpty_iff.mp he
      rw [e0] at hG
      have ef : f = 0 := hG
      subst ef
      rw [← sub_whole (Sg t)]
      exact piece_free (Sg t) (Sg y) ly 0 (Sg t).length (Nat.le_refl _) (fun k h1 _ => hn k h1) u v
    · rw [partsBetween_eq] at hq
      exact parts_freeN (Sg t) (Sg y) ly _ 0 f hG hn q hq u v
theorem spl_ne (t y : List Nat) : splL t y ≠ [] := fun z => by
  have := split_pos (Sg t) (Sg y)
  have l := congrArg List.length z
  unfold splL at l
  rw [List.length_map, List.length_nil] at l
  omega
theorem glue_cons2 (sep : List Nat) (x y : List Nat) (r : List (List Nat)) : glueL sep (x :: y :: r) = x ++ (sep ++ glueL sep (y :: r)) := by
  simp [glueL]
theorem first_of {c : Nat} : ∀ {x y a b : List Nat}, c ∉ x → c ∉ y → x ++ c :: a = y ++ c :: b → x = y ∧ a = b
  | [], [], _, _, _, _, e => ⟨rfl, (List.cons.inj e).2⟩
  | [], z :: y, _, _, _, hy, e => absurd (by rw [(List.cons.inj e).1]; exact List.mem_cons_self) hy
  | z :: x, [], _, _, hx, _, e => absurd (by rw [← (List.cons.inj e).1]; exact List.mem_cons_self) hx
  | z :: x, z' :: y, a, b, hx, hy, e => by
    obtain ⟨e1, e2⟩ := List.cons.inj e
    subst e1
    obtain ⟨e3, e4⟩ := first_of (fun m => hx (List.mem_cons_of_mem _ m)) (fun m => hy (List.mem_cons_of_mem _ m)) e2
    exact ⟨by rw [e3], e4⟩
theorem glue_uniq {c : Nat} {sep : List Nat} (h2 : sep.head? ≠ some c) (hs : sep.length ≤ 1) : ∀ (P R : List (List Nat)), P ≠ [] → R ≠ [] → (∀ p ∈ P, ∀ u v, p ≠ u ++ (c :: sep ++ v)) → (∀ r ∈ R, c ∉ r) → glueL (c :: sep) P = glueL (c :: sep) R → P = R
  | [], _, h, _, _, _, _ => absurd rfl h
  | _, [], _, h, _, _, _ => absurd rfl h
  | [x], [y], _, _, _, _, e => by simpa [glueL] using e
  | [x], y :: y2 :: R, _, _, hP, _, e => by
    rw [glue_cons2] at e
    exact absurd (by simpa [glueL] using e) (hP x List.mem_cons_self y (glueL (c :: sep) (y2 :: R)))
  | x :: x2 :: P, [y], _, _, _, hR, e => by
    rw [glue_cons2] at e
    have : c ∈ y := by
      have e' : x ++ (c :: sep ++ glueL (c :: sep) (x2 :: P)) = y := by simpa [glueL] using e
      rw [← e']
      simp
    exact absurd this (hR y List.mem_cons_self)
  | x :: x2 :: P, y :: y2 :: R, _, _, hP, hR, e => by
    rw [glue_cons2, glue_cons2, List.cons_append, List.cons_append] at e
    have hy := hR y List.mem_cons_self
    have hx : c ∉ x := fun m => by
      obtain ⟨u, v, rfl, hu⟩ := List.eq_append_cons_of_mem m
      rw [List.append_assoc, List.cons_append] at e
      obtain ⟨e1, e2⟩ := first_of hu hy e
      cases v with
      | nil =>
        cases sep with
        | nil => exact hP (u ++ [c]) List.mem_cons_self u [] (by simp)
        | cons d sep =>
          have : c = d := by simpa using (List.cons.inj e2).1
          exact h2 (by rw [this]; rfl)
      | cons d v =>
        cases sep with
        | nil => exact hP (u ++ c :: d :: v) List.mem_cons_self u (d :: v) (by simp)
        | cons d2 sep2 =>
          have s2 : sep2 = [] := List.length_eq_zero_iff.mp (by rw [List.length_cons] at hs; omega)
          subst s2
          have : d = d2 := by simpa using (List.cons.inj e2).1
          subst this
          exact hP (u ++ c :: d :: v) List.mem_cons_self u v (by simp)
    obtain ⟨e1, e2⟩ := first_of hx hy e
    have ih := glue_uniq h2 hs (x2 :: P) (y2 :: R) (by simp) (by simp) (fun p hp => hP p (List.mem_cons_of_mem _ hp)) (fun r hr => hR r (List.mem_cons_of_mem _ hr)) (List.append_cancel_left e2)
    rw [e1, ih]
end
section
theorem spl_blank {t w : List Nat} (h : w ∈ splL t [32]) : 32 ∉ w := fun m => by
  obtain ⟨u, v, e⟩ := List.append_of_mem m
  exact spl_free t [32] (by simp) (by decide) w h u v e
theorem spl_glue {ws : List (List Nat)} (hn : ws ≠ []) (hs : ∀ v ∈ ws, 32 ∉ v) : splL (glueL [32] ws) [32] = ws := by
  refine glue_uniq (c := 32) (sep := []) (by simp) (by simp) _ _ (spl_ne _ _) hn (fun p hp u v => ?_) (fun r hr => hs r hr) (splL_glue _ _)
  exact spl_free _ [32] (by simp) (by decide) p hp u v
def cs (c : Nat) (xs : List (List Nat)) : Nat := (xs.map fun x => x.count c).sum
theorem cs_cons (c : Nat) (x : List Nat) (xs : List (List Nat)) : cs c (x :: xs) = x.count c + cs c xs := rfl
theorem glue_cnt {xs : List (List Nat)} (hn : xs ≠ []) : (glueL [32] xs).count 40 = cs 40 xs ∧ (glueL [32] xs).count 32 + 1 = cs 32 xs + xs.length := by
  have h : ∀ (xs : List (List Nat)), (xs.flatMap fun m => [32] ++ m).count 40 = cs 40 xs ∧ (xs.flatMap fun m => [32] ++ m).count 32 = cs 32 xs + xs.length := fun xs => by
    induction xs with
    | nil => exact ⟨rfl, rfl⟩
    | cons x xs ih =>
      obtain ⟨h1, h2⟩ := ih
      simp only [List.flatMap_cons, List.count_append, h1, h2, cs_cons, List.length_cons]
      have a : ([32] : List Nat).count 40 = 0 := by decide
      have b : ([32] : List Nat).count 32 = 1 := by decide
      rw [a, b]
      omega
  cases xs with
  | nil => exact absurd rfl hn
  | cons x xs =>
    obtain ⟨h1, h2⟩ := h xs
    show (x ++ xs.flatMap fun m => [32] ++ m).count 40 = _ ∧ (x ++ xs.flatMap fun m => [32] ++ m).count 32 + 1 = _
    rw [List.count_append, List.count_append, h1, h2, cs_cons, cs_cons, List.length_cons]
    omega
theorem cs_free {c : Nat} : ∀ {xs : List (List Nat)}, (∀ x ∈ xs, c ∉ x) → cs c xs = 0
  | [], _ => rfl
  | x :: xs, h => by
    rw [cs_cons, cs_free fun y hy => h y (List.mem_cons_of_mem _ hy), List.count_eq_zero.mpr (h x List.mem_cons_self)]
theorem cs_mem {c : Nat} {v : List Nat} : ∀ {xs : List (List Nat)}, v ∈ xs → v.count c ≤ cs c xs
  | x :: xs, h => by
    rw [cs_cons]
    rcases List.mem_cons.mp h with rfl | h
    · omega
    · have := cs_mem (c := c) h
      omega
theorem cs_set {c : Nat} {v : List Nat} : ∀ {xs : List (List Nat)} (g : Nat), cs c (xs.set g v) ≤ cs c xs + v.count c
  | [], _ => by simp [cs]
  | x :: xs, 0 => by rw [List.set_cons_zero, cs_cons, cs_cons]; omega
  | x :: xs, g + 1 => by
    rw [List.set_cons_succ, cs_cons, cs_cons]
    have := cs_set (c := c) (v := v) (xs := xs) g
    omega
inductive Bend : List Nat → List Nat → Prop
  | ins (t : List Nat) (k c : Nat) : Bend t (t.take k ++ [c] ++ t.drop k)
  | del (t : List Nat) (k : Nat) : Bend t (t.take k ++ t.drop (k + 1))
  | put (t : List Nat) (k c : Nat) : Bend t (t.take k ++ [c] ++ t.drop (k + 1))
  | wd (t : List Nat) (m g : Nat) (v : List Nat) : (splL t [32])[m]? = some v → Bend t (glueL [32] ((splL t [32]).set g v))
def S0 (l : List Nat) : Prop := l.count 32 ≤ 15 ∧ l.count 40 ≤ 7 ∧ (l.count 32 = 0 ∨ l.count 40 ≤ 6)
def S1 (l : List Nat) : Prop := l.count 32 ≤ 16 ∧ (l.count 40 ≤ 8 ∨ (l.count 40 ≤ 12 ∧ ∀ v ∈ splL l [32], v.count 40 ≤ 6))
theorem S0.few {l : List Nat} (h : S0 l) : Few l := ⟨by have := h.1; omega, by have := h.2.1; omega⟩
theorem S1.few {l : List Nat} (h : S1 l) : Few l := ⟨by have := h.1; omega, by rcases h.2 with h | h <;> omega⟩
theorem bend_cnt {t t' : List Nat} (B : Bend t t') : (t'.count 32 ≤ t.count 32 + 1 ∧ t'.count 40 ≤ t.count 40 + 1) ∨ ∃ (m g : Nat) (v : List Nat), (splL t [32])[m]? = some v ∧ t' = glueL [32] ((splL t [32]).set g v) := by
  have td : ∀ c k, (t.take k).count c + (t.drop k).count c = t.count c := fun c k => by
    rw [← List.count_append, List.take_append_drop]
  have td1 : ∀ c k, (t.drop (k + 1)).count c ≤ (t.drop k).count c := fun c k => by
    rw [← List.drop_drop]
    exact (List.drop_sublist 1 _).count_le c
  have one : ∀ c d : Nat, ([c] : List Nat).count d ≤ 1 := fun c d => List.count_le_length
  cases B with
  | ins k c =>
    refine .inl ?_
    simp only [List.count_append]
    have := td 32 k
    have := td 40 k
    have := one c 32
    have := one c 40
    omega
  | del k =>
    refine .inl ?_
    simp only [List.count_append]
    have := td 32 k
    have := td 40 k
    have := td1 32 k
    have := td1 40 k
    omega
  | put k c =>
    refine .inl ?_
    simp only [List.count_append]
    have := td 32 k
    have := td 40 k
    have := td1 32 k
    have := td1 40 k
    have := one c 32
    have := one c 40
    omega
  | wd m g v h => exact .inr ⟨m, g, v, h, rfl⟩
theorem wd_facts {t v : List Nat} {m g : Nat} (h : (splL t [32])[m]? = some v) : (glueL [32] ((splL t [32]).set g v)).count 32 = t.count 32 ∧ (glueL [32] ((splL t [32]).set g v)).count 40 ≤ t.count 40 + v.count 40 ∧ v.count 40 ≤ t.count 40 ∧ (t.count 32 = 0 → glueL [32] ((splL t [32]).set g v) = t) ∧ splL (glueL [32] ((splL t [32]).set g v)) [32] = (splL t [32]).set g v := by
  have hn := spl_ne t [32]
  have hg := splL_glue t [32]
  have hb : ∀ w ∈ splL t [32], 32 ∉ w := fun w hw => spl_blank hw
  generalize splL t [32] = ws at h hn hg hb
  have hv : v ∈ ws := List.mem_of_getElem? h
  have hn' : ws.set g v ≠ [] := fun z => hn (by
    have := congrArg List.length z
    rw [List.length_set] at this
    exact List.length_eq_zero_iff.mp this)
  have hb' : ∀ w ∈ ws.set g v, 32 ∉ w := fun w hw => by
    rcases List.mem_or_eq_of_mem_set hw with h | h
    · exact hb w h
    · rw [h]; exact hb v hv
  obtain ⟨a1, a2⟩ := glue_cnt hn
  obtain ⟨b1, b2⟩ := glue_cnt hn'
  rw [hg] at a1 a2
  rw [cs_free hb] at a2
  rw [cs_free hb', List.length_set] at b2
  have c1 := cs_mem (c := 40) hv
  have c2 := cs_set (c := 40) (v := v) (xs := ws) g
  refine ⟨by omega, by omega, by omega, fun z => ?_, spl_glue hn' hb'⟩
  have l1 : ws.length = 1 := by omega
  match ws, l1 with
  | [x], _ =>
    have : v = x := List.mem_singleton.mp hv
    subst this
    rw [← hg]
    cases g with
    | zero => rfl
    | succ g => rfl
theorem bend1 {t t' : List Nat} (B : Bend t t') (h : S0 t) : S1 t' := by
  obtain ⟨h1, h2, h3⟩ := h
  rcases bend_cnt B with ⟨b1, b2⟩ | ⟨m, g, v, hv, rfl⟩
  · exact ⟨by omega, .inl (by omega)⟩
  · obtain ⟨f1, f2, f3, f4, f5⟩ := wd_facts (g := g) hv
    refine ⟨by omega, ?_⟩
    rcases h3 with h3 | h3
    · rw [f4 h3]
      exact .inl (by omega)
    · refine .inr ⟨by omega, fun w hw => ?_⟩
      rw [f5] at hw
      have : ∀ w ∈ splL t [32], w.count 40 ≤ 6 := fun w hw => by
        obtain ⟨i, hi⟩ := List.mem_iff_getElem?.mp hw
        have := (wd_facts (g := 0) hi).2.2.1
        omega
      rcases List.mem_or_eq_of_mem_set hw with h | h
      · exact this w h
      · rw [h]
        omega
theorem bend2 {t t' : List Nat} (B : Bend t t') (h : S1 t) : Few t' := by
  obtain ⟨h1, h2⟩ := h
  rcases bend_cnt B with ⟨b1, b2⟩ | ⟨m, g, v, hv, rfl⟩
  · exact ⟨by omega, by rcases h2 with h2 | h2 <;> omega⟩
  · obtain ⟨f1, f2, f3, f4, f5⟩ := wd_facts (g := g) hv
    refine ⟨by omega, ?_⟩
    rcases h2 with h2 | ⟨h2, h3⟩
    · omega
    · have := h3 v (List.mem_of_getElem? hv)
      omega
end
section
variable {P : Program} {w : World} {K : PySem.W.Frag} {mg : Str → Option Value} {base : Heap}
abbrev nsS : Str := Str.ofString "-0123456789"
abbrev lowS : Str := Str.ofString "abcdefghijklmnopqrstuvwxyz"
def InS (g : Str) (f : Nat → Bool) : Prop := ∀ c : Nat, c < 128 → (!(Builtin.Str.occurrences g ⟨#[c]⟩ 0 g.length 1).isEmpty) = f c
theorem ns_in : InS nsS isNS := by unfold InS; decide +kernel
theorem low_in : InS lowS isLow := by unfold InS; decide +kernel
def spRun : Sp := fun vs H Q _ => ∃ (t : List Nat) (p : Nat) (g : Str) (f : Nat → Bool), vs = [.str (Sg t), .int (p : Int), .str g] ∧ InS g f ∧ p ≤ t.length ∧ t.length ≤ 90000 ∧ (∀ c ∈ t, c < 128) ∧ Q (.int ((p + ((t.drop p).takeWhile f).length : Nat) : Int)) H
abbrev nRun : List Str := ["_law_text_here", "_law_at", "_law_signs"]
theorem scRun : FnScope nRun nRun (defScope sRun) := ⟨rfl, rfl, rfl, by decide +kernel, rfl, by decide +kernel, by decide +kernel⟩
theorem ok_run {f : Addr} {fd : FuncData} (B : BltX mg) (F : Fun K "_law_run" "_law_run" sRun f fd) : FnOk P w K mg base CX0 1 f fd nRun spRun := by
  refine F.ok scRun (fun vs H Q E h => ?_) (fun cdv A outer s H vs Q E hr h => ?_)
  · obtain ⟨t, p, g, f, rfl, _⟩ := h
    rfl
  · obtain ⟨t, p, g, f, rfl, hg, hp, hz, hc, q⟩ := h
    have hs := (List.takeWhile_append_dropWhile (p := f) (l := t.drop p)).symm
    have hd : ∀ c ∈ (t.drop p).takeWhile f, f c = true := fun c h => List.all_eq_true.mp List.all_takeWhile c h
    have hl : ∀ c, ((t.drop p).dropWhile f).head? = some c → f c = false := fun c h => dw_head h
    generalize (t.drop p).takeWhile f = ds at *
    generalize (t.drop p).dropWhile f = tl at *
    have lt : t.length = p + ds.length + tl.length := by
      have := congrArg List.length hs
      rw [List.length_drop, List.length_append] at this
      omega
    have at_ : ∀ j c, (ds ++ tl)[j]? = some c → t[p + j]? = some c := fun j c h => by
      rw [← hs, List.getElem?_drop] at h
      exact h
    refine ⟨_, pss_cons (ps_while PassesOwn.never (PW.pt (pw_and (pt_cmpR op_lt (pv 1) (pe_callB call_len_str (by rfl) B.len PySem.boot_len (pa_cons (pv 0) pa_nil)) (nomark _)) (pw_and1 (pt_cmpR op_in_str (pe_ix ix_str (pv 0) (pv 1) (fun _ _ => rfl)) (pv 2) rfl))))
        (pss_one (ps_set (i := 1) scRun.nd rfl (Or.inl rfl) (pe_op op_add (pv 1) pe_int))))
      (pss_one (ps_ret (pv 1))), ?_⟩
    refine ⟨fun m σ H' => ∃ j, m = ds.length - j ∧ j ≤ ds.length ∧ σ = [some (.str (Sg t)), some (.int ((p + j : Nat) : Int)), some (.str g)] ∧ H' = H, ⟨_, 0, rfl, Nat.zero_le _, rfl, rfl⟩, ?_⟩
    rintro m σ H1 ⟨j, rfl, hj, rfl, rfl⟩
    refine ⟨_, rfl, _, rfl, Sg t, rfl, by rw [Sg.len]; exact sz100 (by omega), _, _, rfl, rfl, _, rfl, ?_⟩
    rw [Sg.len]
    by_cases hlt : p + j < t.length
    · refine itDP (by omega) ?_
      obtain ⟨c, hcj⟩ : ∃ c, (ds ++ tl)[j]? = some c := ⟨_, List.getElem?_eq_getElem (by rw [List.length_append]; omega)⟩
      have hc' := at_ j c hcj
      have c128 := hc c (List.mem_of_getElem? hc')
      have c60 : f c = true ↔ j < ds.length := by
        by_cases hjd : j < ds.length
        · rw [List.getElem?_append_left hjd] at hcj
          exact ⟨fun _ => hjd, fun _ => hd c (List.mem_of_getElem? hcj)⟩
        · rw [List.getElem?_append_right (by omega), show j - ds.length = 0 by omega, ← List.head?_eq_getElem?] at hcj
          have h2 := hl c hcj
          exact ⟨(fun z => by rw [h2] at z; cases z), fun z => absurd z hjd⟩
      refine ⟨_, rfl, _, rfl, Sg t, _, c, rfl, rfl, by rw [Sg.len]; exact sz100 (by omega), atI_nat (by simpa [Sg] using hc'), _, rfl, _, g, rfl, rfl, _, rfl, ?_⟩
      rw [hg c c128]
      cases hf : f c with
      | true =>
        have hjd := c60.mp hf
        refine iteT ⟨_, fun _ _ z => z, ?_⟩
        exact ⟨_, rfl, _, _, rfl, rfl, ds.length - (j + 1), by omega, j + 1, rfl, hjd, rfl, rfl⟩
      | false =>
        have hjd : j = ds.length := by
          have : ¬ j < ds.length := fun z => by rw [c60.mpr z] at hf; cases hf
          omega
        refine iteF ?_
        exact ⟨_, rfl, by rw [hjd]; exact q⟩
    · have hjd : j = ds.length := by omega
      refine itDN (by omega) (iteF ?_)
      exact ⟨_, rfl, by rw [hjd]; exact q⟩
theorem sign_in (l : List Nat) (c : Nat) : (!(Builtin.Str.occurrences (Sg l) ⟨#[c]⟩ 0 (Sg l).length 1).isEmpty) = decide (c ∈ l) := by
  rw [Bool.eq_iff_iff, StrLaws.found_iff, decide_eq_true_iff, List.mem_iff_getElem?]
  exact exists_congr fun i => (StrLaws.subAt_one _ _ _).trans (by simp [Sg])
def endI (t : List Nat) : Option (List Nat) → Int
  | none => -1
  | some r => ((t.length - r.length : Nat) : Int)
def nR (z0 : Int) (l : List Nat) : Option (List Nat) := match nE z0 l with
  | none => none
  | some (_, r) => some r
theorem end_dw {t : List Nat} {p : Nat} (h : p ≤ t.length) (f : Nat → Bool) : t.length - ((t.drop p).dropWhile f).length = p + ((t.drop p).takeWhile f).length := by
  have := congrArg List.length (List.takeWhile_append_dropWhile (p := f) (l := t.drop p))
  rw [List.length_append, List.length_drop] at this
  omega
theorem tw_take {l : List Nat} {f : Nat → Bool} : l.take (l.takeWhile f).length = l.takeWhile f := (congrArg (List.take _) (List.takeWhile_append_dropWhile (p := f) (l := l)).symm).trans List.take_left
def spNumE : Sp := fun vs H Q _ => ∃ (t : List Nat) (p : Nat) (z0 : Int), vs = [.str (Sg t), .int (p : Int), .int z0] ∧ p ≤ t.length ∧ t.length ≤ 90000 ∧ (∀ c ∈ t, c < 128) ∧ Q (.int (endI t (nR z0 (t.drop p)))) H
abbrev nNumE : List Str := ["_law_text_here", "_law_at", "_law_least", "_law_end_here", "_law_figures"]
abbrev aNumE : List Str := ["_law_text_here", "_law_at", "_law_least"]
theorem scNumE : FnScope nNumE aNumE (defScope sNumEnd) := ⟨rfl, rfl, rfl, by decide +kernel, rfl, by decide +kernel, by decide +kernel⟩
theorem ok_numE {f fR : Addr} {fd fdR : FuncData} (B : BltX mg) (F : Fun K "_law_number_end" "_law_number_end" sNumEnd f fd) (DR : Dn K mg "_law_run" sRun nRun fR fdR) (GR : FnOk P w K mg base CX0 1 fR fdR nRun spRun) : FnOk P w K mg base CX0 2 f fd aNumE spNumE := by
  refine F.ok scNumE (fun vs H Q E h => ?_) (fun cdv A outer s H vs Q E hr h => ?_)
  · obtain ⟨t, p, z0, rfl, _⟩ := h
    rfl
  · obtain ⟨t, p, z0, rfl, hp, hz, hc, q⟩ := h
    have r1 := hr.mono (j := 1) (by decide)
    refine ⟨_, @QSs.o _ _ _ (w_cons (w_set 3 scNumE.nd rfl (Or.inl rfl) (v_fn DR GR r1 rfl (qa_cons ⟨pv 0⟩ (qa_cons ⟨pv 1⟩ (qa_cons ⟨pe_str⟩ qa_nil)))))
      (w_cons (w_set 4 scNumE.nd rfl (Or.inl rfl) (v_slice sl_cut ⟨pv 0⟩ (o_some ⟨pv 1⟩) (o_some ⟨pv 3⟩)))
      (w_mid (w_if (t_cmp op_eq (v_slice sl_head ⟨pv 4⟩ o_none (o_some ⟨pe_int⟩)) ⟨pe_str⟩ (nomark _)) (w_one (w_set 4 scNumE.nd rfl (Or.inl rfl) (v_slice sl_tail ⟨pv 4⟩ (o_some ⟨pe_int⟩) o_none))) w_nil)
      (w_cons (w_if ⟨PW.pt (pw_or (pt_cmpR op_eq (pv 4) pe_str (nomark _)) (pw_or (pt_cmpR op_gt (pe_callB call_len_str (by rfl) B.len PySem.boot_len (pa_cons (pv 4) pa_nil)) pe_int (nomark _)) (pw_or1 (pt_cmpR op_in_str pe_str (pv 4) rfl))))⟩ (w_one (w_ret ⟨pe_un un_neg pe_int⟩)) w_nil)
      (w_cons (w_if ⟨PW.pt (pw_and (pt_cmpR op_eq (pe_ix ix_str (pv 4) pe_int (fun _ _ => rfl)) pe_str (nomark _)) (pw_and1 (pt_cmpR op_ne (pe_slice sl_cut (pv 0) (po_some (pv 1)) (po_some (pv 3))) pe_str (nomark _))))⟩ (w_one (w_ret ⟨pe_un un_neg pe_int⟩)) w_nil)
      (w_cons (w_if (t_cmp op_lt (v_callTy call_int_text (by rfl) B.int boot_int (qa_cons (v_slice sl_cut ⟨pv 0⟩ (o_some ⟨pv 1⟩) (o_some ⟨pv 3⟩)) qa_nil)) ⟨pv 2⟩ (nomark _)) (w_one (w_ret ⟨pe_un un_neg pe_int⟩)) w_nil)
      (w_one (w_ret ⟨pv 3⟩)))))))), ?_⟩
    have szt : t.length ≤ sizeLine := sz100 (by omega)
    refine ⟨_, rfl, _, rfl, t, p, nsS, isNS, rfl, ns_in, hp, hz, hc, ?_⟩
    have ew : (t.drop p).take (p + ((t.drop p).takeWhile isNS).length - p) = (t.drop p).takeWhile isNS := by rw [Nat.add_sub_cancel_left, tw_take]
    have er := end_dw hp isNS
    have hns : ∀ c ∈ (t.drop p).takeWhile isNS, isNS c = true := fun c h => List.all_eq_true.mp List.all_takeWhile c h
    have wl : ((t.drop p).takeWhile isNS).length ≤ t.length := by
      have := List.Sublist.length_le (List.takeWhile_sublist (l := t.drop p) isNS)
      rw [List.length_drop] at this
      omega
    unfold nR nE at q
    generalize (t.drop p).dropWhile isNS = r at q er
    generalize (t.drop p).takeWhile isNS = wd at q er ew hns wl
    refine ⟨_, rfl, _, rfl, _, rfl, _, rfl, _, rfl, t, p, p + wd.length, rfl, rfl, rfl, by omega, szt, ?_⟩
    rw [ew]
    have wsz : wd.length ≤ sizeLine := Nat.le_trans wl szt
    refine ⟨fun σ H' => σ = [some (.str (Sg t)), some (.int (p : Int)), some (.int z0), some (.int ((p + wd.length : Nat) : Int)), some (.str (Sg (figW wd)))] ∧ H' = H, ?_, ?_⟩
    · refine ⟨_, rfl, _, rfl, wd, 1, rfl, rfl, rfl, wsz, rfl, _, rfl, ?_⟩
      have em : Str.ofString "-" = Sg [45] := by decide +kernel
      by_cases hm : wd.take 1 = [45]
      · refine itDP (by rw [em, hm]) ?_
        refine ⟨_, rfl, _, rfl, wd, 1, rfl, rfl, rfl, wsz, ?_, rfl⟩
        have : figW wd = wd.drop 1 := if_pos hm
        rw [this]
        rfl
      · refine itDN (fun z => hm ?_) ?_
        · rw [em] at z
          exact Sg.inj (V.str.inj z)
        · have : figW wd = wd := if_neg hm
          exact ⟨by rw [this]; rfl, rfl⟩
    · rintro σ H' ⟨rfl, rfl⟩
      have lf : (figW wd).length ≤ wd.length := by
        unfold figW
        split
        · rw [List.length_drop]; omega
        · exact Nat.le_refl _
      have nf : ∀ c ∈ figW wd, isNS c = true := fun c hc' => hns c (by
        unfold figW at hc'
        split at hc'
        · exact List.mem_of_mem_drop hc'
        · exact hc')
      have mf : (figW wd).all isFig = true ↔ 45 ∉ figW wd := by
        rw [List.all_eq_true]
        constructor
        · intro h m
          exact absurd (h 45 m) (by decide)
        · intro h c hc'
          have := nf c hc'
          unfold isNS at this
          rw [Bool.or_eq_true] at this
          rcases this with z | z
          · rw [beq_iff_eq] at z
            rw [z] at hc'
            exact absurd hc' h
          · exact z
      have none_ : (figW wd = [] ∨ 60 < (figW wd).length ∨ ((figW wd).head? = some 48 ∧ wd ≠ [48])) ∨ 45 ∈ figW wd → Q (.int (-1)) H' := fun h => by
        have e : numO wd = none := by
          unfold numO
          by_cases h1 : figW wd = [] ∨ 60 < (figW wd).length ∨ ((figW wd).head? = some 48 ∧ wd ≠ [48])
          · rw [if_pos h1]
          · rw [if_neg h1, if_neg (fun z => mf.mp z (h.resolve_left h1))]
        rw [e] at q
        exact q
      by_cases n1 : figW wd = []
      · exact ⟨_, rfl, rfl, _, rfl, itDP (by rw [n1]; exact (lit_any "").symm) ⟨_, rfl, none_ (.inl (.inl n1))⟩⟩
      refine ⟨_, rfl, rfl, _, rfl, itDN (fun z => n1 (Sg.inj (b := []) (V.str.inj z))) ?_⟩
      refine ⟨_, rfl, Sg (figW wd), rfl, by rw [Sg.len]; omega, _, _, rfl, rfl, _, rfl, ?_⟩
      rw [Sg.len]
      by_cases n2 : 60 < (figW wd).length
      · exact itDP (by omega) ⟨_, rfl, none_ (.inl (.inr (.inl n2)))⟩
      refine itDN (by omega) ?_
      have em : Str.ofString "-" = ⟨#[45]⟩ := by decide +kernel
      refine ⟨_, rfl, Str.ofString "-", Sg (figW wd), rfl, rfl, _, rfl, ?_⟩
      rw [em, sign_in]
      by_cases n3 : 45 ∈ figW wd
      · exact itDP n3 ⟨_, rfl, none_ (.inr n3)⟩
      refine itDN n3 ?_
      obtain ⟨c, r', hcr⟩ : ∃ c r, figW wd = c :: r := by
        cases hd : figW wd with
        | nil => exact absurd hd n1
        | cons c r => exact ⟨c, r, rfl⟩
      refine ⟨_, rfl, Sg (figW wd), 0, c, rfl, rfl, by rw [Sg.len]; omega, (by rw [hcr]; exact atI_nat (j := 0) (by simp [Sg])), rfl, _, rfl, ?_⟩
      have e0 : Str.ofString "0" = Sg [48] := by decide +kernel
      have is0 : V.str (⟨#[c]⟩ : Str) = V.str (Str.ofString "0") ↔ c = 48 := by
        rw [e0]
        constructor
        · intro z
          have := Sg.inj (a := [c]) (b := [48]) (V.str.inj z)
          exact (List.cons.inj this).1
        · rintro rfl
          rfl
      by_cases bad : c = 48 ∧ wd ≠ [48]
      · refine itDP (is0.mpr bad.1) ?_
        refine ⟨_, rfl, _, rfl, _, rfl, _, rfl, _, rfl, t, p, p + wd.length, rfl, rfl, rfl, by omega, szt, ?_⟩
        rw [ew]
        refine ⟨rfl, _, rfl, iteNP (fun z => bad.2 ?_) ⟨_, rfl, none_ (.inl (.inr (.inr ⟨by rw [hcr, bad.1]; rfl, bad.2⟩)))⟩⟩
        rw [e0] at z
        exact Sg.inj (V.str.inj z)
      have nn : ¬(figW wd = [] ∨ 60 < (figW wd).length ∨ ((figW wd).head? = some 48 ∧ wd ≠ [48])) := by
        rintro (z | z | ⟨z1, z2⟩)
        · exact n1 z
        · exact n2 z
        · rw [hcr] at z1
          exact bad ⟨Option.some.inj z1, z2⟩
      have ha := mf.mpr n3
      obtain ⟨z, hz', lz⟩ : ∃ z, PySem.intText? (Sg wd) = some z ∧ wd.length ≤ 61 := by
        have hf : ∀ c ∈ figW wd, isFig c = true := fun c hc' => List.all_eq_true.mp ha c hc'
        by_cases hm : wd.take 1 = [45]
        · have ew : figW wd = wd.drop 1 := if_pos hm
          have ed : wd = 45 :: figW wd := by
            conv => lhs; rw [← List.take_append_drop 1 wd]
            rw [hm, ew]
            rfl
          refine ⟨-valF (figW wd), ?_, by rw [ed, List.length_cons]; omega⟩
          conv => lhs; rw [ed]
          exact neg_text hf n1 (by omega)
        · have ew : figW wd = wd := if_neg hm
          rw [ew] at hf n1 n2
          exact ⟨valF wd, val_text hf n1 (by omega), by omega⟩
      have en : numO wd = some z := by
        unfold numO
        rw [if_neg nn, if_pos ha, hz']
      rw [en] at q
      have q' : Q (.int (endI t (match (if z < z0 then none else some (z, r)) with | none => none | some (_, r) => some r))) H' := q
      clear q
      rcases Decidable.em (c = 48) with hc0 | hc0
      case' inl =>
        refine itDP (is0.mpr hc0) ?_
        refine ⟨_, rfl, _, rfl, _, rfl, _, rfl, _, rfl, t, p, p + wd.length, rfl, rfl, rfl, by omega, szt, ?_⟩
        rw [ew]
        refine ⟨rfl, _, rfl, iteNS (by rw [e0, Decidable.not_not.mp fun z => bad ⟨hc0, z⟩]) ?_⟩
      case' inr => refine itDN (fun z => hc0 (is0.mp z)) (iteF ?_)
      all_goals
        refine ⟨_, rfl, _, rfl, _, rfl, _, rfl, _, rfl, t, p, p + wd.length, rfl, rfl, rfl, by omega, szt, ?_⟩
        rw [ew]
        refine ⟨Sg wd, z, rfl, hz', by rw [Sg.len]; omega, ?_⟩
        refine ⟨_, rfl, _, _, rfl, rfl, _, rfl, ite2 (fun y => ?_) (fun y => ?_)⟩
        · rw [decide_eq_true_iff] at y
          rw [if_pos y] at q'
          exact ⟨_, rfl, q'⟩
        · rw [decide_eq_true_iff] at y
          rw [if_neg y] at q'
          refine ⟨_, rfl, ?_⟩
          rw [← er]
          exact q'
end
section
variable {P : Program} {w : World} {K : PySem.W.Frag} {mg : Str → Option Value} {base : Heap}
def Suf (t r : List Nat) : Prop := ∃ u, t = u ++ r
theorem Suf.drop {t r : List Nat} (h : Suf t r) : t.drop (t.length - r.length) = r := by
  obtain ⟨u, rfl⟩ := h
  rw [List.length_append, Nat.add_sub_cancel, List.drop_left]
theorem Suf.le {t r : List Nat} (h : Suf t r) : r.length ≤ t.length := by
  obtain ⟨u, rfl⟩ := h
  rw [List.length_append]
  omega
theorem suf_drop (t : List Nat) (p : Nat) : Suf t (t.drop p) := ⟨t.take p, (List.take_append_drop p t).symm⟩
theorem Suf.app {t u r : List Nat} (h : Suf t (u ++ r)) : Suf t r := by
  obtain ⟨v, rfl⟩ := h
  exact ⟨v ++ u, by rw [List.append_assoc]⟩
theorem codes_text {z : Int} (h : Fit z) : PySem.intText? (Sg (codes z)) = some z ∧ (codes z).length ≤ 61 := by
  have g := (num_law (numP_codes (r := []) h (fun c hc => by cases hc))).1
  rw [List.append_nil, List.take_length] at g
  refine ⟨?_, codes_len h⟩
  unfold numO at g
  split at g
  · cases g
  · split at g
    · exact g
    · cases g
theorem codes_pos (z : Int) : 0 < (codes z).length := List.length_pos_iff.mpr (codes_ne z)
theorem nR_some {z0 z : Int} {l r : List Nat} (h : nE z0 l = some (z, r)) : nR z0 l = some r := by unfold nR; rw [h]
theorem nR_none {z0 : Int} {l : List Nat} (h : nE z0 l = none) : nR z0 l = none := by unfold nR; rw [h]
theorem take_is {y r : List Nat} : r.take y.length = y ↔ pTake y r = some (r.drop y.length) := by
  unfold pTake
  by_cases h : y.isPrefixOf r = true
  · rw [if_pos h]
    have := List.prefix_iff_eq_take.mp (List.isPrefixOf_iff_prefix.mp h)
    exact ⟨fun _ => rfl, fun _ => this.symm⟩
  · rw [if_neg h]
    refine ⟨fun z => absurd (List.isPrefixOf_iff_prefix.mpr ?_) h, fun z => by cases z⟩
    rw [← z]
    exact List.take_prefix _ _
theorem take_no {y r : List Nat} (h : r.take y.length ≠ y) : pTake y r = none := by
  unfold pTake
  rw [if_neg fun z => h (List.prefix_iff_eq_take.mp (List.isPrefixOf_iff_prefix.mp z)).symm]
def spPartE : Sp := fun vs H Q _ => ∃ (t : List Nat) (p : Nat), vs = [.str (Sg t), .int (p : Int)] ∧ p ≤ t.length ∧ t.length ≤ 90000 ∧ (∀ c ∈ t, c < 128) ∧ Q (.int (endI t (fE (t.drop p)))) H
abbrev nPartE : List Str := ["_law_text_here", "_law_at", "_law_end_here", "_law_last"]
abbrev aPartE : List Str := ["_law_text_here", "_law_at"]
theorem scPartE : FnScope nPartE aPartE (defScope sPartEnd) := ⟨rfl, rfl, rfl, by decide +kernel, rfl, by decide +kernel, by decide +kernel⟩
theorem ok_partE {f fN fD : Addr} {fd fdN fdD : FuncData} (B : BltX mg) (F : Fun K "_law_part_end" "_law_part_end" sPartEnd f fd) (DN : Dn K mg "_law_number_end" sNumEnd aNumE fN fdN) (GN : FnOk P w K mg base CX0 2 fN fdN aNumE spNumE)
    (DD : Dn K mg "_law_divisor" sDiv ["_law_one", "_law_other"] fD fdD) (GD : FnOk P w K mg base CX0 1 fD fdD ["_law_one", "_law_other"] spG) : FnOk P w K mg base CX0 3 f fd aPartE spPartE := by
  refine F.ok scPartE (fun vs H Q E h => ?_) (fun cdv A outer s H vs Q E hr h => ?_)
  · obtain ⟨t, p, rfl, _⟩ := h
    rfl
  · obtain ⟨t, p, rfl, hp, hz, hc, q⟩ := h
    have r2 := hr.mono (j := 2) (by decide)
    have r1 := hr.mono (j := 1) (by decide)
    refine ⟨_, @QSs.o _ _ _ (w_cons (w_set 2 scPartE.nd rfl (Or.inl rfl) (v_fn DN GN r2 rfl (qa_cons ⟨pv 0⟩ (qa_cons ⟨pv 1⟩ (qa_cons ⟨pe_un un_neg (pe_op op_pow pe_int pe_int)⟩ qa_nil)))))
      (w_mid (w_if ⟨PW.pt (pw_and (pt_cmpR op_gt (pv 2) pe_int (nomark _)) (pw_and1 (pt_cmpR op_eq (pe_slice sl_cut (pv 0) (po_some (pv 2)) (po_some (pe_op op_add (pv 2) pe_int))) pe_str (nomark _))))⟩
        (w_cons (w_set 3 scPartE.nd rfl (Or.inl rfl) (v_fn DN GN r2 rfl (qa_cons ⟨pv 0⟩ (qa_cons ⟨pe_op op_add (pv 2) pe_int⟩ (qa_cons ⟨pe_int⟩ qa_nil)))))
        (w_cons (w_if (t_cmp op_lt ⟨pv 3⟩ ⟨pe_int⟩ (nomark _)) (w_one (w_ret ⟨pe_un un_neg pe_int⟩)) w_nil)
        (w_cons (w_if (t_cmp op_ne (v_fn DD GD r1 rfl (qa_cons (v_callTy call_int_text (by rfl) B.int boot_int (qa_cons (v_slice sl_cut ⟨pv 0⟩ (o_some ⟨pv 1⟩) (o_some ⟨pv 2⟩)) qa_nil)) (qa_cons (v_callTy call_int_text (by rfl) B.int boot_int (qa_cons (v_slice sl_cut ⟨pv 0⟩ (o_some ⟨pe_op op_add (pv 2) pe_int⟩) (o_some ⟨pv 3⟩)) qa_nil)) qa_nil))) ⟨pe_int⟩ (nomark _)) (w_one (w_ret ⟨pe_un un_neg pe_int⟩)) w_nil)
        (w_one (w_set 2 scPartE.nd rfl (Or.inl rfl) ⟨pv 3⟩))))) w_nil)
      (w_cons (w_if ⟨PW.pt (pw_or (pt_cmpR op_lt (pv 2) pe_int (nomark _)) (pw_or1 (pt_cmpR op_ne (pe_slice sl_cut (pv 0) (po_some (pv 2)) (po_some (pe_op op_add (pv 2) pe_int))) pe_str (nomark _))))⟩ (w_one (w_ret ⟨pe_un un_neg pe_int⟩)) w_nil)
      (w_one (w_ret ⟨pe_op op_add (pv 2) pe_int⟩))))), ?_⟩
    have szt : t.length ≤ sizeLine := sz100 (by omega)
    have e10 : -((10 : Int) ^ (60 : Int).toNat) = -(10 ^ 60) := rfl
    refine ⟨_, rfl, _, rfl, _, _, rfl, rfl, pow60, _, rfl, t, p, _, rfl, hp, hz, hc, ?_⟩
    rw [e10]
    refine ⟨fun σ H' => H' = H ∧ ∃ (e : Int) (o : Option V), σ = [some (.str (Sg t)), some (.int (p : Int)), some (.int e), o] ∧ ((e = -1 ∧ fE (t.drop p) = none) ∨ ∃ r, e = ((t.length - r.length : Nat) : Int) ∧ Suf t r ∧ fE (t.drop p) = pTake [32, 111, 102, 32] r), ?_, ?_⟩
    · cases e1 : nE (-(10 ^ 60)) (t.drop p) with
      | none =>
        rw [nR_none e1]
        refine ⟨_, rfl, _, _, rfl, rfl, _, rfl, itDN (show ¬ ((0 : Int) < -1) by decide) (iteF ⟨rfl, -1, none, rfl, .inl ⟨rfl, ?_⟩⟩)⟩
        unfold fE
        rw [e1]
      | some x =>
        obtain ⟨a, r⟩ := x
        rw [nR_some e1]
        obtain ⟨a1, a2, a3⟩ := nE_is e1
        have sr : Suf t r := (a1 ▸ suf_drop t p : Suf t (codes a ++ r)).app
        have lp := congrArg List.length a1
        rw [List.length_drop, List.length_append] at lp
        have ca := codes_pos a
        have dr := sr.drop
        refine ⟨_, rfl, _, _, rfl, rfl, _, rfl, itDP (show (0 : Int) < ((t.length - r.length : Nat) : Int) by omega) ?_⟩
        refine ⟨_, rfl, _, rfl, _, rfl, _, rfl, _, _, rfl, rfl, _, rfl, t, t.length - r.length, t.length - r.length + 1, rfl, rfl, rfl, by omega, szt, rfl, _, rfl, ?_⟩
        rw [dr, Nat.add_sub_cancel_left]
        have e47 : Str.ofString "/" = Sg [47] := by decide +kernel
        by_cases h47 : r.take 1 = [47]
        · refine itDP (by rw [e47, h47]) ?_
          have p47 : pTake [47] r = some (r.drop 1) := take_is.mp h47
          have er1 := pTake_is p47
          have sr1 : Suf t (r.drop 1) := (er1 ▸ sr : Suf t ([47] ++ r.drop 1)).app
          have lr1 : 1 ≤ r.length := by
            have := congrArg List.length er1
            rw [List.length_append] at this
            simp at this
            omega
          have d1 : t.drop (t.length - r.length + 1) = r.drop 1 := by rw [← List.drop_drop, dr]
          refine ⟨_, rfl, _, rfl, _, _, rfl, rfl, t, t.length - r.length + 1, 2, rfl, by omega, hz, hc, ?_⟩
          rw [d1]
          cases e2 : nE 2 (r.drop 1) with
          | none =>
            rw [nR_none e2]
            refine ⟨_, rfl, _, _, rfl, rfl, _, rfl, itDP (show (-1 : Int) < 0 by decide) ⟨_, rfl, ?_⟩⟩
            have : fE (t.drop p) = none := by unfold fE; simp only [e1, p47, e2]
            rw [this] at q
            exact q
          | some y =>
            obtain ⟨b, r2⟩ := y
            rw [nR_some e2]
            obtain ⟨b1, b2, b3⟩ := nE_is e2
            have sr2 : Suf t r2 := (b1 ▸ sr1 : Suf t (codes b ++ r2)).app
            have lb := congrArg List.length b1
            rw [List.length_drop, List.length_append] at lb
            refine ⟨_, rfl, _, _, rfl, rfl, _, rfl, itDN (show ¬ ((t.length - r2.length : Nat) : Int) < 0 by omega) ?_⟩
            refine ⟨_, rfl, _, rfl, _, rfl, _, rfl, _, rfl, t, p, t.length - r.length, rfl, rfl, rfl, by omega, szt, ?_⟩
            have c1 : (t.drop p).take (t.length - r.length - p) = codes a := by
              rw [a1, show t.length - r.length - p = (codes a).length by omega, List.take_left]
            rw [c1]
            refine ⟨Sg (codes a), a, rfl, (codes_text a2).1, by rw [Sg.len]; have := codes_len a2; omega, ?_⟩
            refine ⟨_, rfl, _, rfl, _, _, rfl, rfl, _, rfl, _, rfl, _, rfl, t, t.length - r.length + 1, t.length - r2.length, rfl, rfl, rfl, by omega, szt, ?_⟩
            have c2 : (t.drop (t.length - r.length + 1)).take (t.length - r2.length - (t.length - r.length + 1)) = codes b := by
              rw [d1, b1, show t.length - r2.length - (t.length - r.length + 1) = (codes b).length by omega, List.take_left]
            rw [c2]
            refine ⟨Sg (codes b), b, rfl, (codes_text b2).1, by rw [Sg.len]; have := codes_len b2; omega, a, b, rfl, rfl, _, rfl, ?_⟩
            have fe : fE (t.drop p) = if M11.G a b = 1 then pTake [32, 111, 102, 32] r2 else none := by unfold fE; simp only [e1, p47, e2]
            by_cases hg : M11.G a b = 1
            · refine iteNS (by rw [hg]) ?_
              rw [if_pos hg] at fe
              exact ⟨_, rfl, rfl, _, _, rfl, .inr ⟨r2, rfl, sr2, fe⟩⟩
            · refine iteNP (fun z => hg (V.int.inj z)) ⟨_, rfl, ?_⟩
              rw [if_neg hg] at fe
              rw [fe] at q
              exact q
        · refine itDN (fun z => h47 (Sg.inj (by rw [← e47]; exact V.str.inj z))) ⟨rfl, _, none, rfl, .inr ⟨r, rfl, sr, ?_⟩⟩
          unfold fE
          simp only [e1, take_no (y := [47]) h47]
    · rintro σ H' ⟨rfl, e, o, rfl, h⟩
      rcases h with ⟨rfl, he⟩ | ⟨r, rfl, sr, he⟩
      · rw [he] at q
        exact ⟨_, rfl, _, _, rfl, rfl, _, rfl, itDP (by decide) ⟨_, rfl, q⟩⟩
      · refine ⟨_, rfl, _, _, rfl, rfl, _, rfl, itDN (by omega) ?_⟩
        refine ⟨_, rfl, _, rfl, _, rfl, _, rfl, _, _, rfl, rfl, _, rfl, t, t.length - r.length, t.length - r.length + 4, rfl, rfl, rfl, by omega, szt, rfl, _, rfl, ?_⟩
        rw [sr.drop, Nat.add_sub_cancel_left]
        have eo : Str.ofString " of " = Sg [32, 111, 102, 32] := by decide +kernel
        rw [he] at q
        by_cases ho : r.take 4 = [32, 111, 102, 32]
        · refine iteNS (by rw [eo, ho]) ?_
          have po : pTake [32, 111, 102, 32] r = some (r.drop 4) := take_is.mp ho
          rw [po] at q
          have l4 := pTake_len po
          have := sr.le
          refine ⟨_, rfl, _, _, rfl, rfl, ?_⟩
          have : endI t (some (r.drop 4)) = ((t.length - r.length : Nat) : Int) + 4 := by
            show ((t.length - (r.drop 4).length : Nat) : Int) = _
            simp at l4 ⊢
            omega
          rw [this] at q
          exact q
        · refine iteNP (fun z => ho (Sg.inj (by rw [← eo]; exact V.str.inj z))) ⟨_, rfl, ?_⟩
          rw [take_no (y := [32, 111, 102, 32]) ho] at q
          exact q
end
section
variable {P : Program} {w : World} {K : PySem.W.Frag} {mg : Str → Option Value} {base : Heap}
open TM
def mu (l : List Nat) : Nat := l.count 40 + l.count 32
theorem mu_app (a b : List Nat) : mu (a ++ b) = mu a + mu b := by
  unfold mu
  rw [List.count_append, List.count_append]
  omega
def spEnd (n : Nat) : Sp := fun vs H Q _ => ∃ (t : List Nat) (p : Nat) (fl : Bool), vs = [.str (Sg t), .int (p : Int), .bl fl] ∧ p ≤ t.length ∧ t.length ≤ 90000 ∧ (∀ c ∈ t, c < 128) ∧ mu (t.drop p) < n ∧ ∀ H', Same H H' → Q (.int (endI t (eT n (!fl) (t.drop p)))) H'
def spTwo (n : Nat) : Sp := fun vs H Q _ => ∃ (t : List Nat) (p : Nat) (fl : Bool), vs = [.str (Sg t), .int (p : Int), .bl fl] ∧ p ≤ t.length ∧ t.length ≤ 90000 ∧ (∀ c ∈ t, c < 128) ∧ mu (t.drop p) < n ∧ ∀ H', Same H H' → Q (.int (endI t (e2 (eT n (!fl)) (!fl) (t.drop p)))) H'
abbrev aEnd : List Str := ["_law_text_here", "_law_at", "_law_rows"]
abbrev nTwoE : List Str := ["_law_text_here", "_law_at", "_law_rows", "_law_end_here", "_law_marks", "_law_mark", "_law_last"]
theorem scTwoE : FnScope nTwoE aEnd (defScope sTwoEnd) := ⟨rfl, rfl, rfl, by decide +kernel, rfl, by decide +kernel, by decide +kernel⟩
theorem marks_t : [V.str (Str.ofString " then "), .str (Str.ofString " meet "), .str (Str.ofString " + ")] = (twos true).map fun k => V.str (Sg (biT k)) := by
  have h1 : Str.ofString " then " = Sg (biT .thn) := by decide +kernel
  have h2 : Str.ofString " meet " = Sg (biT .meet) := by decide +kernel
  have h3 : Str.ofString " + " = Sg (biT .plus) := by decide +kernel
  rw [h1, h2, h3]
  rfl
theorem marks_r : [V.str (Str.ofString " * "), .str (Str.ofString " + ")] = (twos false).map fun k => V.str (Sg (biT k)) := by
  have h1 : Str.ofString " * " = Sg (biT .both) := by decide +kernel
  have h3 : Str.ofString " + " = Sg (biT .plus) := by decide +kernel
  rw [h1, h3]
  rfl
theorem ok_two {f fE : Addr} {fd fdE : FuncData} {n k : Nat} (B : BltX mg) (F : Fun K "_law_two_end" "_law_two_end" sTwoEnd f fd) (DE : Dn K mg "_law_end" sEndT aEnd fE fdE) (GE : FnOk P w K mg base CX0 k fE fdE aEnd (spEnd n)) : FnOk P w K mg base CX0 (k + 1) f fd aEnd (spTwo n) := by
  refine F.ok scTwoE (fun vs H Q E h => ?_) (fun cdv A outer s H vs Q E hr h => ?_)
  · obtain ⟨t, p, fl, rfl, _⟩ := h
    rfl
  · obtain ⟨t, p, fl, rfl, hp, hz, hc, hm, q⟩ := h
    refine ⟨_, @QSs.o _ _ _ (w_cons (w_set 3 scTwoE.nd rfl (Or.inl rfl) (v_fn DE GE hr rfl (qa_cons ⟨pv 0⟩ (qa_cons ⟨pv 1⟩ (qa_cons ⟨pv 2⟩ qa_nil)))))
      (w_cons (w_if (t_cmp op_lt ⟨pv 3⟩ ⟨pe_int⟩ (nomark _)) (w_one (w_ret ⟨pe_un un_neg pe_int⟩)) w_nil)
      (w_cons (w_set 4 scTwoE.nd rfl (Or.inl rfl) (qe_lst (qa_cons ⟨pe_str⟩ (qa_cons ⟨pe_str⟩ (qa_cons ⟨pe_str⟩ qa_nil)))))
      (w_mid (w_if ⟨pt_val (pv 2)⟩ (w_one (w_set 4 scTwoE.nd rfl (Or.inl rfl) (qe_lst (qa_cons ⟨pe_str⟩ (qa_cons ⟨pe_str⟩ qa_nil))))) w_nil)
      (w_cons (w_for PassesOwn.never rfl (i_list ⟨pv 4⟩) (g_name 5 scTwoE.nd rfl (Or.inl rfl)) (w_one (w_if (t_cmp op_eq (v_slice sl_cut ⟨pv 0⟩ (o_some ⟨pv 3⟩) (o_some (v_op op_add ⟨pv 3⟩ (v_callB call_len_str (by rfl) B.len PySem.boot_len (qa_cons ⟨pv 5⟩ qa_nil))))) ⟨pv 5⟩ (nomark _))
        (w_cons (w_set 6 scTwoE.nd rfl (Or.inl rfl) (v_fn DE GE hr rfl (qa_cons ⟨pv 0⟩ (qa_cons (v_op op_add ⟨pv 3⟩ (v_callB call_len_str (by rfl) B.len PySem.boot_len (qa_cons ⟨pv 5⟩ qa_nil))) (qa_cons ⟨pv 2⟩ qa_nil)))))
        (w_cons (w_if ⟨PW.pt (pw_and (pt_cmpR op_gt (pv 6) pe_int (nomark _)) (pw_and1 (pt_cmpR op_eq (pe_slice sl_cut (pv 0) (po_some (pv 6)) (po_some (pe_op op_add (pv 6) pe_int))) pe_str (nomark _))))⟩ (w_one (w_ret ⟨pe_op op_add (pv 6) pe_int⟩)) w_nil)
        (w_one (w_ret ⟨pe_un un_neg pe_int⟩)))) w_nil)))
      (w_one (w_ret ⟨pe_un un_neg pe_int⟩))))))), ?_⟩
    have szt : t.length ≤ sizeLine := sz100 (by omega)
    refine ⟨_, rfl, _, rfl, _, rfl, t, p, fl, rfl, hp, hz, hc, hm, fun H1 s1 => ?_⟩
    cases e1 : eT n (!fl) (t.drop p) with
    | none =>
      have e : e2 (eT n (!fl)) (!fl) (t.drop p) = none := by unfold e2; rw [e1]
      rw [e] at q
      exact ⟨_, rfl, _, _, rfl, rfl, _, rfl, itDP (show (-1 : Int) < 0 by decide) ⟨_, rfl, q H1 s1⟩⟩
    | some r =>
      obtain ⟨te, _, et⟩ := eT_is _ _ _ _ e1
      have sr : Suf t r := (et ▸ suf_drop t p : Suf t (teT te ++ r)).app
      have dr := sr.drop
      have lr := sr.le
      have mr : mu r < n := by rw [et, mu_app] at hm; omega
      have eq2 : e2 (eT n (!fl)) (!fl) (t.drop p) = match pFirst biT (twos (!fl)) r with
        | none => none
        | some (_, r1) => match eT n (!fl) r1 with
          | none => none
          | some r2 => pTake [41] r2 := by
        unfold e2
        rw [e1]
        all_goals rfl
      rw [eq2] at q
      refine ⟨_, rfl, _, _, rfl, rfl, _, rfl, itDN (show ¬ ((t.length - r.length : Nat) : Int) < 0 by omega) ?_⟩
      refine ⟨(by show 3 ≤ sizeLine; decide), fun M hM => ?_⟩
      refine ⟨fun σ H' => ∃ M', σ = [some (.str (Sg t)), some (.int (p : Int)), some (.bl fl), some (.int ((t.length - r.length : Nat) : Int)), some (.ref M'), none, none] ∧ H' M' = some (.lst ((twos (!fl)).map fun k => V.str (Sg (biT k)))) ∧ Same H H', ?_, ?_⟩
      · refine ⟨_, rfl, fl, rfl, ?_⟩
        cases fl with
        | true =>
          refine iteT ⟨(by show 2 ≤ sizeLine; decide), fun M2 hM2 => ⟨M2, rfl, ?_, s1.trans ((Same.upd hM).trans (Same.upd hM2))⟩⟩
          rw [upd_same, marks_r]
          rfl
        | false =>
          refine iteF ⟨M, rfl, ?_, s1.trans (Same.upd hM)⟩
          rw [upd_same, marks_t]
          rfl
      · rintro σ H2 ⟨M, rfl, eM, s2⟩
        refine ⟨_, rfl, M, rfl, ⟨_, SqL.of eM⟩, for_list (K := K) (a := M) (xs := (twos (!fl)).map fun k => V.str (Sg (biT k))) (fun i σ H' => ∃ o5 : Option V, σ = [some (.str (Sg t)), some (.int (p : Int)), some (.bl fl), some (.int ((t.length - r.length : Nat) : Int)), some (.ref M), o5, none] ∧ H' = H2 ∧ pFirst biT (twos (!fl)) r = pFirst biT ((twos (!fl)).drop i) r) ⟨none, rfl, rfl, rfl⟩ (fun i σ H' _ h => by obtain ⟨_, _, rfl, _⟩ := h; exact SqL.of eM) ?_ ?_⟩
        · rintro i x σ H3 hx ⟨o5, rfl, rfl, inv⟩
          obtain ⟨k, hk, rfl⟩ := map_get hx
          refine ⟨_, rfl, _, rfl, _, rfl, _, rfl, _, rfl, Sg (biT k), rfl, by rw [Sg.len]; cases k <;> decide, _, _, rfl, rfl, _, rfl, t, t.length - r.length, t.length - r.length + (Sg (biT k)).length, rfl, rfl, rfl, by omega, szt, _, rfl, rfl, _, rfl, ?_⟩
          rw [dr, Nat.add_sub_cancel_left, Sg.len]
          by_cases hk2 : r.take (biT k).length = biT k
          · refine itDP (by rw [hk2]) ?_
            have pk : pTake (biT k) r = some (r.drop (biT k).length) := take_is.mp hk2
            have er := pTake_is pk
            have fk : pFirst biT (twos (!fl)) r = some (k, r.drop (biT k).length) := by rw [inv, first_drop hk, pk]
            have l0 : 0 < (biT k).length := by cases k <;> decide
            have l1 := pTake_len pk
            have d1 : t.drop (t.length - r.length + (Sg (biT k)).length) = r.drop (biT k).length := by rw [← List.drop_drop, dr, Sg.len]
            have sr1 : Suf t (r.drop (biT k).length) := by
              obtain ⟨u, hu⟩ := sr
              exact ⟨u ++ r.take (biT k).length, by rw [List.append_assoc, List.take_append_drop]; exact hu⟩
            have m1 : mu (r.drop (biT k).length) < n := by
              have := congrArg mu er
              rw [mu_app] at this
              omega
            rw [fk] at q
            refine ⟨_, rfl, _, rfl, _, rfl, Sg (biT k), rfl, by rw [Sg.len]; cases k <;> decide, _, _, rfl, rfl, _, rfl, t, t.length - r.length + (Sg (biT k)).length, fl, rfl, by rw [Sg.len]; omega, hz, hc, by rw [d1]; exact m1, fun H4 s4 => ?_⟩
            have q' := q H4 (s2.trans s4)
            rw [d1]
            cases e3 : eT n (!fl) (r.drop (biT k).length) with
            | none =>
              simp only [e3] at q'
              exact ⟨_, rfl, _, _, rfl, rfl, _, rfl, itDN (show ¬ ((0 : Int) < -1) by decide) (iteF ⟨_, rfl, q'⟩)⟩
            | some r2 =>
              simp only [e3] at q'
              obtain ⟨te2, _, et2⟩ := eT_is _ _ _ _ e3
              have sr2 : Suf t r2 := (et2 ▸ sr1 : Suf t (teT te2 ++ r2)).app
              have l2 := congrArg List.length et2
              rw [List.length_append] at l2
              refine ⟨_, rfl, _, _, rfl, rfl, _, rfl, itDP (show (0 : Int) < ((t.length - r2.length : Nat) : Int) by omega) ?_⟩
              refine ⟨_, rfl, _, rfl, _, rfl, _, rfl, _, _, rfl, rfl, _, rfl, t, t.length - r2.length, t.length - r2.length + 1, rfl, rfl, rfl, by omega, szt, rfl, _, rfl, ?_⟩
              rw [sr2.drop, Nat.add_sub_cancel_left]
              by_cases h41 : r2.take 1 = [41]
              · refine itDP (by rw [lit_close, h41]) ⟨_, rfl, _, _, rfl, rfl, ?_⟩
                have p41 : pTake [41] r2 = some (r2.drop 1) := take_is.mp h41
                have l41 := pTake_len p41
                rw [p41] at q'
                have : endI t (some (r2.drop 1)) = ((t.length - r2.length : Nat) : Int) + 1 := by
                  show ((t.length - (r2.drop 1).length : Nat) : Int) = _
                  have := sr2.le
                  simp at l41 ⊢
                  omega
                rw [this] at q'
                exact q'
              · refine itDN (fun z => h41 (Sg.inj (by rw [← lit_close]; exact V.str.inj z))) ⟨_, rfl, ?_⟩
                rw [take_no (y := [41]) h41] at q'
                exact q'
          · refine itDN (fun z => hk2 (Sg.inj (V.str.inj z))) ⟨_, rfl, rfl, ?_⟩
            rw [inv, first_drop hk, take_no hk2]
        · rintro σ H3 ⟨o5, rfl, rfl, inv⟩
          rw [List.length_map, List.drop_length] at inv
          rw [inv] at q
          exact ⟨_, rfl, q _ s2⟩
end
section
variable {P : Program} {w : World} {K : PySem.W.Frag} {mg : Str → Option Value} {base : Heap}
open TM
theorem in_words (wd : List Nat) : ∀ ss : List (List Nat), inV (.str (Sg wd)) (ss.map fun l => V.str (Sg l)) = decide (wd ∈ ss)
  | [] => rfl
  | x :: ss => by
    have ih := in_words wd ss
    show (((Sg x == Sg wd) || inV (.str (Sg wd)) (ss.map fun l => V.str (Sg l))) : Bool) = _
    rw [ih, Bool.eq_iff_iff, Bool.or_eq_true, beq_iff_eq, decide_eq_true_iff, decide_eq_true_iff, List.mem_cons]
    exact or_congr ⟨fun z => (Sg.inj z).symm, fun z => by rw [z]⟩ Iff.rfl
theorem flat_words : ∀ ss : List (List Nat), (ss.map fun l => V.str (Sg l)).all flatV = true
  | [] => rfl
  | x :: ss => by rw [List.map_cons, List.all_cons, flat_words ss]; rfl
def wSTA : List (List Nat) := [[115, 97, 109, 101], [116, 105, 101], [97, 108, 108]]
def wNR : List (List Nat) := [[110, 101, 97, 114], [114, 111, 119, 115]]
def wOT : List (List Nat) := [[111, 110], [116, 117, 114, 110, 101, 100]]
theorem wSTA_is : [V.str (Str.ofString "same"), .str (Str.ofString "tie"), .str (Str.ofString "all")] = wSTA.map fun l => V.str (Sg l) := by
  have h1 : Str.ofString "same" = Sg [115, 97, 109, 101] := by decide +kernel
  have h2 : Str.ofString "tie" = Sg [116, 105, 101] := by decide +kernel
  have h3 : Str.ofString "all" = Sg [97, 108, 108] := by decide +kernel
  rw [h1, h2, h3]
  rfl
theorem l_near : Str.ofString "near" = Sg [110, 101, 97, 114] := by decide +kernel
theorem l_on : Str.ofString "on" = Sg [111, 110] := by decide +kernel
theorem l_hue : Str.ofString "hue" = Sg [104, 117, 101] := by decide +kernel
theorem l_one : Str.ofString "one" = Sg [111, 110, 101] := by decide +kernel
theorem l_blank : Str.ofString " " = Sg [32] := by decide +kernel
theorem wNR_is : [V.str (Str.ofString "near"), .str (Str.ofString "rows")] = wNR.map fun l => V.str (Sg l) := by
  have h2 : Str.ofString "rows" = Sg [114, 111, 119, 115] := by decide +kernel
  rw [l_near, h2]
  rfl
theorem wOT_is : [V.str (Str.ofString "on"), .str (Str.ofString "turned")] = wOT.map fun l => V.str (Sg l) := by
  have h2 : Str.ofString "turned" = Sg [116, 117, 114, 110, 101, 100] := by decide +kernel
  rw [l_on, h2]
  rfl
abbrev nEnd : List Str := ["_law_text_here", "_law_at", "_law_rows", "_law_end_here", "_law_word"]
theorem scEnd : FnScope nEnd aEnd (defScope sEndT) := ⟨rfl, rfl, rfl, by decide +kernel, rfl, by decide +kernel, by decide +kernel⟩
theorem str_iff {a : Str} {x y : List Nat} (h : a = Sg y) : V.str (Sg x) = V.str a ↔ x = y := by
  rw [h]
  exact ⟨fun z => Sg.inj (V.str.inj z), fun z => by rw [z]⟩
theorem ok_end {f fP fN fR f2 : Addr} {fd fdP fdN fdR fd2 : FuncData} (B : BltX mg) (D : Dn K mg "_law_end" sEndT aEnd f fd) (D2 : Dn K mg "_law_two_end" sTwoEnd aEnd f2 fd2)
    (DP : Dn K mg "_law_part_end" sPartEnd aPartE fP fdP) (GP : FnOk P w K mg base CX0 3 fP fdP aPartE spPartE)
    (DN : Dn K mg "_law_number_end" sNumEnd aNumE fN fdN) (GN : FnOk P w K mg base CX0 2 fN fdN aNumE spNumE)
    (DR : Dn K mg "_law_run" sRun nRun fR fdR) (GR : FnOk P w K mg base CX0 1 fR fdR nRun spRun) : ∀ n : Nat, FnOk P w K mg base CX0 (4 + 2 * n) f fd aEnd (spEnd n) := by
  intro n
  induction n with
  | zero =>
    refine D.fn.ok scEnd (fun vs H Q E h => ?_) (fun cdv A outer s H vs Q E hr h => ?_)
    · obtain ⟨t, p, fl, rfl, _⟩ := h
      rfl
    · obtain ⟨t, p, fl, rfl, _, _, _, hm, _⟩ := h
      omega
  | succ n ih =>
    have G2 := ok_two B D2.fn D ih
    have lv : 4 + 2 * (n + 1) = (4 + 2 * n + 1) + 1 := by omega
    rw [lv]
    refine D.fn.ok scEnd (fun vs H Q E h => ?_) (fun cdv A outer s H vs Q E hr h => ?_)
    · obtain ⟨t, p, fl, rfl, _⟩ := h
      rfl
    · obtain ⟨t, p, fl, rfl, hp, hz, hc, hm, q⟩ := h
      have r1 := hr.mono (j := 1) (by omega)
      have r2 := hr.mono (j := 2) (by omega)
      have r3 := hr.mono (j := 3) (by omega)
      have re := hr.mono (j := 4 + 2 * n) (by omega)
      refine ⟨_, @QSs.o _ _ _ (w_cons (w_if (t_cmp op_eq (v_slice sl_cut ⟨pv 0⟩ (o_some ⟨pv 1⟩) (o_some (v_op op_add ⟨pv 1⟩ ⟨pe_int⟩))) ⟨pe_str⟩ (nomark _)) (w_one (w_ret (v_fn D2 G2 hr rfl (qa_cons ⟨pv 0⟩ (qa_cons (v_op op_add ⟨pv 1⟩ ⟨pe_int⟩) (qa_cons ⟨pv 2⟩ qa_nil)))))) w_nil)
        (w_mid (w_if ⟨PW.pt (pw_and (pt_cmpR op_ne (pe_slice sl_cut (pv 0) (po_some (pv 1)) (po_some (pe_op op_add (pv 1) pe_int))) pe_str (nomark _)) (pw_and1 (pt_cmpR op_in_str (pe_slice sl_cut (pv 0) (po_some (pv 1)) (po_some (pe_op op_add (pv 1) pe_int))) pe_str rfl)))⟩
          (w_cons (w_set 3 scEnd.nd rfl (Or.inl rfl) (v_fn DP GP r3 rfl (qa_cons ⟨pv 0⟩ (qa_cons ⟨pv 1⟩ qa_nil))))
          (w_cons (w_if (t_cmp op_lt ⟨pv 3⟩ ⟨pe_int⟩ (nomark _)) (w_one (w_ret ⟨pe_un un_neg pe_int⟩)) w_nil)
          (w_one (w_ret (v_fn D ih re rfl (qa_cons ⟨pv 0⟩ (qa_cons ⟨pv 3⟩ (qa_cons ⟨pv 2⟩ qa_nil)))))))) w_nil)
        (w_cons (w_set 3 scEnd.nd rfl (Or.inl rfl) (v_fn DR GR r1 rfl (qa_cons ⟨pv 0⟩ (qa_cons ⟨pv 1⟩ (qa_cons ⟨pe_str⟩ qa_nil)))))
        (w_cons (w_set 4 scEnd.nd rfl (Or.inl rfl) (v_slice sl_cut ⟨pv 0⟩ (o_some ⟨pv 1⟩) (o_some ⟨pv 3⟩)))
        (w_cons (w_if ⟨PW.pt (pw_or (PW.pt (pw_and (pt_val (pv 2)) (pw_and1 (pt_cmpR op_eq (pv 4) pe_str (nomark _))))) (pw_or1 (PW.pt (pw_and (pt_not (pt_val (pv 2))) (pw_and1 (pt_cmpR op_in_seq (pv 4) (pe_lst (pa_cons pe_str (pa_cons pe_str (pa_cons pe_str pa_nil)))) rfl))))))⟩ (w_one (w_ret ⟨pv 3⟩)) w_nil)
        (w_cons (w_if (t_cmp op_ne (v_slice sl_cut ⟨pv 0⟩ (o_some ⟨pv 3⟩) (o_some (v_op op_add ⟨pv 3⟩ ⟨pe_int⟩))) ⟨pe_str⟩ (nomark _)) (w_one (w_ret ⟨pe_un un_neg pe_int⟩)) w_nil)
        (w_cons (w_if ⟨PW.pt (pw_and (pt_val (pv 2)) (pw_and1 (pt_cmpR op_eq (pv 4) pe_str (nomark _))))⟩ (w_one (w_ret (v_fn DN GN r2 rfl (qa_cons ⟨pv 0⟩ (qa_cons (v_op op_add ⟨pv 3⟩ ⟨pe_int⟩) (qa_cons ⟨pe_int⟩ qa_nil)))))) w_nil)
        (w_cons (w_if ⟨PW.pt (pw_and (pt_val (pv 2)) (pw_and1 (pt_cmpR op_in_seq (pv 4) (pe_lst (pa_cons pe_str (pa_cons pe_str pa_nil))) rfl)))⟩ (w_one (w_ret (v_fn D ih re rfl (qa_cons ⟨pv 0⟩ (qa_cons (v_op op_add ⟨pv 3⟩ ⟨pe_int⟩) (qa_cons ⟨pe_cmpR op_eq (pv 4) pe_str (nomark _)⟩ qa_nil)))))) w_nil)
        (w_cons (w_if ⟨PW.pt (pw_and (pt_not (pt_val (pv 2))) (pw_and1 (pt_cmpR op_in_seq (pv 4) (pe_lst (pa_cons pe_str (pa_cons pe_str pa_nil))) rfl)))⟩ (w_one (w_ret (v_fn D ih re rfl (qa_cons ⟨pv 0⟩ (qa_cons (v_op op_add ⟨pv 3⟩ ⟨pe_int⟩) (qa_cons ⟨pe_cmpR op_eq (pv 4) pe_str (nomark _)⟩ qa_nil)))))) w_nil)
        (w_one (w_ret ⟨pe_un un_neg pe_int⟩)))))))))))
        , ?_⟩
      have szt : t.length ≤ sizeLine := sz100 (by omega)
      have ld : (t.drop p).length = t.length - p := List.length_drop
      have e1 : p + 1 - p = 1 := by omega
      refine ⟨_, rfl, _, rfl, _, rfl, _, rfl, _, _, rfl, rfl, _, rfl, t, p, p + 1, rfl, rfl, rfl, by omega, szt, rfl, _, rfl, ?_⟩
      rw [e1]
      by_cases h40 : (t.drop p).take 1 = [40]
      · refine itDP ((str_iff lit_open).mpr h40) ?_
        have p40 : pTake [40] (t.drop p) = some ((t.drop p).drop 1) := take_is.mp h40
        have l40 := pTake_len p40
        have m40 := congrArg mu (pTake_is p40)
        rw [mu_app, show mu [40] = 1 from rfl] at m40
        have d1 : t.drop (p + 1) = (t.drop p).drop 1 := by rw [List.drop_drop]
        refine ⟨_, rfl, _, rfl, _, _, rfl, rfl, _, rfl, t, p + 1, fl, rfl, by simp at l40; omega, hz, hc, by rw [d1]; omega, fun H' s' => ?_⟩
        have q' := q H' s'
        unfold eT at q'
        rw [p40] at q'
        rw [d1]
        exact q'
      · refine itDN (fun z => h40 ((str_iff lit_open).mp z)) ?_
        have p40 := take_no (y := [40]) h40
        have eq1 : eT (n + 1) (!fl) (t.drop p) = if hdNS (t.drop p) = true then (match fE (t.drop p) with
            | none => none
            | some r => eT n (!fl) r)
          else eW (eT n) (!fl) ((t.drop p).takeWhile isLow) ((t.drop p).dropWhile isLow) := by
          conv => lhs; unfold eT
          rw [p40]
          all_goals rfl
        rw [eq1] at q
        refine ⟨fun σ H' => σ = [some (.str (Sg t)), some (.int (p : Int)), some (.bl fl), none, none] ∧ H' = H ∧ hdNS (t.drop p) = false, ?_, ?_⟩
        · refine ⟨_, rfl, _, rfl, _, rfl, _, rfl, _, _, rfl, rfl, _, rfl, t, p, p + 1, rfl, rfl, rfl, by omega, szt, rfl, _, rfl, ?_⟩
          rw [e1]
          have le : Str.ofString "" = Sg [] := by decide +kernel
          cases el : t.drop p with
          | nil => exact iteNS ((str_iff le).mpr rfl) (iteF ⟨rfl, rfl, rfl⟩)
          | cons c l =>
            refine iteNP (fun z => by have := (str_iff le).mp z; cases this) ?_
            refine ⟨_, rfl, _, rfl, _, rfl, _, rfl, _, _, rfl, rfl, _, rfl, t, p, p + 1, rfl, rfl, rfl, by omega, szt, ?_⟩
            rw [e1, el]
            refine ⟨_, nsS, rfl, rfl, _, rfl, ?_⟩
            have c128 : c < 128 := hc c (List.mem_of_mem_drop (i := p) (by rw [el]; exact List.mem_cons_self))
            have hin := ns_in c c128
            show if (!(Builtin.Str.occurrences nsS ⟨#[c]⟩ 0 nsS.length 1).isEmpty) = true then _ else _
            rw [hin]
            rw [el] at q hm
            cases hns : isNS c with
            | false => exact iteF ⟨rfl, rfl, hns⟩
            | true =>
              refine iteT ?_
              rw [if_pos (show hdNS (c :: l) = true from hns)] at q
              refine ⟨_, rfl, _, rfl, t, p, rfl, hp, hz, hc, ?_⟩
              rw [el]
              cases ef : fE (c :: l) with
              | none =>
                rw [ef] at q
                exact ⟨_, rfl, _, _, rfl, rfl, _, rfl, itDP (show (-1 : Int) < 0 by decide) ⟨_, rfl, q H (Same.refl H)⟩⟩
              | some r =>
                rw [ef] at q
                obtain ⟨a, b, f1, f2⟩ := fE_is ef
                have sr : Suf t r := ((f2 ▸ el ▸ suf_drop t p : Suf t (unT (.many a b) ++ r))).app
                have m1 := congrArg mu f2
                have m2 := (unT_cnt (.many a b)).2.1
                have m3 : 1 ≤ mu (unT (.many a b)) := by unfold mu; omega
                rw [mu_app] at m1
                refine ⟨_, rfl, _, _, rfl, rfl, _, rfl, itDN (show ¬ ((t.length - r.length : Nat) : Int) < 0 by omega) ?_⟩
                refine ⟨_, rfl, _, rfl, _, rfl, t, t.length - r.length, fl, rfl, by omega, hz, hc, by rw [sr.drop]; omega, fun H' s' => ?_⟩
                rw [sr.drop]
                exact q H' s'
        · rintro σ H1 ⟨rfl, rfl, hn⟩
          rw [if_neg (by rw [hn]; decide)] at q
          refine ⟨_, rfl, _, rfl, t, p, lowS, isLow, rfl, low_in, hp, hz, hc, ?_⟩
          have ew : (t.drop p).take (p + ((t.drop p).takeWhile isLow).length - p) = (t.drop p).takeWhile isLow := by rw [Nat.add_sub_cancel_left, tw_take]
          have er := end_dw hp isLow
          have es := (List.takeWhile_append_dropWhile (p := isLow) (l := t.drop p)).symm
          have sr : Suf t ((t.drop p).dropWhile isLow) := by
            obtain ⟨u, hu⟩ := suf_drop t p
            exact ⟨u ++ (t.drop p).takeWhile isLow, by rw [List.append_assoc, List.takeWhile_append_dropWhile]; exact hu⟩
          have mm := congrArg mu es
          rw [mu_app] at mm
          generalize (t.drop p).dropWhile isLow = r at q er sr mm
          generalize (t.drop p).takeWhile isLow = wd at q er ew mm
          have dr : t.drop (p + wd.length) = r := by rw [← er]; exact sr.drop
          have dr1 : t.drop (p + wd.length + 1) = r.drop 1 := by rw [← List.drop_drop, dr]
          have eI : endI t (some r) = ((p + wd.length : Nat) : Int) := by rw [← er]; rfl
          have lr := sr.le
          refine ⟨_, rfl, _, rfl, _, rfl, _, rfl, _, rfl, t, p, p + wd.length, rfl, rfl, rfl, by omega, szt, ?_⟩
          rw [ew]
          have e11 : p + wd.length + 1 - (p + wd.length) = 1 := by omega
          unfold eW at q
          cases fl with
          | true =>
            refine ⟨_, rfl, true, rfl, iteT ⟨_, rfl, rfl, _, rfl, ?_⟩⟩
            by_cases h1 : wd = [111, 110, 101]
            · refine itDP ((str_iff l_one).mpr h1) ⟨_, rfl, ?_⟩
              rw [if_pos (by rw [h1]; decide), eI] at q
              exact q _ (Same.refl _)
            refine itDN (fun z => h1 ((str_iff l_one).mp z)) ?_
            refine ⟨_, rfl, true, rfl, iteF (iteF ?_)⟩
            rw [if_neg (by
              intro z
              have : wd = [111, 110, 101] := List.mem_singleton.mp z
              exact h1 this)] at q
            refine ⟨_, rfl, _, rfl, _, rfl, _, rfl, _, _, rfl, rfl, _, rfl, t, p + wd.length, p + wd.length + 1, rfl, rfl, rfl, by omega, szt, rfl, _, rfl, ?_⟩
            rw [dr, e11]
            by_cases h32 : r.take 1 = [32]
            · refine iteNS ((str_iff l_blank).mpr h32) ?_
              have p32 : pTake [32] r = some (r.drop 1) := take_is.mp h32
              have l32 := pTake_len p32
              have m32 := congrArg mu (pTake_is p32)
              rw [mu_app, show mu [32] = 1 from rfl] at m32
              have hp1 : p + wd.length + 1 ≤ t.length := by simp at l32; omega
              rw [p32] at q
              dsimp only at q
              refine ⟨_, rfl, true, rfl, iteT ⟨_, rfl, rfl, _, rfl, ?_⟩⟩
              by_cases h2 : wd = [104, 117, 101]
              · refine itDP ((str_iff l_hue).mpr h2) ?_
                rw [if_pos ⟨rfl, h2⟩] at q
                refine ⟨_, rfl, _, rfl, _, _, rfl, rfl, t, p + wd.length + 1, 0, rfl, hp1, hz, hc, ?_⟩
                rw [dr1]
                exact q _ (Same.refl _)
              refine itDN (fun z => h2 ((str_iff l_hue).mp z)) ?_
              rw [if_neg (fun z => h2 z.2)] at q
              refine ⟨_, rfl, true, rfl, iteT ⟨_, rfl, (by show 2 ≤ sizeLine; decide), fun M hM => ?_⟩⟩
              have sM : Same H1 (L2.upd H1 M (.lst [V.str (Str.ofString "near"), V.str (Str.ofString "rows")])) := Same.upd hM
              refine ⟨M, [V.str (Str.ofString "near"), V.str (Str.ofString "rows")], rfl, .inl (SqL.of upd_same), rfl, (by rw [wNR_is]; exact flat_words _), _, rfl, ?_⟩
              show if inV (.str (Sg wd)) [V.str (Str.ofString "near"), V.str (Str.ofString "rows")] = true then _ else _
              rw [wNR_is, in_words, ← wNR_is]
              generalize L2.upd H1 M (.lst [V.str (Str.ofString "near"), V.str (Str.ofString "rows")]) = H2 at sM ⊢
              by_cases h3 : wd ∈ wNR
              · refine itDP h3 ?_
                refine ⟨_, rfl, _, rfl, _, _, rfl, rfl, _, rfl, rfl, t, p + wd.length + 1, _, rfl, hp1, hz, hc, by rw [dr1]; omega, fun H' s' => ?_⟩
                rw [dr1]
                have q' := q H' (sM.trans s')
                have h3' : wd = [110, 101, 97, 114] ∨ wd = [114, 111, 119, 115] := by simpa [wNR] using h3
                rcases h3' with h3' | h3'
                · rw [if_pos ⟨rfl, h3'⟩] at q'
                  have ef : decide (V.str (Sg wd) = V.str (Str.ofString "near")) = true := decide_eq_true ((str_iff l_near).mpr h3')
                  rw [ef]
                  exact q'
                · have nn : wd ≠ [110, 101, 97, 114] := fun z => by rw [z] at h3'; exact absurd h3' (by decide)
                  rw [if_neg (fun z => nn z.2), if_pos ⟨rfl, h3'⟩] at q'
                  have ef : decide (V.str (Sg wd) = V.str (Str.ofString "near")) = false := decide_eq_false (fun z => nn ((str_iff l_near).mp z))
                  rw [ef]
                  exact q'
              · refine itDN h3 ?_
                have q' := q H2 sM
                have n1 : wd ≠ [110, 101, 97, 114] := fun z => h3 (by rw [z]; decide)
                have n2 : wd ≠ [114, 111, 119, 115] := fun z => h3 (by rw [z]; decide)
                rw [if_neg (fun z => n1 z.2), if_neg (fun z => n2 z.2), if_neg (fun z => by cases z.1), if_neg (fun z => by cases z.1)] at q'
                exact ⟨_, rfl, true, rfl, iteF (iteF ⟨_, rfl, q'⟩)⟩
            · refine iteNP (fun z => h32 ((str_iff l_blank).mp z)) ⟨_, rfl, ?_⟩
              rw [take_no (y := [32]) h32] at q
              exact q _ (Same.refl _)
          | false =>
            refine ⟨_, rfl, false, rfl, iteF (iteF ?_)⟩
            refine ⟨_, rfl, false, rfl, iteT ⟨_, rfl, (by show 3 ≤ sizeLine; decide), fun M hM => ?_⟩⟩
            have sM : Same H1 (L2.upd H1 M (.lst [V.str (Str.ofString "same"), V.str (Str.ofString "tie"), V.str (Str.ofString "all")])) := Same.upd hM
            refine ⟨M, [V.str (Str.ofString "same"), V.str (Str.ofString "tie"), V.str (Str.ofString "all")], rfl, .inl (SqL.of upd_same), rfl, (by rw [wSTA_is]; exact flat_words _), _, rfl, ?_⟩
            show if inV (.str (Sg wd)) [V.str (Str.ofString "same"), V.str (Str.ofString "tie"), V.str (Str.ofString "all")] = true then _ else _
            rw [wSTA_is, in_words, ← wSTA_is]
            generalize L2.upd H1 M (.lst [V.str (Str.ofString "same"), V.str (Str.ofString "tie"), V.str (Str.ofString "all")]) = H2 at sM ⊢
            by_cases h1 : wd ∈ wSTA
            · refine itDP h1 ⟨_, rfl, ?_⟩
              rw [if_pos (show wd ∈ (leafs (!false)).map lfT from h1), eI] at q
              exact q _ sM
            refine itDN h1 ?_
            rw [if_neg (show ¬ wd ∈ (leafs (!false)).map lfT from h1)] at q
            refine ⟨_, rfl, _, rfl, _, rfl, _, rfl, _, _, rfl, rfl, _, rfl, t, p + wd.length, p + wd.length + 1, rfl, rfl, rfl, by omega, szt, rfl, _, rfl, ?_⟩
            rw [dr, e11]
            by_cases h32 : r.take 1 = [32]
            · refine iteNS ((str_iff l_blank).mpr h32) ?_
              have p32 : pTake [32] r = some (r.drop 1) := take_is.mp h32
              have l32 := pTake_len p32
              have m32 := congrArg mu (pTake_is p32)
              rw [mu_app, show mu [32] = 1 from rfl] at m32
              have hp1 : p + wd.length + 1 ≤ t.length := by simp at l32; omega
              rw [p32] at q
              dsimp only at q
              rw [if_neg (fun z => by cases z.1), if_neg (fun z => by cases z.1), if_neg (fun z => by cases z.1)] at q
              refine ⟨_, rfl, false, rfl, iteF (iteF ?_)⟩
              refine ⟨_, rfl, false, rfl, iteF (iteF ?_)⟩
              refine ⟨_, rfl, false, rfl, iteT ⟨_, rfl, (by show 2 ≤ sizeLine; decide), fun M' hM' => ?_⟩⟩
              have sN : Same H2 (L2.upd H2 M' (.lst [V.str (Str.ofString "on"), V.str (Str.ofString "turned")])) := Same.upd hM'
              refine ⟨M', [V.str (Str.ofString "on"), V.str (Str.ofString "turned")], rfl, .inl (SqL.of upd_same), rfl, (by rw [wOT_is]; exact flat_words _), _, rfl, ?_⟩
              show if inV (.str (Sg wd)) [V.str (Str.ofString "on"), V.str (Str.ofString "turned")] = true then _ else _
              rw [wOT_is, in_words, ← wOT_is]
              generalize L2.upd H2 M' (.lst [V.str (Str.ofString "on"), V.str (Str.ofString "turned")]) = H3 at sN ⊢
              by_cases h3 : wd ∈ wOT
              · refine itDP h3 ?_
                refine ⟨_, rfl, _, rfl, _, _, rfl, rfl, _, rfl, rfl, t, p + wd.length + 1, _, rfl, hp1, hz, hc, by rw [dr1]; omega, fun H' s' => ?_⟩
                rw [dr1]
                have q' := q H' ((sM.trans sN).trans s')
                have h3' : wd = [111, 110] ∨ wd = [116, 117, 114, 110, 101, 100] := by simpa [wOT] using h3
                rcases h3' with h3' | h3'
                · rw [if_pos ⟨rfl, h3'⟩] at q'
                  have ef : decide (V.str (Sg wd) = V.str (Str.ofString "on")) = true := decide_eq_true ((str_iff l_on).mpr h3')
                  rw [ef]
                  exact q'
                · have nn : wd ≠ [111, 110] := fun z => by rw [z] at h3'; exact absurd h3' (by decide)
                  rw [if_neg (fun z => nn z.2), if_pos ⟨rfl, h3'⟩] at q'
                  have ef : decide (V.str (Sg wd) = V.str (Str.ofString "on")) = false := decide_eq_false (fun z => nn ((str_iff l_on).mp z))
                  rw [ef]
                  exact q'
              · refine itDN h3 ?_
                have q' := q H3 (sM.trans sN)
                have n1 : wd ≠ [111, 110] := fun z => h3 (by rw [z]; decide)
                have n2 : wd ≠ [116, 117, 114, 110, 101, 100] := fun z => h3 (by rw [z]; decide)
                rw [if_neg (fun z => n1 z.2), if_neg (fun z => n2 z.2)] at q'
                exact ⟨_, rfl, q'⟩
            · refine iteNP (fun z => h32 ((str_iff l_blank).mp z)) ⟨_, rfl, ?_⟩
              rw [take_no (y := [32]) h32] at q
              exact q _ sM
end
section
variable {P : Program} {w : World} {K : PySem.W.Frag} {mg : Str → Option Value} {base : Heap}
open TM
def spTE (n : Nat) : Sp := fun vs H Q _ => ∃ (t : List Nat) (p : Nat), vs = [.str (Sg t), .int (p : Int)] ∧ p ≤ t.length ∧ t.length ≤ 90000 ∧ (∀ c ∈ t, c < 128) ∧ mu (t.drop p) < n ∧ Q (.int (endI t (tE n (t.drop p)))) H
abbrev nTE : List Str := ["_law_text_here", "_law_at", "_law_end_here"]
theorem scTE : FnScope nTE aPartE (defScope sTreeEnd) := ⟨rfl, rfl, rfl, by decide +kernel, rfl, by decide +kernel, by decide +kernel⟩
theorem l_o : Str.ofString "o" = Sg [111] := by decide +kernel
def tR (n : Nat) (r1 : List Nat) : Option (List Nat) := match tE n r1 with
  | none => none
  | some r2 => tM (tE n) (r2.length + 1) r2
theorem tE_succ {n : Nat} {l r : List Nat} (h : tW l = some r) : tE (n + 1) l = match pTake [40] r with
    | none => some r
    | some r1 => match tR n r1 with
      | none => none
      | some r3 => pTake [41] r3 := by
  unfold tE tR
  rw [h]
  dsimp only
  cases pTake [40] r with
  | none => rfl
  | some r1 =>
    dsimp only
    cases tE n r1 with
    | none => rfl
    | some r2 => rfl
theorem tE_none {n : Nat} {l : List Nat} (h : tW l = none) : tE (n + 1) l = none := by
  unfold tE
  rw [h]
theorem ok_treeE {f fN : Addr} {fd fdN : FuncData} (D : Dn K mg "_law_tree_end" sTreeEnd aPartE f fd)
    (DN : Dn K mg "_law_number_end" sNumEnd aNumE fN fdN) (GN : FnOk P w K mg base CX0 2 fN fdN aNumE spNumE) : ∀ n : Nat, FnOk P w K mg base CX0 (3 + n) f fd aPartE (spTE n) := by
  intro n
  induction n with
  | zero =>
    refine D.fn.ok scTE (fun vs H Q E h => ?_) (fun cdv A outer s H vs Q E hr h => ?_)
    · obtain ⟨t, p, rfl, _⟩ := h
      rfl
    · obtain ⟨t, p, rfl, _, _, _, hm, _⟩ := h
      omega
  | succ n ih =>
    rw [← Nat.add_assoc]
    refine D.fn.ok scTE (fun vs H Q E h => ?_) (fun cdv A outer s H vs Q E hr h => ?_)
    · obtain ⟨t, p, rfl, _⟩ := h
      rfl
    · obtain ⟨t, p, rfl, hp, hz, hc, hm, q⟩ := h
      have r2 := hr.mono (j := 2) (by omega)
      refine ⟨_, @QSs.o _ _ _ (w_cons (w_set 2 scTE.nd rfl (Or.inl rfl) (v_op op_add ⟨pv 1⟩ ⟨pe_int⟩))
        (w_mid (w_if (t_cmp op_ne (v_slice sl_cut ⟨pv 0⟩ (o_some ⟨pv 1⟩) (o_some (v_op op_add ⟨pv 1⟩ ⟨pe_int⟩))) ⟨pe_str⟩ (nomark _)) (w_one (w_set 2 scTE.nd rfl (Or.inl rfl) (v_fn DN GN r2 rfl (qa_cons ⟨pv 0⟩ (qa_cons ⟨pv 1⟩ (qa_cons ⟨pe_int⟩ qa_nil)))))) w_nil)
        (w_cons (w_if ⟨PW.pt (pw_or (pt_cmpR op_lt (pv 2) pe_int (nomark _)) (pw_or1 (pt_cmpR op_ne (pe_slice sl_cut (pv 0) (po_some (pv 2)) (po_some (pe_op op_add (pv 2) pe_int))) pe_str (nomark _))))⟩ (w_one (w_ret ⟨pv 2⟩)) w_nil)
        (w_cons (w_set 2 scTE.nd rfl (Or.inl rfl) (v_fn D ih hr rfl (qa_cons ⟨pv 0⟩ (qa_cons (v_op op_add ⟨pv 2⟩ ⟨pe_int⟩) qa_nil))))
        (w_cons ⟨ps_while PassesOwn.never (PW.pt (pw_and (pt_cmpR op_gt (pv 2) pe_int (nomark _)) (pw_and1 (pt_cmpR op_eq (pe_slice sl_cut (pv 0) (po_some (pv 2)) (po_some (pe_op op_add (pv 2) pe_int))) pe_str (nomark _))))) (pss_one (ps_set (i := 2) scTE.nd rfl (Or.inl rfl) (pe_fn D ih hr rfl (pa_cons (pv 0) (pa_cons (pe_op op_add (pv 2) pe_int) pa_nil)))))⟩
        (w_cons (w_if ⟨PW.pt (pw_or (pt_cmpR op_lt (pv 2) pe_int (nomark _)) (pw_or1 (pt_cmpR op_ne (pe_slice sl_cut (pv 0) (po_some (pv 2)) (po_some (pe_op op_add (pv 2) pe_int))) pe_str (nomark _))))⟩ (w_one (w_ret ⟨pe_un un_neg pe_int⟩)) w_nil)
        (w_one (w_ret ⟨pe_op op_add (pv 2) pe_int⟩)))))))), ?_⟩
      have szt : t.length ≤ sizeLine := sz100 (by omega)
      have e1 : p + 1 - p = 1 := by omega
      have ld : (t.drop p).length = t.length - p := List.length_drop
      refine ⟨_, rfl, _, _, rfl, rfl, fun σ H' => σ = [some (.str (Sg t)), some (.int (p : Int)), some (.int (endI t (tW (t.drop p))))] ∧ H' = H, ?_, ?_⟩
      · refine ⟨_, rfl, _, rfl, _, rfl, _, rfl, _, _, rfl, rfl, _, rfl, t, p, p + 1, rfl, rfl, rfl, by omega, szt, rfl, _, rfl, ?_⟩
        rw [e1]
        by_cases h111 : (t.drop p).take 1 = [111]
        · have p111 : pTake [111] (t.drop p) = some ((t.drop p).drop 1) := take_is.mp h111
          have l111 := pTake_len p111
          have ew : tW (t.drop p) = some ((t.drop p).drop 1) := by unfold tW; rw [p111]
          refine iteNS ((str_iff l_o).mpr h111) ⟨?_, rfl⟩
          rw [ew]
          have : endI t (some ((t.drop p).drop 1)) = (p : Int) + 1 := by
            show ((t.length - ((t.drop p).drop 1).length : Nat) : Int) = _
            simp at l111 ⊢
            omega
          rw [this]
          rfl
        · have ew : tW (t.drop p) = nR 0 (t.drop p) := by unfold tW nR; rw [take_no (y := [111]) h111]; all_goals rfl
          refine iteNP (fun z => h111 ((str_iff l_o).mp z)) ?_
          refine ⟨_, rfl, _, rfl, t, p, 0, rfl, hp, hz, hc, ?_, rfl⟩
          rw [ew]
          rfl
      · rintro σ H1 ⟨rfl, rfl⟩
        cases e2 : tW (t.drop p) with
        | none =>
          rw [tE_none e2] at q
          exact ⟨_, rfl, _, _, rfl, rfl, _, rfl, itDP (show (-1 : Int) < 0 by decide) ⟨_, rfl, q⟩⟩
        | some r =>
          rw [tE_succ e2] at q
          obtain ⟨ws, _, w2⟩ := tW_is e2
          have sr : Suf t r := (w2 ▸ suf_drop t p : Suf t (wishT ws ++ r)).app
          have lr := sr.le
          rw [w2, mu_app] at hm
          refine ⟨_, rfl, _, _, rfl, rfl, _, rfl, itDN (show ¬ ((t.length - r.length : Nat) : Int) < 0 by omega) ?_⟩
          refine ⟨_, rfl, _, rfl, _, rfl, _, rfl, _, _, rfl, rfl, _, rfl, t, t.length - r.length, t.length - r.length + 1, rfl, rfl, rfl, by omega, szt, rfl, _, rfl, ?_⟩
          rw [sr.drop, Nat.add_sub_cancel_left]
          by_cases h40 : r.take 1 = [40]
          · refine iteNS ((str_iff lit_open).mpr h40) ?_
            have p40 : pTake [40] r = some (r.drop 1) := take_is.mp h40
            have l40 := pTake_len p40
            have m40 := congrArg mu (pTake_is p40)
            rw [mu_app, show mu [40] = 1 from rfl] at m40
            rw [p40] at q
            dsimp only at q
            have d1 : t.drop (t.length - r.length + 1) = r.drop 1 := by rw [← List.drop_drop, sr.drop]
            have lr1 : 1 ≤ r.length := by simp at l40; omega
            have sr1 : Suf t (r.drop 1) := d1 ▸ suf_drop t _
            refine ⟨_, rfl, _, rfl, _, _, rfl, rfl, t, t.length - r.length + 1, rfl, by omega, hz, hc, by rw [d1]; omega, ?_⟩
            rw [d1]
            refine ⟨fun m σ H' => H' = H1 ∧ ((m = 0 ∧ σ = [some (.str (Sg t)), some (.int (p : Int)), some (.int (-1))] ∧ tR n (r.drop 1) = none) ∨ ∃ (r2 : List Nat) (k : Nat), m = r2.length + 1 ∧ σ = [some (.str (Sg t)), some (.int (p : Int)), some (.int ((t.length - r2.length : Nat) : Int))] ∧ Suf t r2 ∧ mu r2 < n ∧ 0 < t.length - r2.length ∧ r2.length < k ∧ tR n (r.drop 1) = tM (tE n) k r2), ?_, ?_⟩
            · cases e3 : tE n (r.drop 1) with
              | none => exact ⟨0, rfl, .inl ⟨rfl, rfl, by unfold tR; rw [e3]⟩⟩
              | some r2 =>
                obtain ⟨tr, _, t2⟩ := tE_is _ _ _ e3
                have sr2 : Suf t r2 := (t2 ▸ sr1 : Suf t (trT tr ++ r2)).app
                have m2 := congrArg mu t2
                rw [mu_app] at m2
                have l2 := congrArg List.length t2
                rw [List.length_append, List.length_drop] at l2
                exact ⟨_, rfl, .inr ⟨r2, r2.length + 1, rfl, rfl, sr2, by omega, by omega, by omega, by unfold tR; rw [e3]⟩⟩
            · rintro m σ H2 ⟨rfl, h⟩
              rcases h with ⟨rfl, rfl, hR⟩ | ⟨r2, k, rfl, rfl, sr2, m2, l2, hk, hR⟩
              · rw [hR] at q
                refine ⟨_, rfl, _, _, rfl, rfl, _, rfl, itDN (show ¬ ((0 : Int) < -1) by decide) (iteF ?_)⟩
                exact ⟨_, rfl, _, _, rfl, rfl, _, rfl, itDP (show (-1 : Int) < 0 by decide) ⟨_, rfl, q⟩⟩
              · obtain ⟨k, rfl⟩ : ∃ j, k = j + 1 := ⟨k - 1, by omega⟩
                refine ⟨_, rfl, _, _, rfl, rfl, _, rfl, itDP (show (0 : Int) < ((t.length - r2.length : Nat) : Int) by omega) ?_⟩
                refine ⟨_, rfl, _, rfl, _, rfl, _, rfl, _, _, rfl, rfl, _, rfl, t, t.length - r2.length, t.length - r2.length + 1, rfl, rfl, rfl, by omega, szt, rfl, _, rfl, ?_⟩
                rw [sr2.drop, Nat.add_sub_cancel_left]
                by_cases h32 : r2.take 1 = [32]
                · have p32 : pTake [32] r2 = some (r2.drop 1) := take_is.mp h32
                  have l32 := pTake_len p32
                  have m32 := congrArg mu (pTake_is p32)
                  rw [mu_app, show mu [32] = 1 from rfl] at m32
                  have lr2 : 1 ≤ r2.length := by simp at l32; omega
                  have d2 : t.drop (t.length - r2.length + 1) = r2.drop 1 := by rw [← List.drop_drop, sr2.drop]
                  have sr3 : Suf t (r2.drop 1) := d2 ▸ suf_drop t _
                  have hR' : tR n (r.drop 1) = match tE n (r2.drop 1) with
                      | none => none
                      | some r3 => tM (tE n) k r3 := by
                    rw [hR]
                    conv => lhs; unfold tM
                    rw [p32]
                    all_goals rfl
                  refine itDP ((str_iff l_blank).mpr h32) ⟨_, fun _ _ z => z, ?_⟩
                  refine ⟨_, rfl, _, rfl, _, _, rfl, rfl, t, t.length - r2.length + 1, rfl, by omega, hz, hc, by rw [d2]; omega, ?_⟩
                  rw [d2]
                  cases e4 : tE n (r2.drop 1) with
                  | none =>
                    rw [e4] at hR'
                    exact ⟨0, by omega, rfl, .inl ⟨rfl, rfl, hR'⟩⟩
                  | some r3 =>
                    rw [e4] at hR'
                    obtain ⟨tr, _, t3⟩ := tE_is _ _ _ e4
                    have sr4 : Suf t r3 := (t3 ▸ sr3 : Suf t (trT tr ++ r3)).app
                    have m3 := congrArg mu t3
                    rw [mu_app] at m3
                    have l3 := congrArg List.length t3
                    rw [List.length_append, List.length_drop] at l3
                    exact ⟨r3.length + 1, by omega, rfl, .inr ⟨r3, k, rfl, rfl, sr4, by omega, by omega, by omega, hR'⟩⟩
                · have hR' : tR n (r.drop 1) = some r2 := by
                    rw [hR]
                    unfold tM
                    rw [take_no (y := [32]) h32]
                  rw [hR'] at q
                  dsimp only at q
                  refine itDN (fun z => h32 ((str_iff l_blank).mp z)) ?_
                  refine ⟨_, rfl, _, _, rfl, rfl, _, rfl, itDN (show ¬ ((t.length - r2.length : Nat) : Int) < 0 by omega) ?_⟩
                  refine ⟨_, rfl, _, rfl, _, rfl, _, rfl, _, _, rfl, rfl, _, rfl, t, t.length - r2.length, t.length - r2.length + 1, rfl, rfl, rfl, by omega, szt, rfl, _, rfl, ?_⟩
                  rw [sr2.drop, Nat.add_sub_cancel_left]
                  by_cases h41 : r2.take 1 = [41]
                  · refine iteNS ((str_iff lit_close).mpr h41) ⟨_, rfl, _, _, rfl, rfl, ?_⟩
                    have p41 : pTake [41] r2 = some (r2.drop 1) := take_is.mp h41
                    have l41 := pTake_len p41
                    rw [p41] at q
                    have : endI t (some (r2.drop 1)) = ((t.length - r2.length : Nat) : Int) + 1 := by
                      show ((t.length - (r2.drop 1).length : Nat) : Int) = _
                      have := sr2.le
                      simp at l41 ⊢
                      omega
                    rw [this] at q
                    exact q
                  · refine iteNP (fun z => h41 ((str_iff lit_close).mp z)) ⟨_, rfl, ?_⟩
                    rw [take_no (y := [41]) h41] at q
                    exact q
          · refine iteNP (fun z => h40 ((str_iff lit_open).mp z)) ⟨_, rfl, ?_⟩
            rw [take_no (y := [40]) h40] at q
            exact q
end
section
variable {P : Program} {w : World} {K : PySem.W.Frag} {mg : Str → Option Value} {base : Heap}
theorem glue_len {sep : List Nat} {xs : List (List Nat)} : (glueL sep xs).length ≤ (xs.map fun x => x.length + sep.length).sum := by
  cases xs with
  | nil => exact Nat.le_refl _
  | cons x xs =>
    unfold glueL
    rw [List.length_append, List.length_flatMap, List.map_cons, List.sum_cons]
    have : (xs.map fun m => (sep ++ m).length) = xs.map fun m => m.length + sep.length := List.map_congr_left fun m _ => by rw [List.length_append, Nat.add_comm]
    rw [this]
    omega
theorem glue_mem {sep : List Nat} {xs : List (List Nat)} {c : Nat} (h : c ∈ glueL sep xs) : c ∈ sep ∨ ∃ x ∈ xs, c ∈ x := by
  cases xs with
  | nil => cases h
  | cons x xs =>
    unfold glueL at h
    rcases List.mem_append.mp h with h | h
    · exact .inr ⟨x, List.mem_cons_self, h⟩
    · obtain ⟨y, hy, hc⟩ := List.mem_flatMap.mp h
      rcases List.mem_append.mp hc with hc | hc
      · exact .inl hc
      · exact .inr ⟨y, List.mem_cons_of_mem _ hy, hc⟩
theorem glue_sum (sep x : List Nat) (xs : List (List Nat)) : ((x :: xs).map fun y => y.length + sep.length).sum = (glueL sep (x :: xs)).length + sep.length := by
  unfold glueL
  rw [List.length_append, List.length_flatMap, List.map_cons, List.sum_cons]
  have : (xs.map fun m => (sep ++ m).length) = xs.map fun m => m.length + sep.length := List.map_congr_left fun m _ => by rw [List.length_append, Nat.add_comm]
  rw [this]
  omega
theorem mem_glue {sep x : List Nat} {xs : List (List Nat)} {c : Nat} (h : x ∈ xs) (hc : c ∈ x) : c ∈ glueL sep xs := by
  cases xs with
  | nil => cases h
  | cons y xs =>
    unfold glueL
    rcases List.mem_cons.mp h with rfl | h
    · exact List.mem_append_left _ hc
    · exact List.mem_append_right _ (List.mem_flatMap.mpr ⟨x, h, List.mem_append_right _ hc⟩)
structure Tts (k : Nat) (b : Nat) (xs : List (List Nat)) : Prop where
  asc : ∀ x ∈ xs, ∀ c ∈ x, c < 128
  sum : (xs.map fun x => x.length + k).sum ≤ b
theorem Tts.len {k b : Nat} {xs : List (List Nat)} (T : Tts k b xs) (hk : 0 < k) : xs.length ≤ b := by
  refine Nat.le_trans ?_ T.sum
  clear T
  induction xs with
  | nil => exact Nat.le_refl _
  | cons x xs ih => rw [List.map_cons, List.sum_cons, List.length_cons]; omega
theorem Tts.one {k b : Nat} {xs : List (List Nat)} {x : List Nat} (T : Tts k b xs) (h : x ∈ xs) : x.length + k ≤ b := by
  refine Nat.le_trans ?_ T.sum
  clear T
  induction xs with
  | nil => cases h
  | cons y xs ih =>
    rw [List.map_cons, List.sum_cons]
    rcases List.mem_cons.mp h with rfl | h
    · omega
    · have := ih h
      omega
theorem Tts.split {t sep : List Nat} {xs : List (List Nat)} (hx : splL t sep = xs) (ha : ∀ c ∈ t, c < 128) : Tts sep.length (t.length + sep.length) xs ∧ ∃ y ys, xs = y :: ys := by
  obtain ⟨y, ys, rfl⟩ : ∃ y ys, xs = y :: ys := by
    cases xs with
    | nil => exact absurd hx (spl_ne _ _)
    | cons y ys => exact ⟨y, ys, rfl⟩
  have g := splL_glue t sep
  rw [hx] at g
  refine ⟨⟨fun x hm c hc => ha c ?_, ?_⟩, y, ys, rfl⟩
  · rw [← g]
    exact mem_glue hm hc
  · rw [glue_sum, g]
    exact Nat.le_refl _
theorem Tts.glue {k b : Nat} {sep : List Nat} {xs : List (List Nat)} (T : Tts k b xs) (hs : sep.length = k) (ha : ∀ c ∈ sep, c < 128) : (glueL sep xs).length ≤ b ∧ ∀ c ∈ glueL sep xs, c < 128 := by
  refine ⟨Nat.le_trans glue_len (by rw [hs]; exact T.sum), fun c hc => ?_⟩
  rcases glue_mem hc with h | ⟨x, hx, h⟩
  · exact ha c h
  · exact T.asc x hx c h
theorem sum_set {xs : List (List Nat)} {k : Nat} {y : List Nat} : ∀ j, ((xs.set j y).map fun x => x.length + k).sum ≤ (xs.map fun x => x.length + k).sum + (y.length + k) := by
  induction xs with
  | nil => intro j; exact Nat.zero_le _
  | cons x xs ih =>
    intro j
    cases j with
    | zero => rw [List.set_cons_zero, List.map_cons, List.sum_cons, List.map_cons, List.sum_cons]; omega
    | succ j =>
      rw [List.set_cons_succ, List.map_cons, List.sum_cons, List.map_cons, List.sum_cons]
      have := ih j
      omega
theorem Tts.put {k b m : Nat} {xs : List (List Nat)} (T : Tts k b xs) {y : List Nat} (hy : ∀ c ∈ y, c < 128) (hm : y.length + k ≤ m) (j : Nat) : Tts k (b + m) (xs.set j y) := by
  refine ⟨fun x hx => ?_, ?_⟩
  · rcases List.mem_or_eq_of_mem_set hx with h | rfl
    · exact T.asc x h
    · exact hy
  · have h1 := sum_set (xs := xs) (k := k) (y := y) j
    have h2 := T.sum
    omega
theorem map_set' {xs : List (List Nat)} {j : Nat} {y : List Nat} : (xs.map fun l => V.str (Sg l)).set j (.str (Sg y)) = (xs.set j y).map fun l => V.str (Sg l) := by
  rw [List.map_set]
theorem Drw.ne {H : Hp} {d a : Addr} {n : Nat} (D : Drw H d n) (h : H a = none) : a ≠ d := fun e => by
  obtain ⟨_, _, _, e', _⟩ := D
  rw [e, e'] at h
  cases h
theorem Drw.at {H : Hp} {d R : Addr} {n : Nat} {xs : List (List Nat)} (D : Drw H d n) (h : H R = some (.lst (xs.map fun l => V.str (Sg l)))) : R ≠ d := fun e => by
  obtain ⟨_, _, _, e', _⟩ := D
  rw [e, e'] at h
  match xs, h with
  | [], h => cases h
  | x :: xs, h => simp at h
end
section
variable {P : Program} {w : World} {K : PySem.W.Frag} {mg : Str → Option Value} {base : Heap}
theorem ixN_nat {n j : Nat} (h : j < n) : ixN n (j : Int) = some j := by
  unfold ixN
  rw [if_pos (by omega), if_pos (by omega)]
  simp
theorem bent_signs : ∀ r, r < 32 → ∃ c, (Str.ofString "0123456789-+/*() aeflnorstuwOT.,").cps.toList[r]? = some c ∧ c < 128 := by
  have h : ∀ r, r < 32 → (match (Str.ofString "0123456789-+/*() aeflnorstuwOT.,").cps.toList[r]? with | some c => decide (c < 128) | none => false) = true := by decide +kernel
  intro r hr
  have := h r hr
  cases e : (Str.ofString "0123456789-+/*() aeflnorstuwOT.,").cps.toList[r]? with
  | none => rw [e] at this; cases this
  | some c => rw [e] at this; exact ⟨c, rfl, by simpa using this⟩
def spBent : Sp := fun vs H Q _ => ∃ (d : Addr) (t : List Nat) (n : Nat), vs = [.ref d, .str (Sg t)] ∧ Drw H d n ∧ n ≤ 900000 ∧ t.length ≤ 20000 ∧ (∀ c ∈ t, c < 128) ∧
  ∀ t' H', Bend t t' → t'.length ≤ 2 * t.length + 100 → (∀ c ∈ t', c < 128) → But d H H' → Drw H' d (n + 20) → Q (.str (Sg t')) H'
abbrev nBent : List Str := ["_law_draw", "_law_text_here", "_law_signs", "_law_way", "_law_at", "_law_sign", "_law_words", "_law_other"]
abbrev aBent : List Str := ["_law_draw", "_law_text_here"]
theorem scBent : FnScope nBent aBent (defScope sBent) := ⟨rfl, rfl, rfl, by decide +kernel, rfl, by decide +kernel, by decide +kernel⟩
theorem ok_bent {f fT : Addr} {fd fdT : FuncData} (B : BltX mg) (F : Fun K "_law_bent" "_law_bent" sBent f fd) (DT : Dn K mg "_law_take" sTake ["_law_draw", "_law_most"] fT fdT) (GT : FnOk P w K mg base CX0 2 fT fdT ["_law_draw", "_law_most"] spTake) : FnOk P w K mg base CX0 3 f fd aBent spBent := by
  refine F.ok scBent (fun vs H Q E h => ?_) (fun cdv A outer s H vs Q E hr h => ?_)
  · obtain ⟨d, t, n, rfl, _⟩ := h
    rfl
  · obtain ⟨d, t, n, rfl, D0, hn, hz, hc, q⟩ := h
    have r2 := hr.mono (j := 2) (by decide)
    refine ⟨_, @QSs.o _ _ _ (w_cons (w_set 2 scBent.nd rfl (Or.inl rfl) ⟨pe_str⟩)
      (w_cons (w_set 3 scBent.nd rfl (Or.inl rfl) (v_fn DT GT r2 rfl (qa_cons ⟨pv 0⟩ (qa_cons ⟨pe_int⟩ qa_nil))))
      (w_cons (w_set 4 scBent.nd rfl (Or.inl rfl) (v_fn DT GT r2 rfl (qa_cons ⟨pv 0⟩ (qa_cons (v_op op_add (v_callB call_len_str (by rfl) B.len PySem.boot_len (qa_cons ⟨pv 1⟩ qa_nil)) ⟨pe_int⟩) qa_nil))))
      (w_cons (w_set 5 scBent.nd rfl (Or.inl rfl) (qe_ix ix_str ⟨pv 2⟩ (v_fn DT GT r2 rfl (qa_cons ⟨pv 0⟩ (qa_cons ⟨pe_int⟩ qa_nil))) (fun _ _ => rfl)))
      (w_cons (w_if (t_cmp op_eq ⟨pv 3⟩ ⟨pe_int⟩ (nomark _)) (w_one (w_ret (v_op op_add_str (v_op op_add_str (v_slice sl_head ⟨pv 1⟩ o_none (o_some ⟨pv 4⟩)) ⟨pv 5⟩) (v_slice sl_tail ⟨pv 1⟩ (o_some ⟨pv 4⟩) o_none)))) (w_nil))
      (w_cons (w_if (t_cmp op_eq ⟨pv 3⟩ ⟨pe_int⟩ (nomark _)) (w_one (w_ret (v_op op_add_str (v_slice sl_head ⟨pv 1⟩ o_none (o_some ⟨pv 4⟩)) (v_slice sl_tail ⟨pv 1⟩ (o_some (v_op op_add ⟨pv 4⟩ ⟨pe_int⟩)) o_none)))) (w_nil))
      (w_cons (w_if (t_cmp op_eq ⟨pv 3⟩ ⟨pe_int⟩ (nomark _)) (w_one (w_ret (v_op op_add_str (v_op op_add_str (v_slice sl_head ⟨pv 1⟩ o_none (o_some ⟨pv 4⟩)) ⟨pv 5⟩) (v_slice sl_tail ⟨pv 1⟩ (o_some (v_op op_add ⟨pv 4⟩ ⟨pe_int⟩)) o_none)))) (w_nil))
      (w_cons (w_set 6 scBent.nd rfl (Or.inl rfl) (v_bm PySem.F.plainAttrs_str PySem.F.slot_str_split PySem.F.type_str_split mt_split ⟨pv 1⟩ (qa_cons ⟨pe_str⟩ qa_nil)))
      (w_cons (w_set 7 scBent.nd rfl (Or.inl rfl) (qe_ix ix_list ⟨pv 6⟩ (v_fn DT GT r2 rfl (qa_cons ⟨pv 0⟩ (qa_cons (v_callB call_len_seq (by rfl) B.len PySem.boot_len (qa_cons ⟨pv 6⟩ qa_nil)) qa_nil))) (fun _ _ => rfl)))
      (w_cons (w_asg ⟨pv 7⟩ (g_sub ⟨pv 6⟩ (v_fn DT GT r2 rfl (qa_cons ⟨pv 0⟩ (qa_cons (v_callB call_len_seq (by rfl) B.len PySem.boot_len (qa_cons ⟨pv 6⟩ qa_nil)) qa_nil))) set_list))
      (w_one (w_ret (v_bm PySem.F.plainAttrs_str PySem.F.slot_str_join PySem.F.type_str_join mt_join ⟨pe_str⟩ (qa_cons ⟨pv 6⟩ qa_nil)))))))))))))), ?_⟩
    refine ⟨_, rfl, d, 4, n, rfl, by decide, by decide, D0, by omega, fun way H1 w0 w1 b1 d1 => ?_⟩
    have sz : (Sg t).length ≤ sizeLine := by rw [Sg.len]; exact sz100 (by omega)
    have szt : t.length ≤ sizeLine := sz100 (by omega)
    refine ⟨_, rfl, _, rfl, Sg t, rfl, sz, _, _, rfl, rfl, d, _, n + 2, rfl, by omega, by rw [Sg.len]; omega, d1, by omega, fun at_ H2 a0 a1 b2 d2 => ?_⟩
    rw [Sg.len] at a1
    obtain ⟨k, rfl⟩ := Int.eq_ofNat_of_zero_le a0
    have hk : k ≤ t.length := by omega
    refine ⟨_, rfl, _, rfl, d, 32, n + 4, rfl, by decide, by decide, d2, by omega, fun r H3 r0 r1 b3 d3 => ?_⟩
    obtain ⟨j, rfl⟩ := Int.eq_ofNat_of_zero_le r0
    obtain ⟨c, hcj, c128⟩ := bent_signs j (by omega)
    refine ⟨_, _, c, rfl, rfl, by decide +kernel, atI_nat hcj, ?_⟩
    have b03 := (b1.trans b2).trans b3
    have asc2 : ∀ (x y : List Nat), (∀ c ∈ x, c ∈ t ∨ c < 128) → (∀ c ∈ y, c ∈ t) → ∀ c ∈ x ++ y, c < 128 := fun x y hx hy c' h' => by
      rcases List.mem_append.mp h' with h' | h'
      · rcases hx c' h' with h' | h'
        · exact hc c' h'
        · exact h'
      · exact hc c' (hy c' h')
    have take_in : ∀ j, ∀ c ∈ t.take j, c ∈ t := fun j c h => List.mem_of_mem_take h
    have drop_in : ∀ j, ∀ c ∈ t.drop j, c ∈ t := fun j c h => List.mem_of_mem_drop h
    refine ⟨_, rfl, rfl, _, rfl, ite2 (fun _ => ?_) (fun _ => ?_)⟩
    · refine ⟨_, rfl, _, rfl, _, rfl, t, k, rfl, rfl, rfl, szt, _, rfl, Sg (t.take k), Sg [c], rfl, rfl, ?_, ?_⟩
      · rw [Sg.len, Sg.len, List.length_take]; exact sz100 (by simp; omega)
      refine ⟨_, rfl, _, rfl, _, rfl, t, k, rfl, rfl, rfl, szt, _, _, rfl, rfl, ?_, ?_⟩
      · rw [Sg.app, Sg.len, Sg.len, List.length_append, List.length_take, List.length_drop]; exact sz100 (by simp; omega)
      rw [Sg.app, Sg.app]
      refine q _ H3 (.ins t k c) ?_ (asc2 _ _ (fun c' h' => ?_) (drop_in k)) b03 (d3.mono (by omega))
      · simp; omega
      · rcases List.mem_append.mp h' with h' | h'
        · exact .inl (take_in k c' h')
        · rw [List.mem_singleton.mp h']; exact .inr c128
    refine ⟨_, rfl, rfl, _, rfl, ite2 (fun _ => ?_) (fun _ => ?_)⟩
    · refine ⟨_, rfl, _, rfl, _, rfl, t, k, rfl, rfl, rfl, szt, ?_⟩
      refine ⟨_, rfl, _, rfl, _, _, rfl, rfl, _, rfl, t, k + 1, rfl, rfl, rfl, szt, _, _, rfl, rfl, ?_, ?_⟩
      · rw [Sg.len, Sg.len, List.length_take, List.length_drop]; exact sz100 (by omega)
      rw [Sg.app]
      refine q _ H3 (.del t k) ?_ (asc2 _ _ (fun c' h' => .inl (take_in k c' h')) (drop_in (k + 1))) b03 (d3.mono (by omega))
      simp; omega
    refine ⟨_, rfl, rfl, _, rfl, ite2 (fun _ => ?_) (fun _ => ?_)⟩
    · refine ⟨_, rfl, _, rfl, _, rfl, t, k, rfl, rfl, rfl, szt, _, rfl, Sg (t.take k), Sg [c], rfl, rfl, ?_, ?_⟩
      · rw [Sg.len, Sg.len, List.length_take]; exact sz100 (by simp; omega)
      refine ⟨_, rfl, _, rfl, _, _, rfl, rfl, _, rfl, t, k + 1, rfl, rfl, rfl, szt, _, _, rfl, rfl, ?_, ?_⟩
      · rw [Sg.app, Sg.len, Sg.len, List.length_append, List.length_take, List.length_drop]; exact sz100 (by simp; omega)
      rw [Sg.app, Sg.app]
      refine q _ H3 (.put t k c) ?_ (asc2 _ _ (fun c' h' => ?_) (drop_in (k + 1))) b03 (d3.mono (by omega))
      · simp; omega
      · rcases List.mem_append.mp h' with h' | h'
        · exact .inl (take_in k c' h')
        · rw [List.mem_singleton.mp h']; exact .inr c128
    refine ⟨_, rfl, rfl, t, [32], rfl, by rw [lit_blank], by simp, by omega, fun R hR => ?_⟩
    obtain ⟨xs, hxs⟩ : ∃ xs, splL t [32] = xs := ⟨_, rfl⟩
    obtain ⟨T, y0, ys0, ey⟩ := Tts.split hxs hc
    rw [hxs]
    have Rd : R ≠ d := d3.ne hR
    have b4 : But d H (L2.upd H3 R (.lst (xs.map fun l => V.str (Sg l)))) := b03.trans (But.new hR)
    have d4 : Drw (L2.upd H3 R (.lst (xs.map fun l => V.str (Sg l)))) d (n + 6) := d3.new hR
    have e4 : L2.upd H3 R (.lst (xs.map fun l => V.str (Sg l))) R = some (.lst (xs.map fun l => V.str (Sg l))) := upd_same
    have RH : H R = none := by
      cases hq : H R with
      | none => rfl
      | some o => rw [b03 R o Rd hq] at hR; cases hR
    generalize L2.upd H3 R (.lst (xs.map fun l => V.str (Sg l))) = H4 at b4 d4 e4 ⊢
    have lx : xs.length ≤ t.length + 1 := T.len (by decide)
    have lx0 : 0 < xs.length := by rw [ey]; exact Nat.succ_pos _
    refine ⟨_, rfl, _, rfl, _, rfl, R, _, rfl, .inl (SqL.of e4), d, _, n + 6, rfl, by rw [List.length_map]; omega, by rw [List.length_map]; omega, d4, by omega, fun a H5 a0 a1 b5 d5 => ?_⟩
    rw [List.length_map] at a1
    obtain ⟨m, rfl⟩ := Int.eq_ofNat_of_zero_le a0
    have hm : m < xs.length := by omega
    have gm : xs[m]? = some xs[m] := List.getElem?_eq_getElem hm
    have mm : xs[m] ∈ xs := List.getElem_mem hm
    generalize xs[m] = v at gm mm
    have gv : (xs.map fun l => V.str (Sg l))[m]? = some (.str (Sg v)) := by rw [List.getElem?_map, gm]; rfl
    have e5 := b5 R _ Rd e4
    have b05 := b4.trans b5
    refine ⟨R, _, _, _, rfl, rfl, SqL.of e5, atI_nat gv, ?_⟩
    refine ⟨_, rfl, _, rfl, _, rfl, _, rfl, R, _, rfl, .inl (SqL.of e5), d, _, n + 8, rfl, by rw [List.length_map]; omega, by rw [List.length_map]; omega, d5, by omega, fun g H6 g0 g1 b6 d6 => ?_⟩
    rw [List.length_map] at g1
    obtain ⟨g, rfl⟩ := Int.eq_ofNat_of_zero_le g0
    have e6 := b6 R _ Rd e5
    refine ⟨R, _, _, g, rfl, rfl, e6, ixN_nat (by rw [List.length_map]; omega), ?_⟩
    rw [map_set']
    have vl := T.one mm
    have T' := T.put (T.asc v mm) (m := t.length + 1) vl g
    have b7 : But d H (L2.upd H6 R (.lst ((xs.set g v).map fun l => V.str (Sg l)))) := fun c o n' z => by
      rw [upd_ne (fun e => by rw [e, RH] at z; cases z)]
      exact b6 c o n' (b05 c o n' z)
    have d7 : Drw (L2.upd H6 R (.lst ((xs.set g v).map fun l => V.str (Sg l)))) d (n + 10) := d6.updN Rd
    have e7 : L2.upd H6 R (.lst ((xs.set g v).map fun l => V.str (Sg l))) R = some (.lst ((xs.set g v).map fun l => V.str (Sg l))) := upd_same
    obtain ⟨gl, ga⟩ := T'.glue (sep := [32]) rfl (by decide)
    have Ts' := T'.sum
    refine ⟨rfl, _, rfl, [32], R, xs.set g v, by rw [lit_blank], rfl, SqL.of e7, sz100 (Nat.le_trans Ts' (by simp only [List.length_singleton]; omega)), sz100 (Nat.le_trans gl (by simp only [List.length_singleton]; omega)), ?_⟩
    refine q _ _ ?_ (Nat.le_trans gl (by simp only [List.length_singleton]; omega)) ga b7 (d7.mono (by omega))
    rw [← hxs]
    exact .wd t m g v (by rw [hxs]; exact gm)
end
section
variable {P : Program} {w : World} {K : PySem.W.Frag} {mg : Str → Option Value} {base : Heap}
def Gd (A : List (List Nat)) : Prop := ∀ x ∈ A, x.length ≤ 2000 ∧ (∀ c ∈ x, c < 128) ∧ Few x
def cpsL (ss : List String) : List (List Nat) := ss.map fun s => (Str.ofString s).cps.toList
theorem cps_is (ss : List String) : (ss.map fun s => V.str (Str.ofString s)) = (cpsL ss).map fun l => V.str (Sg l) := by
  unfold cpsL
  rw [List.map_map]
  exact List.map_congr_left fun s _ => by rw [Function.comp, Sg.of]
def gdL (A : List (List Nat)) : Bool := A.all fun x => decide (x.length ≤ 2000) && ((x.all fun c => decide (c < 128)) && (decide (x.count 32 ≤ 17) && decide (x.count 40 ≤ 18)))
theorem gd_of {A : List (List Nat)} (h : gdL A = true) : Gd A := fun x hx => by
  have := List.all_eq_true.mp h x hx
  rw [Bool.and_eq_true, Bool.and_eq_true, Bool.and_eq_true, decide_eq_true_iff, decide_eq_true_iff, decide_eq_true_iff, List.all_eq_true] at this
  exact ⟨this.1, fun c hc => by simpa using this.2.1 c hc, this.2.2⟩
theorem Gd.app {A B : List (List Nat)} (a : Gd A) (b : Gd B) : Gd (A ++ B) := fun x hx => (List.mem_append.mp hx).elim (a x) (b x)
structure OddS (H H1 : Hp) (S : Addr) (k : Nat) (A : List (List Nat)) : Prop where
  same : Same H H1
  at_ : H1 S = some (.lst (A.map fun l => V.str (Sg l)))
  good : Gd A
  len : A.length = k
theorem odd_one {H : Hp} {S : Addr} {ss : List String} {vs : List V} (h : H S = none) (e : vs = ss.map fun s => V.str (Str.ofString s)) (g : gdL (cpsL ss) = true) : OddS H (L2.upd H S (.lst vs)) S ss.length (cpsL ss) :=
  ⟨Same.upd h, by rw [upd_same, e, cps_is], gd_of g, by unfold cpsL; rw [List.length_map]⟩
theorem odd_stepL {H H1 : Hp} {S l p : Addr} {k : Nat} {A B : List (List Nat)} {vs : List V} (O : OddS H H1 S k A) (hl : H1 l = none) (hp : L2.upd H1 l (.lst vs) p = none) (e : vs = B.map fun l => V.str (Sg l)) (g : gdL B = true) : OddS H (L2.upd (L2.upd H1 l (.lst vs)) p (.lst ((A.map fun l => V.str (Sg l)) ++ vs))) p (k + B.length) (A ++ B) := by
  have s1 : Same H1 (L2.upd H1 l (.lst vs)) := Same.upd hl
  refine ⟨(O.same.trans s1).trans (Same.upd hp), ?_, O.good.app (gd_of g), by rw [List.length_append, O.len]⟩
  rw [upd_same, e, List.map_append]
theorem odd_step {H H1 : Hp} {S l p : Addr} {k : Nat} {A : List (List Nat)} {ss : List String} {vs : List V} (O : OddS H H1 S k A) (hl : H1 l = none) (hp : L2.upd H1 l (.lst vs) p = none) (e : vs = ss.map fun s => V.str (Str.ofString s)) (g : gdL (cpsL ss) = true) : OddS H (L2.upd (L2.upd H1 l (.lst vs)) p (.lst ((A.map fun l => V.str (Sg l)) ++ vs))) p (k + (cpsL ss).length) (A ++ cpsL ss) :=
  odd_stepL O hl hp (e.trans (cps_is ss)) g
def nin (k : Nat) : List Nat := (List.replicate k [57]).flatten
def ninL : List (List Nat) := [nin 60, nin 61, [104, 117, 101, 32] ++ nin 60, [104, 117, 101, 32] ++ nin 61]
theorem nin_is : [V.str (Sg (List.replicate 60 [57]).flatten), .str (Sg (List.replicate 61 [57]).flatten), .str (Str.ofString "hue " ++ Sg (List.replicate 60 [57]).flatten), .str (Str.ofString "hue " ++ Sg (List.replicate 61 [57]).flatten)] = ninL.map fun l => V.str (Sg l) := by
  rw [lit_hueb, Sg.app, Sg.app]
  rfl
theorem lit_nine : V.str (Str.ofString "9") = .str (Sg [57]) := congrArg V.str (by decide +kernel)
def spOdd : Sp := fun vs H Q _ => vs = [] ∧ ∀ R xs H', Same H H' → H' R = some (.lst (xs.map fun l => V.str (Sg l))) → Gd xs → xs.length ≤ 100 → Q (.ref R) H'
abbrev nOdd : List Str := ["_law_some"]
theorem scOdd : FnScope nOdd [] (defScope sOdd) := ⟨rfl, rfl, rfl, by decide +kernel, rfl, by decide +kernel, by decide +kernel⟩
theorem ok_odd {f : Addr} {fd : FuncData} (F : Fun K "_law_odd" "_law_odd" sOdd f fd) : FnOk P w K mg base CX0 1 f fd [] spOdd := by
  refine F.ok scOdd (fun vs H Q E h => ?_) (fun cdv A outer s H vs Q E hr h => ?_)
  · obtain ⟨rfl, _⟩ := h
    rfl
  · obtain ⟨rfl, q⟩ := h
    refine ⟨_, @QSs.o _ _ _ (w_cons (w_set 0 scOdd.nd rfl (Or.inl rfl) (qe_lst (qa_cons ⟨pe_str⟩ (qa_cons ⟨pe_str⟩ (qa_cons ⟨pe_str⟩ (qa_cons ⟨pe_str⟩ (qa_cons ⟨pe_str⟩ (qa_cons ⟨pe_str⟩ (qa_cons ⟨pe_str⟩ (qa_cons ⟨pe_str⟩ (qa_cons ⟨pe_str⟩ (qa_cons ⟨pe_str⟩ qa_nil))))))))))))
      (w_cons (w_set 0 scOdd.nd rfl (Or.inl rfl) (v_op op_cat ⟨pv 0⟩ (qe_lst (qa_cons ⟨pe_str⟩ (qa_cons ⟨pe_str⟩ (qa_cons ⟨pe_str⟩ qa_nil))))))
      (w_cons (w_set 0 scOdd.nd rfl (Or.inl rfl) (v_op op_cat ⟨pv 0⟩ (qe_lst (qa_cons ⟨pe_str⟩ (qa_cons ⟨pe_str⟩ (qa_cons ⟨pe_str⟩ (qa_cons ⟨pe_str⟩ (qa_cons ⟨pe_str⟩ (qa_cons ⟨pe_str⟩ (qa_cons ⟨pe_str⟩ qa_nil))))))))))
      (w_cons (w_set 0 scOdd.nd rfl (Or.inl rfl) (v_op op_cat ⟨pv 0⟩ (qe_lst (qa_cons ⟨pe_str⟩ qa_nil))))
      (w_cons (w_set 0 scOdd.nd rfl (Or.inl rfl) (v_op op_cat ⟨pv 0⟩ (qe_lst (qa_cons ⟨pe_str⟩ (qa_cons ⟨pe_str⟩ (qa_cons ⟨pe_str⟩ (qa_cons ⟨pe_str⟩ qa_nil)))))))
      (w_cons (w_set 0 scOdd.nd rfl (Or.inl rfl) (v_op op_cat ⟨pv 0⟩ (qe_lst (qa_cons ⟨pe_str⟩ (qa_cons ⟨pe_str⟩ (qa_cons ⟨pe_str⟩ qa_nil))))))
      (w_cons (w_set 0 scOdd.nd rfl (Or.inl rfl) (v_op op_cat ⟨pv 0⟩ (qe_lst (qa_cons ⟨pe_str⟩ (qa_cons ⟨pe_str⟩ (qa_cons ⟨pe_str⟩ (qa_cons ⟨pe_str⟩ (qa_cons ⟨pe_str⟩ qa_nil))))))))
      (w_cons (w_set 0 scOdd.nd rfl (Or.inl rfl) (v_op op_cat ⟨pv 0⟩ (qe_lst (qa_cons ⟨pe_str⟩ (qa_cons ⟨pe_str⟩ qa_nil)))))
      (w_cons (w_set 0 scOdd.nd rfl (Or.inl rfl) (v_op op_cat ⟨pv 0⟩ (qe_lst (qa_cons ⟨pe_str⟩ (qa_cons ⟨pe_str⟩ (qa_cons ⟨pe_str⟩ (qa_cons ⟨pe_str⟩ (qa_cons ⟨pe_str⟩ (qa_cons ⟨pe_str⟩ qa_nil)))))))))
      (w_cons (w_set 0 scOdd.nd rfl (Or.inl rfl) (v_op op_cat ⟨pv 0⟩ (qe_lst (qa_cons ⟨pe_str⟩ (qa_cons ⟨pe_str⟩ qa_nil)))))
      (w_cons (w_set 0 scOdd.nd rfl (Or.inl rfl) (v_op op_cat ⟨pv 0⟩ (qe_lst (qa_cons ⟨pe_str⟩ (qa_cons ⟨pe_str⟩ (qa_cons ⟨pe_str⟩ (qa_cons ⟨pe_str⟩ (qa_cons ⟨pe_str⟩ qa_nil))))))))
      (w_cons (w_set 0 scOdd.nd rfl (Or.inl rfl) (v_op op_cat ⟨pv 0⟩ (qe_lst (qa_cons ⟨pe_str⟩ (qa_cons ⟨pe_str⟩ qa_nil)))))
      (w_cons (w_set 0 scOdd.nd rfl (Or.inl rfl) (v_op op_cat ⟨pv 0⟩ (qe_lst (qa_cons ⟨pe_str⟩ (qa_cons ⟨pe_str⟩ (qa_cons ⟨pe_str⟩ (qa_cons ⟨pe_str⟩ (qa_cons ⟨pe_str⟩ (qa_cons ⟨pe_str⟩ (qa_cons ⟨pe_str⟩ (qa_cons ⟨pe_str⟩ (qa_cons ⟨pe_str⟩ (qa_cons ⟨pe_str⟩ qa_nil)))))))))))))
      (w_cons (w_set 0 scOdd.nd rfl (Or.inl rfl) (v_op op_cat ⟨pv 0⟩ (qe_lst (qa_cons ⟨pe_str⟩ (qa_cons ⟨pe_str⟩ (qa_cons ⟨pe_str⟩ (qa_cons ⟨pe_str⟩ qa_nil)))))))
      (w_cons (w_set 0 scOdd.nd rfl (Or.inl rfl) (v_op op_cat ⟨pv 0⟩ (qe_lst (qa_cons (v_op op_repS ⟨pe_str⟩ ⟨pe_int⟩) (qa_cons (v_op op_repS ⟨pe_str⟩ ⟨pe_int⟩) (qa_cons (v_op op_add_str ⟨pe_str⟩ (v_op op_repS ⟨pe_str⟩ ⟨pe_int⟩)) (qa_cons (v_op op_add_str ⟨pe_str⟩ (v_op op_repS ⟨pe_str⟩ ⟨pe_int⟩)) qa_nil)))))))
      (w_one (w_ret (v_op op_cat ⟨pv 0⟩ (qe_lst (qa_cons ⟨pe_str⟩ (qa_cons ⟨pe_str⟩ qa_nil))))))))))))))))))))), ?_⟩
    refine ⟨(by show 10 ≤ sizeLine; decide), fun S0 hS0 => ?_⟩
    have O0 := odd_one (ss := ["", " ", "one ", " one", "ones", "One", "hue", "hue ", "hue -1", "hue 01"]) (vs := [V.str (Str.ofString ""), V.str (Str.ofString " "), V.str (Str.ofString "one "), V.str (Str.ofString " one"), V.str (Str.ofString "ones"), V.str (Str.ofString "One"), V.str (Str.ofString "hue"), V.str (Str.ofString "hue "), V.str (Str.ofString "hue -1"), V.str (Str.ofString "hue 01")]) hS0 rfl (by decide +kernel)
    generalize L2.upd H S0 (.lst [V.str (Str.ofString ""), V.str (Str.ofString " "), V.str (Str.ofString "one "), V.str (Str.ofString " one"), V.str (Str.ofString "ones"), V.str (Str.ofString "One"), V.str (Str.ofString "hue"), V.str (Str.ofString "hue "), V.str (Str.ofString "hue -1"), V.str (Str.ofString "hue 01")]) = H0 at O0 ⊢
    generalize cpsL ["", " ", "one ", " one", "ones", "One", "hue", "hue ", "hue -1", "hue 01"] = A0 at O0
    replace O0 : OddS H H0 S0 10 A0 := O0
    refine ⟨_, rfl, (by show 3 ≤ sizeLine; decide), fun l0 hl0 => ⟨S0, l0, _, _, rfl, rfl, Same.upd hl0 _ _ O0.at_, upd_same, Nat.le_of_lt (small1000 (by rw [List.length_map, O0.len]; decide)), fun S1 hS1 => ?_⟩⟩
    have O1 := odd_step (ss := ["hue +1", "hue 1 2", "hue 1_0"]) (vs := [V.str (Str.ofString "hue +1"), V.str (Str.ofString "hue 1 2"), V.str (Str.ofString "hue 1_0")]) O0 hl0 hS1 rfl (by decide +kernel)
    generalize L2.upd (L2.upd H0 l0 (.lst [V.str (Str.ofString "hue +1"), V.str (Str.ofString "hue 1 2"), V.str (Str.ofString "hue 1_0")])) S1 (.lst ((A0.map fun l => V.str (Sg l)) ++ [V.str (Str.ofString "hue +1"), V.str (Str.ofString "hue 1 2"), V.str (Str.ofString "hue 1_0")])) = H1 at O1 ⊢
    generalize A0 ++ cpsL ["hue +1", "hue 1 2", "hue 1_0"] = A1 at O1
    replace O1 : OddS H H1 S1 13 A1 := O1
    refine ⟨_, rfl, (by show 7 ≤ sizeLine; decide), fun l1 hl1 => ⟨S1, l1, _, _, rfl, rfl, Same.upd hl1 _ _ O1.at_, upd_same, Nat.le_of_lt (small1000 (by rw [List.length_map, O1.len]; decide)), fun S2 hS2 => ?_⟩⟩
    have O2 := odd_step (ss := ["near", "near ", "near same", "near  one", "near(one)", "(one)", "(one * one"]) (vs := [V.str (Str.ofString "near"), V.str (Str.ofString "near "), V.str (Str.ofString "near same"), V.str (Str.ofString "near  one"), V.str (Str.ofString "near(one)"), V.str (Str.ofString "(one)"), V.str (Str.ofString "(one * one")]) O1 hl1 hS2 rfl (by decide +kernel)
    generalize L2.upd (L2.upd H1 l1 (.lst [V.str (Str.ofString "near"), V.str (Str.ofString "near "), V.str (Str.ofString "near same"), V.str (Str.ofString "near  one"), V.str (Str.ofString "near(one)"), V.str (Str.ofString "(one)"), V.str (Str.ofString "(one * one")])) S2 (.lst ((A1.map fun l => V.str (Sg l)) ++ [V.str (Str.ofString "near"), V.str (Str.ofString "near "), V.str (Str.ofString "near same"), V.str (Str.ofString "near  one"), V.str (Str.ofString "near(one)"), V.str (Str.ofString "(one)"), V.str (Str.ofString "(one * one")])) = H2 at O2 ⊢
    generalize A1 ++ cpsL ["near", "near ", "near same", "near  one", "near(one)", "(one)", "(one * one"] = A2 at O2
    replace O2 : OddS H H2 S2 20 A2 := O2
    refine ⟨_, rfl, (by show 1 ≤ sizeLine; decide), fun l2 hl2 => ⟨S2, l2, _, _, rfl, rfl, Same.upd hl2 _ _ O2.at_, upd_same, Nat.le_of_lt (small1000 (by rw [List.length_map, O2.len]; decide)), fun S3 hS3 => ?_⟩⟩
    have O3 := odd_step (ss := ["(one *one)"]) (vs := [V.str (Str.ofString "(one *one)")]) O2 hl2 hS3 rfl (by decide +kernel)
    generalize L2.upd (L2.upd H2 l2 (.lst [V.str (Str.ofString "(one *one)")])) S3 (.lst ((A2.map fun l => V.str (Sg l)) ++ [V.str (Str.ofString "(one *one)")])) = H3 at O3 ⊢
    generalize A2 ++ cpsL ["(one *one)"] = A3 at O3
    replace O3 : OddS H H3 S3 21 A3 := O3
    refine ⟨_, rfl, (by show 4 ≤ sizeLine; decide), fun l3 hl3 => ⟨S3, l3, _, _, rfl, rfl, Same.upd hl3 _ _ O3.at_, upd_same, Nat.le_of_lt (small1000 (by rw [List.length_map, O3.len]; decide)), fun S4 hS4 => ?_⟩⟩
    have O4 := odd_step (ss := ["(one * one * one)", "(one then one)", "(one - one)", "(one + same)"]) (vs := [V.str (Str.ofString "(one * one * one)"), V.str (Str.ofString "(one then one)"), V.str (Str.ofString "(one - one)"), V.str (Str.ofString "(one + same)")]) O3 hl3 hS4 rfl (by decide +kernel)
    generalize L2.upd (L2.upd H3 l3 (.lst [V.str (Str.ofString "(one * one * one)"), V.str (Str.ofString "(one then one)"), V.str (Str.ofString "(one - one)"), V.str (Str.ofString "(one + same)")])) S4 (.lst ((A3.map fun l => V.str (Sg l)) ++ [V.str (Str.ofString "(one * one * one)"), V.str (Str.ofString "(one then one)"), V.str (Str.ofString "(one - one)"), V.str (Str.ofString "(one + same)")])) = H4 at O4 ⊢
    generalize A3 ++ cpsL ["(one * one * one)", "(one then one)", "(one - one)", "(one + same)"] = A4 at O4
    replace O4 : OddS H H4 S4 25 A4 := O4
    refine ⟨_, rfl, (by show 3 ≤ sizeLine; decide), fun l4 hl4 => ⟨S4, l4, _, _, rfl, rfl, Same.upd hl4 _ _ O4.at_, upd_same, Nat.le_of_lt (small1000 (by rw [List.length_map, O4.len]; decide)), fun S5 hS5 => ?_⟩⟩
    have O5 := odd_step (ss := ["rows one", "rows same", "on same"]) (vs := [V.str (Str.ofString "rows one"), V.str (Str.ofString "rows same"), V.str (Str.ofString "on same")]) O4 hl4 hS5 rfl (by decide +kernel)
    generalize L2.upd (L2.upd H4 l4 (.lst [V.str (Str.ofString "rows one"), V.str (Str.ofString "rows same"), V.str (Str.ofString "on same")])) S5 (.lst ((A4.map fun l => V.str (Sg l)) ++ [V.str (Str.ofString "rows one"), V.str (Str.ofString "rows same"), V.str (Str.ofString "on same")])) = H5 at O5 ⊢
    generalize A4 ++ cpsL ["rows one", "rows same", "on same"] = A5 at O5
    replace O5 : OddS H H5 S5 28 A5 := O5
    refine ⟨_, rfl, (by show 5 ≤ sizeLine; decide), fun l5 hl5 => ⟨S5, l5, _, _, rfl, rfl, Same.upd hl5 _ _ O5.at_, upd_same, Nat.le_of_lt (small1000 (by rw [List.length_map, O5.len]; decide)), fun S6 hS6 => ?_⟩⟩
    have O6 := odd_step (ss := ["on one", "turned one", "turned tie", "(tie then all)", "(tie * all)"]) (vs := [V.str (Str.ofString "on one"), V.str (Str.ofString "turned one"), V.str (Str.ofString "turned tie"), V.str (Str.ofString "(tie then all)"), V.str (Str.ofString "(tie * all)")]) O5 hl5 hS6 rfl (by decide +kernel)
    generalize L2.upd (L2.upd H5 l5 (.lst [V.str (Str.ofString "on one"), V.str (Str.ofString "turned one"), V.str (Str.ofString "turned tie"), V.str (Str.ofString "(tie then all)"), V.str (Str.ofString "(tie * all)")])) S6 (.lst ((A5.map fun l => V.str (Sg l)) ++ [V.str (Str.ofString "on one"), V.str (Str.ofString "turned one"), V.str (Str.ofString "turned tie"), V.str (Str.ofString "(tie then all)"), V.str (Str.ofString "(tie * all)")])) = H6 at O6 ⊢
    generalize A5 ++ cpsL ["on one", "turned one", "turned tie", "(tie then all)", "(tie * all)"] = A6 at O6
    replace O6 : OddS H H6 S6 33 A6 := O6
    refine ⟨_, rfl, (by show 2 ≤ sizeLine; decide), fun l6 hl6 => ⟨S6, l6, _, _, rfl, rfl, Same.upd hl6 _ _ O6.at_, upd_same, Nat.le_of_lt (small1000 (by rw [List.length_map, O6.len]; decide)), fun S7 hS7 => ?_⟩⟩
    have O7 := odd_step (ss := ["(tie meet same)", "(tie then)"]) (vs := [V.str (Str.ofString "(tie meet same)"), V.str (Str.ofString "(tie then)")]) O6 hl6 hS7 rfl (by decide +kernel)
    generalize L2.upd (L2.upd H6 l6 (.lst [V.str (Str.ofString "(tie meet same)"), V.str (Str.ofString "(tie then)")])) S7 (.lst ((A6.map fun l => V.str (Sg l)) ++ [V.str (Str.ofString "(tie meet same)"), V.str (Str.ofString "(tie then)")])) = H7 at O7 ⊢
    generalize A6 ++ cpsL ["(tie meet same)", "(tie then)"] = A7 at O7
    replace O7 : OddS H H7 S7 35 A7 := O7
    refine ⟨_, rfl, (by show 6 ≤ sizeLine; decide), fun l7 hl7 => ⟨S7, l7, _, _, rfl, rfl, Same.upd hl7 _ _ O7.at_, upd_same, Nat.le_of_lt (small1000 (by rw [List.length_map, O7.len]; decide)), fun S8 hS8 => ?_⟩⟩
    have O8 := odd_step (ss := ["2 of one", "2 of same", "2/1 of one", "2/4 of tie", "0 of one", "0/3 of one"]) (vs := [V.str (Str.ofString "2 of one"), V.str (Str.ofString "2 of same"), V.str (Str.ofString "2/1 of one"), V.str (Str.ofString "2/4 of tie"), V.str (Str.ofString "0 of one"), V.str (Str.ofString "0/3 of one")]) O7 hl7 hS8 rfl (by decide +kernel)
    generalize L2.upd (L2.upd H7 l7 (.lst [V.str (Str.ofString "2 of one"), V.str (Str.ofString "2 of same"), V.str (Str.ofString "2/1 of one"), V.str (Str.ofString "2/4 of tie"), V.str (Str.ofString "0 of one"), V.str (Str.ofString "0/3 of one")])) S8 (.lst ((A7.map fun l => V.str (Sg l)) ++ [V.str (Str.ofString "2 of one"), V.str (Str.ofString "2 of same"), V.str (Str.ofString "2/1 of one"), V.str (Str.ofString "2/4 of tie"), V.str (Str.ofString "0 of one"), V.str (Str.ofString "0/3 of one")])) = H8 at O8 ⊢
    generalize A7 ++ cpsL ["2 of one", "2 of same", "2/1 of one", "2/4 of tie", "0 of one", "0/3 of one"] = A8 at O8
    replace O8 : OddS H H8 S8 41 A8 := O8
    refine ⟨_, rfl, (by show 2 ≤ sizeLine; decide), fun l8 hl8 => ⟨S8, l8, _, _, rfl, rfl, Same.upd hl8 _ _ O8.at_, upd_same, Nat.le_of_lt (small1000 (by rw [List.length_map, O8.len]; decide)), fun S9 hS9 => ?_⟩⟩
    have O9 := odd_step (ss := ["-0 of one", "1/-2 of one"]) (vs := [V.str (Str.ofString "-0 of one"), V.str (Str.ofString "1/-2 of one")]) O8 hl8 hS9 rfl (by decide +kernel)
    generalize L2.upd (L2.upd H8 l8 (.lst [V.str (Str.ofString "-0 of one"), V.str (Str.ofString "1/-2 of one")])) S9 (.lst ((A8.map fun l => V.str (Sg l)) ++ [V.str (Str.ofString "-0 of one"), V.str (Str.ofString "1/-2 of one")])) = H9 at O9 ⊢
    generalize A8 ++ cpsL ["-0 of one", "1/-2 of one"] = A9 at O9
    replace O9 : OddS H H9 S9 43 A9 := O9
    refine ⟨_, rfl, (by show 5 ≤ sizeLine; decide), fun l9 hl9 => ⟨S9, l9, _, _, rfl, rfl, Same.upd hl9 _ _ O9.at_, upd_same, Nat.le_of_lt (small1000 (by rw [List.length_map, O9.len]; decide)), fun S10 hS10 => ?_⟩⟩
    have O10 := odd_step (ss := ["1/0 of one", "1/02 of one", "1 / 2 of one", "-1/2 of same", "1/2of one"]) (vs := [V.str (Str.ofString "1/0 of one"), V.str (Str.ofString "1/02 of one"), V.str (Str.ofString "1 / 2 of one"), V.str (Str.ofString "-1/2 of same"), V.str (Str.ofString "1/2of one")]) O9 hl9 hS10 rfl (by decide +kernel)
    generalize L2.upd (L2.upd H9 l9 (.lst [V.str (Str.ofString "1/0 of one"), V.str (Str.ofString "1/02 of one"), V.str (Str.ofString "1 / 2 of one"), V.str (Str.ofString "-1/2 of same"), V.str (Str.ofString "1/2of one")])) S10 (.lst ((A9.map fun l => V.str (Sg l)) ++ [V.str (Str.ofString "1/0 of one"), V.str (Str.ofString "1/02 of one"), V.str (Str.ofString "1 / 2 of one"), V.str (Str.ofString "-1/2 of same"), V.str (Str.ofString "1/2of one")])) = H10 at O10 ⊢
    generalize A9 ++ cpsL ["1/0 of one", "1/02 of one", "1 / 2 of one", "-1/2 of same", "1/2of one"] = A10 at O10
    replace O10 : OddS H H10 S10 48 A10 := O10
    refine ⟨_, rfl, (by show 2 ≤ sizeLine; decide), fun l10 hl10 => ⟨S10, l10, _, _, rfl, rfl, Same.upd hl10 _ _ O10.at_, upd_same, Nat.le_of_lt (small1000 (by rw [List.length_map, O10.len]; decide)), fun S11 hS11 => ?_⟩⟩
    have O11 := odd_step (ss := ["1/2 on one", "2 3 of one"]) (vs := [V.str (Str.ofString "1/2 on one"), V.str (Str.ofString "2 3 of one")]) O10 hl10 hS11 rfl (by decide +kernel)
    generalize L2.upd (L2.upd H10 l10 (.lst [V.str (Str.ofString "1/2 on one"), V.str (Str.ofString "2 3 of one")])) S11 (.lst ((A10.map fun l => V.str (Sg l)) ++ [V.str (Str.ofString "1/2 on one"), V.str (Str.ofString "2 3 of one")])) = H11 at O11 ⊢
    generalize A10 ++ cpsL ["1/2 on one", "2 3 of one"] = A11 at O11
    replace O11 : OddS H H11 S11 50 A11 := O11
    refine ⟨_, rfl, (by show 10 ≤ sizeLine; decide), fun l11 hl11 => ⟨S11, l11, _, _, rfl, rfl, Same.upd hl11 _ _ O11.at_, upd_same, Nat.le_of_lt (small1000 (by rw [List.length_map, O11.len]; decide)), fun S12 hS12 => ?_⟩⟩
    have O12 := odd_step (ss := ["o", "oo", "o()", "o(o", "o(o)", "o(o o)", "o( o)", "o(o  o)", "o(o,o)", "3"]) (vs := [V.str (Str.ofString "o"), V.str (Str.ofString "oo"), V.str (Str.ofString "o()"), V.str (Str.ofString "o(o"), V.str (Str.ofString "o(o)"), V.str (Str.ofString "o(o o)"), V.str (Str.ofString "o( o)"), V.str (Str.ofString "o(o  o)"), V.str (Str.ofString "o(o,o)"), V.str (Str.ofString "3")]) O11 hl11 hS12 rfl (by decide +kernel)
    generalize L2.upd (L2.upd H11 l11 (.lst [V.str (Str.ofString "o"), V.str (Str.ofString "oo"), V.str (Str.ofString "o()"), V.str (Str.ofString "o(o"), V.str (Str.ofString "o(o)"), V.str (Str.ofString "o(o o)"), V.str (Str.ofString "o( o)"), V.str (Str.ofString "o(o  o)"), V.str (Str.ofString "o(o,o)"), V.str (Str.ofString "3")])) S12 (.lst ((A11.map fun l => V.str (Sg l)) ++ [V.str (Str.ofString "o"), V.str (Str.ofString "oo"), V.str (Str.ofString "o()"), V.str (Str.ofString "o(o"), V.str (Str.ofString "o(o)"), V.str (Str.ofString "o(o o)"), V.str (Str.ofString "o( o)"), V.str (Str.ofString "o(o  o)"), V.str (Str.ofString "o(o,o)"), V.str (Str.ofString "3")])) = H12 at O12 ⊢
    generalize A11 ++ cpsL ["o", "oo", "o()", "o(o", "o(o)", "o(o o)", "o( o)", "o(o  o)", "o(o,o)", "3"] = A12 at O12
    replace O12 : OddS H H12 S12 60 A12 := O12
    refine ⟨_, rfl, (by show 4 ≤ sizeLine; decide), fun l12 hl12 => ⟨S12, l12, _, _, rfl, rfl, Same.upd hl12 _ _ O12.at_, upd_same, Nat.le_of_lt (small1000 (by rw [List.length_map, O12.len]; decide)), fun S13 hS13 => ?_⟩⟩
    have O13 := odd_step (ss := ["-3", "03", "3(4 o(5))", "O"]) (vs := [V.str (Str.ofString "-3"), V.str (Str.ofString "03"), V.str (Str.ofString "3(4 o(5))"), V.str (Str.ofString "O")]) O12 hl12 hS13 rfl (by decide +kernel)
    generalize L2.upd (L2.upd H12 l12 (.lst [V.str (Str.ofString "-3"), V.str (Str.ofString "03"), V.str (Str.ofString "3(4 o(5))"), V.str (Str.ofString "O")])) S13 (.lst ((A12.map fun l => V.str (Sg l)) ++ [V.str (Str.ofString "-3"), V.str (Str.ofString "03"), V.str (Str.ofString "3(4 o(5))"), V.str (Str.ofString "O")])) = H13 at O13 ⊢
    generalize A12 ++ cpsL ["-3", "03", "3(4 o(5))", "O"] = A13 at O13
    replace O13 : OddS H H13 S13 64 A13 := O13
    refine ⟨_, rfl, [57], 60, lit_nine, rfl, by decide, by decide, by decide, [57], 61, lit_nine, rfl, by decide, by decide, by decide, [57], 60, lit_nine, rfl, by decide, by decide, by decide, _, _, rfl, rfl, by decide +kernel, [57], 61, lit_nine, rfl, by decide, by decide, by decide, _, _, rfl, rfl, by decide +kernel, (by show 4 ≤ sizeLine; decide), fun l13 hl13 => ⟨S13, l13, _, _, rfl, rfl, Same.upd hl13 _ _ O13.at_, upd_same, Nat.le_of_lt (small1000 (by rw [List.length_map, O13.len]; decide)), fun S14 hS14 => ?_⟩⟩
    have O14 := odd_stepL (B := ninL) (vs := [V.str (Sg (List.replicate 60 [57]).flatten), V.str (Sg (List.replicate 61 [57]).flatten), V.str (Str.ofString "hue " ++ Sg (List.replicate 60 [57]).flatten), V.str (Str.ofString "hue " ++ Sg (List.replicate 61 [57]).flatten)]) O13 hl13 hS14 nin_is (by decide +kernel)
    generalize L2.upd (L2.upd H13 l13 (.lst [V.str (Sg (List.replicate 60 [57]).flatten), V.str (Sg (List.replicate 61 [57]).flatten), V.str (Str.ofString "hue " ++ Sg (List.replicate 60 [57]).flatten), V.str (Str.ofString "hue " ++ Sg (List.replicate 61 [57]).flatten)])) S14 (.lst ((A13.map fun l => V.str (Sg l)) ++ [V.str (Sg (List.replicate 60 [57]).flatten), V.str (Sg (List.replicate 61 [57]).flatten), V.str (Str.ofString "hue " ++ Sg (List.replicate 60 [57]).flatten), V.str (Str.ofString "hue " ++ Sg (List.replicate 61 [57]).flatten)])) = H14 at O14 ⊢
    generalize A13 ++ ninL = A14 at O14
    replace O14 : OddS H H14 S14 68 A14 := O14
    refine ⟨_, rfl, (by show 2 ≤ sizeLine; decide), fun l14 hl14 => ⟨S14, l14, _, _, rfl, rfl, Same.upd hl14 _ _ O14.at_, upd_same, Nat.le_of_lt (small1000 (by rw [List.length_map, O14.len]; decide)), fun S15 hS15 => ?_⟩⟩
    have O15 := odd_step (ss := ["1/2 of 3 of (one * 1/3 of hue 7)", "((one + one))"]) (vs := [V.str (Str.ofString "1/2 of 3 of (one * 1/3 of hue 7)"), V.str (Str.ofString "((one + one))")]) O14 hl14 hS15 rfl (by decide +kernel)
    generalize L2.upd (L2.upd H14 l14 (.lst [V.str (Str.ofString "1/2 of 3 of (one * 1/3 of hue 7)"), V.str (Str.ofString "((one + one))")])) S15 (.lst ((A14.map fun l => V.str (Sg l)) ++ [V.str (Str.ofString "1/2 of 3 of (one * 1/3 of hue 7)"), V.str (Str.ofString "((one + one))")])) = H15 at O15 ⊢
    generalize A14 ++ cpsL ["1/2 of 3 of (one * 1/3 of hue 7)", "((one + one))"] = A15 at O15
    replace O15 : OddS H H15 S15 70 A15 := O15
    exact q _ _ _ O15.same O15.at_ O15.good (by rw [O15.len]; decide)
end
section
variable {P : Program} {w : World} {K : PySem.W.Frag} {mg : Str → Option Value} {base : Heap}
open TM
structure ClsOf (K : PySem.W.Frag) (mg : Str → Option Value) (CN : Addr) (x : Str) (b : Bool) : Prop where
  ex : ∃ C : Addr, mg x = some (.ref C) ∧ PySem.W.kitOne K (.ref CN) (.ref C) = some b
def spIs (CN : Addr) : Sp := fun vs H Q _ => ∃ (a : Addr) (dd : Option Addr), vs = [.ref a, .int 3] ∧ H a = some (excHO a CN dd) ∧ ∀ H', Same H H' → Q (.bl true) H'
abbrev nIs : List Str := ["_law_caught_here", "_law_at", "_law_told"]
theorem scIs : FnScope nIs ["_law_caught_here", "_law_at"] (defScope sIs) := ⟨rfl, rfl, rfl, by decide +kernel, rfl, by decide +kernel, by decide +kernel⟩
def cmpR (s : Stmt) : Expr := match s with
  | .Return (some (.BoolOp _ (.Compare _ _ [b] _ :: _) _)) _ => b
  | _ => .Constant .none 0 ⟨0, 0, 0, 0⟩
theorem lcIs : LcScopes (defScope sIs) nIs (lcScope (cmpR (bodyAt sIs 2))) ["_law_k"] := ⟨by decide +kernel, rfl, by decide +kernel, by decide +kernel, by decide +kernel, by decide +kernel, by decide +kernel, by decide +kernel, by decide +kernel, by decide +kernel⟩
theorem boot_verr : bootBuiltins "ValueError" = some (.type "ValueError") := by decide +kernel
theorem das_bls {ok : Addr → Prop} {H : Hp} : ∀ ns : List Bool, DAs K ok H (ns.map V.bl) (ns.map .bool)
  | [] => .nil
  | n :: ns => .cons (.bl n) (das_bls ns)
theorem ok_is {f CN : Addr} {fd : FuncData} {bmN : List Value} (B : BltX mg) (bv : mg "ValueError" = none) (ZN : ExcW K CN bmN) (c1 : ClsOf K mg CN "NoWeb" false) (c2 : ClsOf K mg CN "NoStep" false) (c3 : ClsOf K mg CN "NoOrder" false) (c4 : ClsOf K mg CN "NoText" true) (c5 : ClsOf K mg CN "NoName" false) (c6 : ClsOf K mg CN "NoLine" false)
    (hv : PySem.W.kitOne K (.ref CN) (.type "ValueError") = some true) (F : Fun K "_law_is" "_law_is" sIs f fd) : FnOk P w K mg base CX0 1 f fd ["_law_caught_here", "_law_at"] (spIs CN) := by
  obtain ⟨C1, g1, k1⟩ := c1.ex
  obtain ⟨C2, g2, k2⟩ := c2.ex
  obtain ⟨C3, g3, k3⟩ := c3.ex
  obtain ⟨C4, g4, k4⟩ := c4.ex
  obtain ⟨C5, g5, k5⟩ := c5.ex
  obtain ⟨C6, g6, k6⟩ := c6.ex
  refine F.ok scIs (fun vs H Q E h => ?_) (fun cdv A outer s H vs Q E hr h => ?_)
  · obtain ⟨a, dd, rfl, _⟩ := h
    rfl
  · obtain ⟨a, dd, rfl, ha, q⟩ := h
    refine ⟨_, pss_cons (ps_set (i := 2) scIs.nd rfl (Or.inl rfl) (pe_lst (pa_cons (pe_callB (call_isinstX ZN) (by rfl) B.isi boot_isinstance (pa_cons (pv 0) (pa_cons (pe_glob (v := .ref C1) rfl g1 rfl) pa_nil))) (pa_cons (pe_callB (call_isinstX ZN) (by rfl) B.isi boot_isinstance (pa_cons (pv 0) (pa_cons (pe_glob (v := .ref C2) rfl g2 rfl) pa_nil))) (pa_cons (pe_callB (call_isinstX ZN) (by rfl) B.isi boot_isinstance (pa_cons (pv 0) (pa_cons (pe_glob (v := .ref C3) rfl g3 rfl) pa_nil))) pa_nil)))))
      (pss_cons (ps_set (i := 2) scIs.nd rfl (Or.inl rfl) (pe_op op_cat (pv 2) (pe_lst (pa_cons (pe_callB (call_isinstX ZN) (by rfl) B.isi boot_isinstance (pa_cons (pv 0) (pa_cons (pe_glob (v := .ref C4) rfl g4 rfl) pa_nil))) (pa_cons (pe_callB (call_isinstX ZN) (by rfl) B.isi boot_isinstance (pa_cons (pv 0) (pa_cons (pe_glob (v := .ref C5) rfl g5 rfl) pa_nil))) (pa_cons (pe_callB (call_isinstX ZN) (by rfl) B.isi boot_isinstance (pa_cons (pv 0) (pa_cons (pe_glob (v := .ref C6) rfl g6 rfl) pa_nil))) pa_nil))))))
      (pss_one (ps_ret (pe_and (pe_cmpR (op_eqD hr.units) (pv 2) (pe_lc1 rfl lcIs rfl (pi_range1 rfl B.range (pa_cons pe_int pa_nil)) (fun _ _ _ => pe_cmpR op_eq (pv 3) (pv 1) (nomark _))) (nomark _)) (pe_one (pe_callB (call_isinstX ZN) (by rfl) B.isi boot_isinstance (pa_cons (pv 0) (pa_cons (pe_bltn (v := .ty "ValueError") rfl bv boot_verr rfl) pa_nil)))))))), ?_⟩
    refine ⟨_, rfl, a, dd, _, _, _, rfl, ha, rfl, k1, _, rfl, a, dd, _, _, _, rfl, ha, rfl, k2, _, rfl, a, dd, _, _, _, rfl, ha, rfl, k3, (by show 3 ≤ sizeLine; decide), fun l1 hl1 => ?_⟩
    have s1 : Same H (L2.upd H l1 (.lst [.bl false, .bl false, .bl false])) := Same.upd hl1
    have e1 : L2.upd H l1 (.lst [.bl false, .bl false, .bl false]) l1 = some (.lst [.bl false, .bl false, .bl false]) := upd_same
    generalize L2.upd H l1 (.lst [.bl false, .bl false, .bl false]) = H1 at s1 e1 ⊢
    have ha1 := s1 _ _ ha
    refine ⟨_, rfl, _, rfl, a, dd, _, _, _, rfl, ha1, rfl, k4, _, rfl, a, dd, _, _, _, rfl, ha1, rfl, k5, _, rfl, a, dd, _, _, _, rfl, ha1, rfl, k6, (by show 3 ≤ sizeLine; decide), fun l2 hl2 => ?_⟩
    have s2 : Same H1 (L2.upd H1 l2 (.lst [.bl true, .bl false, .bl false])) := Same.upd hl2
    have e2 : L2.upd H1 l2 (.lst [.bl true, .bl false, .bl false]) l2 = some (.lst [.bl true, .bl false, .bl false]) := upd_same
    generalize L2.upd H1 l2 (.lst [.bl true, .bl false, .bl false]) = H2 at s2 e2 ⊢
    refine ⟨l1, l2, _, _, rfl, rfl, s2 _ _ e1, e2, (by show 6 ≤ sizeLine; decide), fun l3 hl3 => ?_⟩
    have s3 : Same H2 (L2.upd H2 l3 (.lst ([.bl false, .bl false, .bl false] ++ [.bl true, .bl false, .bl false]))) := Same.upd hl3
    have e3 : L2.upd H2 l3 (.lst ([.bl false, .bl false, .bl false] ++ [.bl true, .bl false, .bl false])) l3 = some (.lst ([false, false, false, true, false, false].map V.bl)) := upd_same
    generalize L2.upd H2 l3 (.lst ([.bl false, .bl false, .bl false] ++ [.bl true, .bl false, .bl false])) = H3 at s3 e3 ⊢
    have t3 := (s1.trans s2).trans s3
    refine ⟨_, rfl, 6, rfl, by decide, by decide, fun D hD => ?_⟩
    refine lc_range (lo := 0) (n := 6) (fun i ys H' => ys = ((List.range i).map fun k => V.bl (k == 3)) ∧ H' = upd H3 D (.lst ys)) ⟨rfl, rfl⟩ (fun i ys H' _ ⟨_, e⟩ => by rw [e]; exact upd_same) ?_ ?_ ?_
    · rintro i ys H4 hi ⟨rfl, rfl⟩
      refine ⟨_, rfl, _, rfl, rfl, upd_same, small1000 (by rw [List.length_map, List.length_range]; omega), ?_, by rw [upd_upd]⟩
      rw [List.range_succ, List.map_append]
      congr 2
      match i, hi with
      | 0, _ => rfl
      | 1, _ => rfl
      | 2, _ => rfl
      | 3, _ => rfl
      | 4, _ => rfl
      | 5, _ => rfl
    · rintro ys H4 ⟨rfl, rfl⟩
      have s4 : Same H3 (L2.upd H3 D (.lst ((List.range 6).map fun k => V.bl (k == 3)))) := Same.upd hD
      have e4 : L2.upd H3 D (.lst ((List.range 6).map fun k => V.bl (k == 3))) D = some (.lst ([false, false, false, true, false, false].map V.bl)) := upd_same
      generalize L2.upd H3 D (.lst ((List.range 6).map fun k => V.bl (k == 3))) = H5 at s4 e4 ⊢
      refine ⟨.list ([false, false, false, true, false, false].map .bool), .list ([false, false, false, true, false, false].map .bool), .lst trivial (SqL.of (s4 _ _ e3)) (das_bls _), .lst trivial (SqL.of e4) (das_bls _), ⟨rfl, rfl, by decide⟩, true, rfl, iteT ?_⟩
      exact ⟨_, rfl, a, dd, _, _, _, rfl, s4 _ _ (t3 _ _ ha), rfl, hv, q _ (t3.trans s4)⟩
    · rintro σ H' Q1 Q2 hq ⟨v, x1, v2, x2, x3, x4⟩
      exact ⟨v, x1, v2, x2, x3, hq _ _ x4⟩
def rdT (s : Bool) (t : List Nat) : Option PyData := match pT 20 s t with
  | some (te, []) => some te.dat
  | _ => none
def rdR (t : List Nat) : Option PyData := match pTr 20 t with
  | some (tr, []) => some tr.dat
  | _ => none
theorem rdT_no {s : Bool} {t : List Nat} (h : ∀ te, pT 20 s t ≠ some (te, [])) : rdT s t = none := by
  unfold rdT
  split
  · rename_i te e
    exact absurd e (h te)
  · rfl
theorem rdR_no {t : List Nat} (h : ∀ te, pTr 20 t ≠ some (te, [])) : rdR t = none := by
  unfold rdR
  split
  · rename_i te e
    exact absurd e (h te)
  · rfl
def rd (k : Int) (t : List Nat) : Option PyData := if k = 0 then rdT false t else if k = 1 then rdT true t else rdR t
structure Cgt (K : PySem.W.Frag) (CT : Addr) (x : Option PyData) (H : Hp) (Q : VK) : Prop where
  yes : ∀ d, x = some d → ∀ v p H', Same H H' → H' p = some (.tup [v, .non]) → DA K any H' v d → Q (.ref p) H'
  no : x = none → ∀ p a dd H', Same H H' → H' p = some (.tup [.non, .ref a]) → H' a = some (excHO a CT dd) → Q (.ref p) H'
def spCaught (K : PySem.W.Frag) (CT : Addr) : Sp := fun vs H Q _ => ∃ (k : Int) (t : List Nat), vs = [.int k, .str (Sg t)] ∧ t.length ≤ 90000 ∧ (∀ c ∈ t, c < 128) ∧ Cgt K CT (rd k t) H Q
abbrev nCaught : List Str := ["_law_kind", "_law_text_here", "_law_found", "_law_caught_here", "e"]
abbrev aCaught : List Str := ["_law_kind", "_law_text_here"]
theorem scCaught : FnScope nCaught aCaught (defScope sCaught) := ⟨rfl, rfl, rfl, by decide +kernel, rfl, by decide +kernel, by decide +kernel⟩
theorem ok_caught {f fA fB fR CT CK : Addr} {fd fdA fdB fdR : FuncData} {bmT bmK : List Value} (ZT : ExcW K CT bmT) (ZK : ExcW K CK bmK) (hin : bmT.contains (.ref CK) = true) (hK : mg "KinError" = some (.ref CK)) (F : Fun K "_law_caught" "_law_caught" sCaught f fd)
    (DA' : Dn K mg "read_term" sReadTerm ["text"] fA fdA) (GA : FnOk P w K mg base (CXd P w) 48 fA fdA ["text"] (spReadTe K CT false))
    (DB : Dn K mg "read_table" sReadTable ["text"] fB fdB) (GB : FnOk P w K mg base (CXd P w) 48 fB fdB ["text"] (spReadTe K CT true))
    (DR : Dn K mg "read_tree" sReadTree ["text"] fR fdR) (GR : FnOk P w K mg base (CXd P w) 24 fR fdR ["text"] (spReadTr K CT)) : FnOk P w K mg base CX0 49 f fd aCaught (spCaught K CT) := by
  refine F.ok scCaught (fun vs H Q E h => ?_) (fun cdv A outer s H vs Q E hr h => ?_)
  · obtain ⟨k, t, rfl, _⟩ := h
    rfl
  · obtain ⟨k, t, rfl, hz, hc, q⟩ := h
    refine ⟨_, pss_cons (ps_set (i := 2) scCaught.nd rfl (Or.inl rfl) pe_non)
      (pss_cons (ps_set (i := 3) scCaught.nd rfl (Or.inl rfl) pe_non)
      (pss_cons (ps_tryB (i := 4) rfl rfl rfl (py_if (pt_cmpR op_eq (pv 0) pe_int (nomark _)) (py_set (i := 2) scCaught.nd rfl (Or.inl rfl) DA' GA hr rfl (pa_cons (pv 1) pa_nil)) (py_if (pt_cmpR op_eq (pv 0) pe_int (nomark _)) (py_set (i := 2) scCaught.nd rfl (Or.inl rfl) DB GB hr rfl (pa_cons (pv 1) pa_nil)) (py_set (i := 2) scCaught.nd rfl (Or.inl rfl) DR GR (hr.mono (by decide)) rfl (pa_cons (pv 1) pa_nil))))
          ZK rfl hK scCaught.nd rfl rfl (fun a => pss_one (ps_set (i := 3) scCaught.nd rfl (Or.inl rfl) (pv 4))))
      (pss_one (ps_ret (pe_tup (pa_cons (pv 2) (pa_cons (pv 3) pa_nil))))))), ?_⟩
    have bad : rd k t = none → ∀ H1, Same H H1 → ∃ C bm, (Value.ref CT : Value) = .ref C ∧ ExcW K C bm ∧ (Value.ref C :: bm).contains (.ref CK) = true ∧ ∀ a, H1 a = none → ∀ p, L2.upd H1 a (excHO a C none) p = none → Q (.ref p) (L2.upd (L2.upd H1 a (excHO a C none)) p (.tup [.non, .ref a])) := fun no H1 s1 => by
      refine ⟨CT, bmT, rfl, ZT, by rw [List.contains_cons, hin, Bool.or_true], fun a ha p hp => ?_⟩
      have np : a ≠ p := fun e => by rw [e, upd_same] at hp; cases hp
      exact q.no no p a none _ ((s1.trans (Same.upd ha)).trans (Same.upd hp)) upd_same (by rw [upd_ne np]; exact upd_same)
    have good : ∀ d v H1, rd k t = some d → Same H H1 → DA K any H1 v d → ∀ p, H1 p = none → Q (.ref p) (L2.upd H1 p (.tup [v, .non])) := fun d v H1 e s1 dv p hp =>
      q.yes d e v p _ (s1.trans (Same.upd hp)) upd_same (DA.same dv (Same.upd hp))
    have sz2 : 2 ≤ sizeLine := by decide
    refine ⟨_, rfl, rfl, _, rfl, ite2 (fun h0 => ?_) (fun h0 => ?_)⟩
    · rw [decide_eq_true_iff] at h0
      have k0 : k = 0 := V.int.inj h0
      have e : rd k t = rdT false t := by unfold rd; rw [if_pos k0]
      refine ⟨_, rfl, t, rfl, hz, hc, ⟨fun te et v H1 s1 dv => ?_, fun no H1 s1 => ?_⟩⟩
      · exact ⟨_, rfl, _, rfl, sz2, fun p hp => good te.dat v H1 (by rw [e]; unfold rdT; rw [et]) s1 dv p hp⟩
      · obtain ⟨C, bm, h1, h2, h3, h4⟩ := bad (by rw [e]; exact rdT_no no) H1 s1
        exact ⟨C, bm, h1, h2, h3, fun a ha => ⟨_, rfl, _, rfl, _, rfl, sz2, fun p hp => h4 a ha p hp⟩⟩
    have k0 : k ≠ 0 := fun z => h0 (by rw [decide_eq_true_iff, z])
    refine ⟨_, rfl, rfl, _, rfl, ite2 (fun h1 => ?_) (fun h1 => ?_)⟩
    · rw [decide_eq_true_iff] at h1
      have k1 : k = 1 := V.int.inj h1
      have e : rd k t = rdT true t := by unfold rd; rw [if_neg k0, if_pos k1]
      refine ⟨_, rfl, t, rfl, hz, hc, ⟨fun te et v H1 s1 dv => ?_, fun no H1 s1 => ?_⟩⟩
      · exact ⟨_, rfl, _, rfl, sz2, fun p hp => good te.dat v H1 (by rw [e]; unfold rdT; rw [et]) s1 dv p hp⟩
      · obtain ⟨C, bm, h1, h2, h3, h4⟩ := bad (by rw [e]; exact rdT_no no) H1 s1
        exact ⟨C, bm, h1, h2, h3, fun a ha => ⟨_, rfl, _, rfl, _, rfl, sz2, fun p hp => h4 a ha p hp⟩⟩
    · have k1 : k ≠ 1 := fun z => h1 (by rw [decide_eq_true_iff, z])
      have e : rd k t = rdR t := by unfold rd; rw [if_neg k0, if_neg k1]
      refine ⟨_, rfl, t, rfl, hz, hc, ⟨fun te et v H1 s1 dv _ => ?_, fun no H1 s1 => ?_⟩⟩
      · exact ⟨_, rfl, _, rfl, sz2, fun p hp => good te.dat v H1 (by rw [e]; unfold rdR; rw [et]) s1 (dv.mono (Keep.refl _ _) fun _ _ => trivial) p hp⟩
      · obtain ⟨C, bm, h1, h2, h3, h4⟩ := bad (by rw [e]; exact rdR_no no) H1 s1
        exact ⟨C, bm, h1, h2, h3, fun a ha => ⟨_, rfl, _, rfl, _, rfl, sz2, fun p hp => h4 a ha p hp⟩⟩
end
section
variable {P : Program} {w : World} {K : PySem.W.Frag} {mg : Str → Option Value} {base : Heap}
open TM
theorem rdT_yes {s : Bool} {t : List Nat} {d : PyData} (f : Few t) (h : rdT s t = some d) : ∃ te : Te, te.ok s ∧ t = teT te ∧ dep te ≤ 20 ∧ d = te.dat ∧ eT 40 s t = some [] := by
  have e : eT 40 s t = some [] := Decidable.byContradiction fun z => by rw [rdT_no (term_no z)] at h; cases h
  obtain ⟨te, a, b, c, g⟩ := term_yes f e
  refine ⟨te, a, b, c, ?_, e⟩
  unfold rdT at h
  rw [g] at h
  exact (Option.some.inj h).symm
theorem rdT_none {s : Bool} {t : List Nat} (f : Few t) (h : rdT s t = none) : eT 40 s t ≠ some [] := fun z => by
  obtain ⟨te, a, b, c, g⟩ := term_yes f z
  unfold rdT at h
  rw [g] at h
  cases h
theorem rdR_yes {t : List Nat} {d : PyData} (f : Few t) (h : rdR t = some d) : ∃ tr : Tr, tr.fit ∧ t = trT tr ∧ tr.deep ≤ 20 ∧ d = tr.dat ∧ tE 40 t = some [] := by
  have e : tE 40 t = some [] := Decidable.byContradiction fun z => by rw [rdR_no (tree_no z)] at h; cases h
  obtain ⟨tr, a, b, c, g⟩ := tree_yes f e
  refine ⟨tr, a, b, c, ?_, e⟩
  unfold rdR at h
  rw [g] at h
  exact ((Option.some.inj h).symm).trans (Tr.nrm_dat tr)
theorem rdR_none {t : List Nat} (f : Few t) (h : rdR t = none) : tE 40 t ≠ some [] := fun z => by
  obtain ⟨tr, a, b, c, g⟩ := tree_yes f z
  unfold rdR at h
  rw [g] at h
  cases h
theorem end_full {t : List Nat} {o : Option (List Nat)} (hs : ∀ r, o = some r → Suf t r) : endI t o = (t.length : Int) ↔ o = some [] := by
  cases o with
  | none => exact ⟨fun z => by have : (-1 : Int) = (t.length : Int) := z; omega, fun z => by cases z⟩
  | some r =>
    have := (hs r rfl).le
    constructor
    · intro z
      have z' : ((t.length - r.length : Nat) : Int) = (t.length : Int) := z
      rcases Nat.eq_zero_or_pos r.length with h | h
      · rw [List.length_eq_zero_iff.mp h]
      · omega
    · intro z
      cases z
      rfl
theorem eT_suf {n : Nat} {s : Bool} {t : List Nat} : ∀ r, eT n s t = some r → Suf t r := fun r h => by
  obtain ⟨te, _, e⟩ := eT_is _ _ _ _ h
  exact ⟨_, e⟩
theorem tE_suf {n : Nat} {t : List Nat} : ∀ r, tE n t = some r → Suf t r := fun r h => by
  obtain ⟨te, _, e⟩ := tE_is _ _ _ h
  exact ⟨_, e⟩
def endK (t : List Nat) (k : Nat) : Option (List Nat) := if k = 0 then eT 40 false t else if k = 1 then eT 40 true t else tE 40 t
theorem endK_suf {t : List Nat} {k : Nat} : ∀ r, endK t k = some r → Suf t r := by
  unfold endK
  split
  · exact eT_suf
  · split
    · exact eT_suf
    · exact tE_suf
theorem endK_yes {t : List Nat} {k : Nat} {d : PyData} (f : Few t) (h : rd (k : Int) t = some d) : endK t k = some [] := by
  unfold rd at h
  unfold endK
  split at h
  · rw [if_pos (by omega)]
    obtain ⟨_, _, _, _, _, e⟩ := rdT_yes f h
    exact e
  · rw [if_neg (by omega)]
    split at h
    · rw [if_pos (by omega)]
      obtain ⟨_, _, _, _, _, e⟩ := rdT_yes f h
      exact e
    · rw [if_neg (by omega)]
      obtain ⟨_, _, _, _, _, e⟩ := rdR_yes f h
      exact e
theorem endK_no {t : List Nat} {k : Nat} (f : Few t) (h : rd (k : Int) t = none) : endK t k ≠ some [] := by
  unfold rd at h
  unfold endK
  split at h
  · rw [if_pos (by omega)]
    exact rdT_none f h
  · rw [if_neg (by omega)]
    split at h
    · rw [if_pos (by omega)]
      exact rdT_none f h
    · rw [if_neg (by omega)]
      exact rdR_none f h
theorem endK_nil (k : Nat) : endK [] k ≠ some [] := by
  unfold endK
  split
  · exact fun z => by cases z
  · split
    · exact fun z => by cases z
    · exact fun z => by cases z
def spJudged : Sp := fun vs H Q _ => ∃ t : List Nat, vs = [.str (Sg t)] ∧ t.length ≤ 80000 ∧ (∀ c ∈ t, c < 128) ∧ Few t ∧ ∀ H', Same H H' → Q (.bl true) H'
abbrev nJudged : List Str := ["_law_text_here", "_law_ends", "_law_kind", "_law_found", "_law_caught_here"]
theorem scJudged : FnScope nJudged ["_law_text_here"] (defScope sJudged) := ⟨rfl, rfl, rfl, by decide +kernel, rfl, by decide +kernel, by decide +kernel⟩
theorem Few.mu {t : List Nat} (h : Few t) : mu (t.drop 0) < 40 := by
  rw [List.drop_zero]
  unfold My.mu
  have := h.1
  have := h.2
  omega
end
section
variable {P : Program} {w : World} {K : PySem.W.Frag} {mg : Str → Option Value} {base : Heap}
open TM
theorem ok_judged {f fE fT fC fI fX fR CT : Addr} {fd fdE fdT fdC fdI fdX fdR : FuncData} (B : BltX mg) (F : Fun K "_law_judged" "_law_judged" sJudged f fd)
    (DE : Dn K mg "_law_end" sEndT aEnd fE fdE) (GE : FnOk P w K mg base CX0 84 fE fdE aEnd (spEnd 40))
    (DT : Dn K mg "_law_tree_end" sTreeEnd aPartE fT fdT) (GT : FnOk P w K mg base CX0 43 fT fdT aPartE (spTE 40))
    (DC : Dn K mg "_law_caught" sCaught aCaught fC fdC) (GC : FnOk P w K mg base CX0 49 fC fdC aCaught (spCaught K CT))
    (DI : Dn K mg "_law_is" sIs ["_law_caught_here", "_law_at"] fI fdI) (GI : FnOk P w K mg base CX0 1 fI fdI ["_law_caught_here", "_law_at"] (spIs CT))
    (DX : Dn K mg "_law_text" sText aText fX fdX) (GX : FnOk P w K mg base CX0 21 fX fdX aText (spText K 20))
    (DR : Dn K mg "_law_tree_text" sTreeText ["_law_tree_here"] fR fdR) (GR : FnOk P w K mg base CX0 21 fR fdR ["_law_tree_here"] (spTrText K 20)) : FnOk P w K mg base CX0 85 f fd ["_law_text_here"] spJudged := by
  refine F.ok scJudged (fun vs H Q E h => ?_) (fun cdv A outer s H vs Q E hr h => ?_)
  · obtain ⟨t, rfl, _⟩ := h
    rfl
  · obtain ⟨t, rfl, hz, hc, fw, q⟩ := h
    have r1 := hr.mono (j := 1) (by decide)
    have r21 := hr.mono (j := 21) (by decide)
    have r43 := hr.mono (j := 43) (by decide)
    have r49 := hr.mono (j := 49) (by decide)
    refine ⟨_, pss_cons (ps_set (i := 1) scJudged.nd rfl (Or.inl rfl) (pe_lst (pa_cons (pe_fn DE GE hr rfl (pa_cons (pv 0) (pa_cons pe_int (pa_cons pe_bl pa_nil)))) (pa_cons (pe_fn DE GE hr rfl (pa_cons (pv 0) (pa_cons pe_int (pa_cons pe_bl pa_nil)))) (pa_cons (pe_fn DT GT r43 rfl (pa_cons (pv 0) (pa_cons pe_int pa_nil))) pa_nil)))))
      (pss_cons (ps_for PassesOwn.never rfl (pi_range1 rfl B.range (pa_cons pe_int pa_nil)) (pg_name (i := 2) scJudged.nd rfl (Or.inl rfl))
        (pss_cons (ps_asg (pe_fn DC GC r49 rfl (pa_cons (pv 2) (pa_cons (pv 0) pa_nil))) (pg_tup rfl (pgs_cons (pg_name (i := 3) scJudged.nd rfl (Or.inl rfl)) (pgs_cons (pg_name (i := 4) scJudged.nd rfl (Or.inl rfl)) pgs_nil))))
        (pss_one (ps_if (PW.pt (pw_or (pt_cmpR op_ne (pe_ix ix_list (pv 1) (pv 2) (fun _ _ => rfl)) (pe_callB call_len_str (by rfl) B.len PySem.boot_len (pa_cons (pv 0) pa_nil)) (nomark _)) (pw_or1 (pt_cmpR op_eq (pv 0) pe_str (nomark _)))))
          (pss_one (ps_if (pt_not (pt_val (pe_fn DI GI r1 rfl (pa_cons (pv 4) (pa_cons pe_int pa_nil))))) (pss_one (ps_ret pe_bl)) pss_nil))
          (pss_one (ps_if (PW.pt (pw_and (pt_cmpR op_eq (pv 2) pe_int (nomark _)) (pw_and1 (PW.pt (pw_or (pt_cmpR op_notN (pv 4) pe_non (nomark _)) (pw_or1 (pt_cmpR op_ne (pe_fn DR GR r21 rfl (pa_cons (pv 3) pa_nil)) (pv 0) (nomark _))))))))
            (pss_one (ps_ret pe_bl))
            (pss_one (ps_if (PW.pt (pw_and (pt_cmpR op_lt (pv 2) pe_int (nomark _)) (pw_and1 (PW.pt (pw_or (pt_cmpR op_notN (pv 4) pe_non (nomark _)) (pw_or1 (pt_cmpR op_ne (pe_fn DX GX r21 rfl (pa_cons (pv 3) (pa_cons (pe_cmpR op_eq (pv 2) pe_int (nomark _)) pa_nil))) (pv 0) (nomark _))))))))
              (pss_one (ps_ret pe_bl)) pss_nil))))))))
      (pss_one (ps_ret pe_bl))), ?_⟩
    have hz9 : t.length ≤ 90000 := by omega
    have szt : (Sg t).length ≤ sizeLine := by rw [Sg.len]; exact sz100 (by omega)
    have le : Str.ofString "" = Sg [] := by decide +kernel
    refine ⟨_, rfl, t, 0, true, rfl, Nat.zero_le _, hz9, hc, fw.mu, fun H1 s1 => ?_⟩
    refine ⟨_, rfl, t, 0, false, rfl, Nat.zero_le _, hz9, hc, fw.mu, fun H2 s2 => ?_⟩
    refine ⟨_, rfl, t, 0, rfl, Nat.zero_le _, hz9, hc, fw.mu, (by show 3 ≤ sizeLine; decide), fun L hL => ?_⟩
    have e3 : L2.upd H2 L (.lst [V.int (endI t (eT 40 (!true) (t.drop 0))), V.int (endI t (eT 40 (!false) (t.drop 0))), V.int (endI t (tE 40 (t.drop 0)))]) L = some (.lst ((List.range 3).map fun k => V.int (endI t (endK t k)))) := upd_same
    have s3 : Same H (L2.upd H2 L (.lst [V.int (endI t (eT 40 (!true) (t.drop 0))), V.int (endI t (eT 40 (!false) (t.drop 0))), V.int (endI t (tE 40 (t.drop 0)))])) := (s1.trans s2).trans (Same.upd hL)
    generalize L2.upd H2 L (.lst [V.int (endI t (eT 40 (!true) (t.drop 0))), V.int (endI t (eT 40 (!false) (t.drop 0))), V.int (endI t (tE 40 (t.drop 0)))]) = Hc at e3 s3 ⊢
    refine ⟨3, rfl, by decide, by decide, for_range (n := 3) (fun i σ H' => ∃ (o2 o3 o4 : Option V), σ = [some (.str (Sg t)), some (.ref L), o2, o3, o4] ∧ Same Hc H') ⟨none, none, none, rfl, Same.refl _⟩ ?_ ?_⟩
    · rintro i σ H3 hi ⟨o2, o3, o4, rfl, s4⟩
      have gi : ((List.range 3).map fun k => V.int (endI t (endK t k)))[i]? = some (.int (endI t (endK t i))) := by
        rw [List.getElem?_map, List.getElem?_range hi]
        rfl
      have fu := end_full (t := t) (o := endK t i) endK_suf
      have ei : (0 : Int) + (i : Int) = (i : Int) := Int.zero_add _
      rw [ei]
      refine ⟨_, rfl, _, rfl, (i : Int), t, rfl, hz9, hc, ⟨fun d ed v p H4 s5 ep dv => ?_, fun en p a dd H4 s5 ep ea => ?_⟩⟩
      · have full := fu.mpr (endK_yes fw ed)
        have tn : t ≠ [] := fun z => by
          have := endK_yes fw ed
          rw [z] at this
          exact endK_nil i this
        refine ⟨p, _, rfl, SqT.of ep, rfl, _, _, rfl, _, _, rfl, rfl, ?_⟩
        refine ⟨_, rfl, _, rfl, L, _, _, _, rfl, rfl, SqL.of (s5 _ _ (s4 _ _ e3)), atI_nat gi, _, rfl, Sg t, rfl, szt, rfl, _, rfl, iteNS (by rw [full, Sg.len]) ?_⟩
        refine ⟨_, rfl, rfl, _, rfl, itDN (fun z => tn ((str_iff le).mp z)) ?_⟩
        by_cases i2 : i = 2
        · subst i2
          obtain ⟨tr, a1, a2, a3, a4, a5⟩ := rdR_yes fw (show rdR t = some d from ed)
          have kn := (trT_cnt tr).2
          have f1 := fw.1
          have f2 := fw.2
          refine ⟨_, rfl, rfl, _, rfl, itDP rfl ?_⟩
          refine ⟨_, rfl, rfl, _, rfl, iteNS rfl ?_⟩
          refine ⟨_, rfl, v, tr, rfl, a4 ▸ dv, a3, a1, by rw [← a2] at kn; omega, by rw [← a2]; exact hz, fun H5 s6 => ?_⟩
          refine ⟨_, rfl, rfl, _, rfl, iteNS (by rw [← a2]) ?_⟩
          refine ⟨_, rfl, _, _, rfl, rfl, _, rfl, itDN (by decide) (iteF ?_)⟩
          exact ⟨_, _, _, rfl, s4.trans (s5.trans s6)⟩
        · obtain ⟨te, a1, a2, a3, a4⟩ : ∃ te : Te, te.fine ∧ t = teT te ∧ dep te ≤ 20 ∧ d = te.dat := by
            unfold rd at ed
            split at ed
            · obtain ⟨te, a1, a2, a3, a4, _⟩ := rdT_yes fw ed
              exact ⟨te, ⟨_, a1⟩, a2, a3, a4⟩
            · split at ed
              · obtain ⟨te, a1, a2, a3, a4, _⟩ := rdT_yes fw ed
                exact ⟨te, ⟨_, a1⟩, a2, a3, a4⟩
              · omega
          refine ⟨_, rfl, rfl, _, rfl, itDN (fun z => i2 (by have := V.int.inj z; omega)) (iteF ?_)⟩
          refine ⟨_, rfl, _, _, rfl, rfl, _, rfl, itDP (by omega) ?_⟩
          refine ⟨_, rfl, rfl, _, rfl, iteNS rfl ?_⟩
          refine ⟨_, rfl, _, rfl, rfl, v, te, _, rfl, a4 ▸ dv, a1, a3, by rw [← a2]; exact hz, fun H5 s6 => ?_⟩
          refine ⟨_, rfl, rfl, _, rfl, iteNS (by rw [← a2]) ?_⟩
          exact ⟨_, _, _, rfl, s4.trans (s5.trans s6)⟩
      · have nf : endI t (endK t i) ≠ (t.length : Int) := fun z => endK_no fw en (fu.mp z)
        refine ⟨p, _, rfl, SqT.of ep, rfl, _, _, rfl, _, _, rfl, rfl, ?_⟩
        refine ⟨_, rfl, _, rfl, L, _, _, _, rfl, rfl, SqL.of (s5 _ _ (s4 _ _ e3)), atI_nat gi, _, rfl, Sg t, rfl, szt, rfl, _, rfl, iteNP (fun z => nf (by have := V.int.inj z; rwa [Sg.len] at this)) ?_⟩
        refine ⟨_, rfl, a, dd, rfl, ea, fun H5 s6 => ⟨_, rfl, iteF ?_⟩⟩
        exact ⟨_, _, _, rfl, s4.trans (s5.trans s6)⟩
    · rintro σ H3 ⟨_, _, _, rfl, s4⟩
      exact q _ (s3.trans s4)
end
section
variable {P : Program} {w : World} {K : PySem.W.Frag} {mg : Str → Option Value} {base : Heap}
open TM
def spLaw (K : PySem.W.Frag) : Sp := fun vs H Q _ => ∃ (a : Addr) (ns : List Int), vs = [.ref a] ∧ SqL K H a (ns.map V.int) ∧ ns.length ≤ 63 ∧ ∀ H', Q (.bl true) H'
structure Beg (t : List Nat) : Prop where
  len : t.length ≤ 4000
  asc : ∀ c ∈ t, c < 128
  s0 : S0 t
theorem beg_te {te : Te} {s : Bool} (ok : te.ok s) (hz : te.size ≤ 8) : Beg (teT te) := by
  obtain ⟨c1, c2, c3⟩ := teT_cnt te
  have l := teT_len te s ok
  exact ⟨by omega, teT_asc te, by omega, by omega, .inr (by omega)⟩
theorem beg_tr {t : Tr} (ok : t.fit) (hz : t.knots ≤ 8) : Beg (trT t) := by
  obtain ⟨c1, c2⟩ := trT_cnt t
  have l := trT_len t ok
  exact ⟨by omega, trT_asc t, by omega, by omega, by omega⟩
theorem das_ix {ok : Addr → Prop} {H : Hp} : ∀ {ws : List V} {rs : List Te}, DAs K ok H ws (rs.map Te.dat) → ws.length = rs.length ∧ ∀ (i : Nat) (x : V), ws[i]? = some x → ∃ t, rs[i]? = some t ∧ DA K ok H x t.dat
  | [], [], _ => ⟨rfl, fun i x h => by simp at h⟩
  | y :: ws, t :: rs, h => by
    cases h with
    | cons h1 h2 =>
      obtain ⟨l, g⟩ := das_ix h2
      refine ⟨by rw [List.length_cons, List.length_cons, l], fun i x hx => ?_⟩
      cases i with
      | zero => cases hx; exact ⟨t, rfl, h1⟩
      | succ i => exact g i x hx
theorem drw_sm {H H' : Hp} {d : Addr} {n : Nat} (D : Drw H d n) (s : Same H H') : Drw H' d n := let ⟨x, y, z, e, h⟩ := D; ⟨x, y, z, s _ _ e, h⟩
abbrev nLaw : List Str := ["_law_script", "_law_cell", "_law_draw", "_law_rows", "_law_tables", "_law_texts", "_law_text_here", "_law_time"]
theorem scLaw : FnScope nLaw ["_law_script"] (defScope sLaw) := ⟨rfl, rfl, rfl, by decide +kernel, rfl, by decide +kernel, by decide +kernel⟩
def txA (s : Stmt) : Expr := match s with
  | .For _ _ (_ :: _ :: .Assign _ (.BinOp a _ _ _) _ :: _) _ _ => a
  | _ => .Constant .none 0 ⟨0, 0, 0, 0⟩
def txB (s : Stmt) : Expr := match s with
  | .For _ _ (_ :: _ :: .Assign _ (.BinOp _ _ b _) _ :: _) _ _ => b
  | _ => .Constant .none 0 ⟨0, 0, 0, 0⟩
theorem lcA : LcScopes (defScope sLaw) nLaw (lcScope (txA (bodyAt sLaw 0))) ["_law_term"] := ⟨by decide +kernel, rfl, by decide +kernel, by decide +kernel, by decide +kernel, by decide +kernel, by decide +kernel, by decide +kernel, by decide +kernel, by decide +kernel⟩
theorem lcB : LcScopes (defScope sLaw) nLaw (lcScope (txB (bodyAt sLaw 0))) ["_law_term"] := ⟨by decide +kernel, rfl, by decide +kernel, by decide +kernel, by decide +kernel, by decide +kernel, by decide +kernel, by decide +kernel, by decide +kernel, by decide +kernel⟩
theorem ok_law {f fB fT fG fX fY fR fJ fU fO : Addr} {fd fdB fdT fdG fdX fdY fdR fdJ fdU fdO : FuncData} (B : BltX mg) (F : Fun K "law" "law" sLaw f fd)
    (DB : Dn K mg "_law_begun" sBegun ["_law_cell"] fB fdB) (GB : FnOk P w K mg base CX0 1 fB fdB ["_law_cell"] spBegun)
    (DT : Dn K mg "_law_take" sTake ["_law_draw", "_law_most"] fT fdT) (GT : FnOk P w K mg base CX0 2 fT fdT ["_law_draw", "_law_most"] spTake)
    (DG : Dn K mg "_law_grown" sGrown ["_law_draw", "_law_many"] fG fdG) (GG : FnOk P w K mg base CX0 5 fG fdG ["_law_draw", "_law_many"] (spGrown K))
    (DX : Dn K mg "_law_text" sText aText fX fdX) (GX : FnOk P w K mg base CX0 21 fX fdX aText (spText K 20))
    (DY : Dn K mg "_law_tree_text" sTreeText ["_law_tree_here"] fY fdY) (GY : FnOk P w K mg base CX0 21 fY fdY ["_law_tree_here"] (spTrText K 20))
    (DR : Dn K mg "_law_tree" sTree ["_law_draw", "_law_many"] fR fdR) (GR : FnOk P w K mg base CX0 3 fR fdR ["_law_draw", "_law_many"] (spTree K))
    (DJ : Dn K mg "_law_judged" sJudged ["_law_text_here"] fJ fdJ) (GJ : FnOk P w K mg base CX0 85 fJ fdJ ["_law_text_here"] spJudged)
    (DU : Dn K mg "_law_bent" sBent aBent fU fdU) (GU : FnOk P w K mg base CX0 3 fU fdU aBent spBent)
    (DO : Dn K mg "_law_odd" sOdd [] fO fdO) (GO : FnOk P w K mg base CX0 1 fO fdO [] spOdd) : FnOk P w K mg base CX0 86 f fd ["_law_script"] (spLaw K) := by
  refine F.ok scLaw (fun vs H Q E h => ?_) (fun cdv A outer s H vs Q E hr h => ?_)
  · obtain ⟨a, ns, rfl, _⟩ := h
    rfl
  · obtain ⟨a, ns, rfl, hSc, hlen, k⟩ := h
    have r1 := hr.mono (j := 1) (by decide)
    have r2 := hr.mono (j := 2) (by decide)
    have r3 := hr.mono (j := 3) (by decide)
    have r5 := hr.mono (j := 5) (by decide)
    have r21 := hr.mono (j := 21) (by decide)
    refine ⟨_, pss_cons (ps_for PassesOwn.never rfl (pi_list (pe_op op_cat (pe_slice sl_list (pv 0) po_none (po_some pe_int)) (pe_lst (pa_cons pe_int pa_nil)))) (pg_name (i := 1) scLaw.nd rfl (Or.inl rfl))
        (pss_cons (ps_set (i := 2) scLaw.nd rfl (Or.inl rfl) (pe_fn DB GB r1 rfl (pa_cons (pv 1) pa_nil)))
        (pss_cons (ps_asg (pe_fn DG GG r5 rfl (pa_cons (pv 2) (pa_cons (pe_op op_add pe_int (pe_fn DT GT r2 rfl (pa_cons (pv 2) (pa_cons pe_int pa_nil)))) pa_nil))) (pg_tup rfl (pgs_cons (pg_name (i := 3) scLaw.nd rfl (Or.inl rfl)) (pgs_cons (pg_name (i := 4) scLaw.nd rfl (Or.inl rfl)) pgs_nil))))
        (pss_cons (ps_set (i := 5) scLaw.nd rfl (Or.inl rfl) (pe_op op_cat (pe_lc1 rfl lcA rfl (pi_list (pv 3)) (fun _ _ _ => pe_fn DX GX r21 rfl (pa_cons (pv 8) (pa_cons pe_bl pa_nil)))) (pe_lc1 rfl lcB rfl (pi_list (pv 4)) (fun _ _ _ => pe_fn DX GX r21 rfl (pa_cons (pv 8) (pa_cons pe_bl pa_nil))))))
        (pss_one (ps_for PassesOwn.never rfl (pi_list (pe_op op_cat (pv 5) (pe_lst (pa_cons (pe_fn DY GY r21 rfl (pa_cons (pe_fn DR GR r3 rfl (pa_cons (pv 2) (pa_cons (pe_op op_add pe_int (pe_fn DT GT r2 rfl (pa_cons (pv 2) (pa_cons pe_int pa_nil)))) pa_nil))) pa_nil)) pa_nil)))) (pg_name (i := 6) scLaw.nd rfl (Or.inl rfl))
          (pss_cons (ps_if (pt_not (pt_val (pe_fn DJ GJ hr rfl (pa_cons (pv 6) pa_nil)))) (pss_one (ps_ret pe_bl)) pss_nil)
          (pss_one (ps_for PassesOwn.never rfl (pi_range1 rfl B.range (pa_cons pe_int pa_nil)) (pg_name (i := 7) scLaw.nd rfl (Or.inl rfl))
            (pss_cons (ps_set (i := 6) scLaw.nd rfl (Or.inl rfl) (pe_fn DU GU r3 rfl (pa_cons (pv 2) (pa_cons (pv 6) pa_nil))))
            (pss_one (ps_if (pt_not (pt_val (pe_fn DJ GJ hr rfl (pa_cons (pv 6) pa_nil)))) (pss_one (ps_ret pe_bl)) pss_nil))))))))))))
      (pss_cons (ps_for PassesOwn.never rfl (pi_list (pe_call0 GO r1 rfl DO.gl DO.fn.kp DO.bd .nil pass0)) (pg_name (i := 6) scLaw.nd rfl (Or.inl rfl))
        (pss_one (ps_if (pt_not (pt_val (pe_fn DJ GJ hr rfl (pa_cons (pv 6) pa_nil)))) (pss_one (ps_ret pe_bl)) pss_nil)))
      (pss_one (ps_ret pe_bl))), ?_⟩
    obtain ⟨ms, em, lm⟩ := cut_ints ns none (some 8)
    refine ⟨_, rfl, 8, rfl, a, _, rfl, hSc, fun p0 hp0 => ?_⟩
    rw [em]
    have s0 : Same H (L2.upd H p0 (.lst (ms.map V.int))) := Same.upd hp0
    have e0 : L2.upd H p0 (.lst (ms.map V.int)) p0 = some (.lst (ms.map V.int)) := upd_same
    generalize L2.upd H p0 (.lst (ms.map V.int)) = Ha at s0 e0 ⊢
    refine ⟨(by show 1 ≤ sizeLine; decide), fun p1 hp1 => ?_⟩
    have s1 : Same Ha (L2.upd Ha p1 (.lst [.int 0])) := Same.upd hp1
    have e1 : L2.upd Ha p1 (.lst [.int 0]) p1 = some (.lst [.int 0]) := upd_same
    generalize L2.upd Ha p1 (.lst [.int 0]) = Hb at s1 e1 ⊢
    refine ⟨p0, p1, _, _, rfl, rfl, s1 _ _ e0, e1, Nat.le_of_lt (small1000 (by rw [List.length_map]; show ms.length + 1 ≤ 1000; omega)), fun L hL => ?_⟩
    have ec : ms.map V.int ++ [V.int 0] = (ms ++ [0]).map V.int := by rw [List.map_append]; rfl
    rw [ec]
    have e2 : L2.upd Hb L (.lst ((ms ++ [0]).map V.int)) L = some (.lst ((ms ++ [0]).map V.int)) := upd_same
    generalize L2.upd Hb L (.lst ((ms ++ [0]).map V.int)) = Hc at e2 ⊢
    refine ⟨L, rfl, ⟨_, SqL.of e2⟩, for_list (xs := (ms ++ [0]).map V.int) (fun i σ H' => ∃ (o1 o2 o3 o4 o5 o6 o7 : Option V), σ = [some (.ref a), o1, o2, o3, o4, o5, o6, o7] ∧ Same Hc H') ⟨none, none, none, none, none, none, none, rfl, Same.refl _⟩ (fun i σ H' _ ⟨_, _, _, _, _, _, _, _, sH⟩ => SqL.of (sH _ _ e2)) ?_ ?_⟩
    · rintro i x σ H1 hx ⟨o1, o2, o3, o4, o5, o6, o7, rfl, sH⟩
      obtain ⟨c, hc, rfl⟩ := map_get hx
      refine ⟨_, rfl, c, rfl, fun d H2 hd s2 D2 => ?_⟩
      have hc0 : Hc d = none := by
        cases hq : Hc d with
        | none => rfl
        | some o => rw [sH _ _ hq] at hd; cases hd
      refine ⟨_, rfl, _, rfl, d, 8, 1, rfl, by decide, by decide, D2, by decide, fun r H3 r0 r1' b3 D3 => ?_⟩
      obtain ⟨r, rfl⟩ := Int.eq_ofNat_of_zero_le r0
      have er : (1 + ((r : Nat) : Int)) = ((1 + r : Nat) : Int) := by omega
      refine ⟨_, _, rfl, rfl, d, 1 + r, 3, (by show [V.ref d, V.int (1 + ((r : Nat) : Int))] = _; rw [er]), by omega, D3, by decide, fun p R T ws us rs ts H4 b4 D4 ep eR eT pd Rd Td dR dT gR gT hz => ?_⟩
      have s4 : Same Hc H4 := But.same (But.same (sH.trans s2) hc0 b3) hc0 b4
      refine ⟨p, _, rfl, SqT.of ep, rfl, _, _, rfl, _, _, rfl, rfl, ?_⟩
      obtain ⟨lR, iR⟩ := das_ix dR
      obtain ⟨lT, iT⟩ := das_ix dT
      have zr := tsz_len rs
      have zt := tsz_len ts
      have one : ∀ (t : Te) (b : Bool), t.ok b → t.size ≤ 8 → dep t ≤ 20 ∧ (teT t).length ≤ 80000 := fun t b g z => by
        have z2 := dep_size t
        have z3 := teT_len t b g
        omega
      refine ⟨_, rfl, R, rfl, ⟨_, SqL.of eR⟩, fun X1 hX1 => ?_⟩
      refine lc_vals (rs.map fun t => V.str (Sg (teT t))) (by rw [List.length_map, lR]) (by omega) hX1 (SqL.of eR) ?_ ?_ ?_
      · intro j x v H5 hx hv s5
        obtain ⟨t, ht, dt⟩ := iR j x hx
        rw [List.getElem?_map, ht] at hv
        cases hv
        have tm := List.mem_of_getElem? ht
        have g := gR t tm
        have z := tsz_mem tm
        obtain ⟨z1, z2⟩ := one t _ g (by omega)
        exact ⟨_, rfl, x, t, true, rfl, DA.any (DA.same dt s5), ⟨_, g⟩, z1, z2, fun H6 s6 => ⟨rfl, s6⟩⟩
      · intro H5 s5 eX1
        refine ⟨_, rfl, T, rfl, ⟨_, SqL.of (s5 _ _ eT)⟩, fun X2 hX2 => ?_⟩
        refine lc_vals (ts.map fun t => V.str (Sg (teT t))) (by rw [List.length_map, lT]) (by omega) hX2 (SqL.of (s5 _ _ eT)) ?_ ?_ ?_
        · intro j x v H6 hx hv s6
          obtain ⟨t, ht, dt⟩ := iT j x hx
          rw [List.getElem?_map, ht] at hv
          cases hv
          have tm := List.mem_of_getElem? ht
          have g := gT t tm
          have z := tsz_mem tm
          obtain ⟨z1, z2⟩ := one t _ g (by omega)
          exact ⟨_, rfl, x, t, false, rfl, DA.any (DA.same dt (s5.trans s6)), ⟨_, g⟩, z1, z2, fun H7 s7 => ⟨rfl, s7⟩⟩
        · intro H6 s6 eX2
          refine ⟨X1, X2, _, _, rfl, rfl, s6 _ _ eX1, eX2, Nat.le_of_lt (small1000 (by rw [List.length_map, List.length_map]; omega)), fun X3 hX3 => ?_⟩
          have eAA : (rs.map fun t => V.str (Sg (teT t))) ++ (ts.map fun t => V.str (Sg (teT t))) = (rs.map teT ++ ts.map teT).map fun l => V.str (Sg l) := by
            rw [List.map_append, List.map_map, List.map_map]
            rfl
          rw [eAA]
          have s7 : Same H4 (L2.upd H6 X3 (.lst ((rs.map teT ++ ts.map teT).map fun l => V.str (Sg l)))) := (s5.trans s6).trans (Same.upd hX3)
          have e7 : L2.upd H6 X3 (.lst ((rs.map teT ++ ts.map teT).map fun l => V.str (Sg l))) X3 = some (.lst ((rs.map teT ++ ts.map teT).map fun l => V.str (Sg l))) := upd_same
          generalize L2.upd H6 X3 (.lst ((rs.map teT ++ ts.map teT).map fun l => V.str (Sg l))) = H7 at s7 e7 ⊢
          have D7 := drw_sm D4 s7
          have X3d : X3 ≠ d := D7.at e7
          refine ⟨_, rfl, _, rfl, _, rfl, d, 8, _, rfl, by decide, by decide, D7, by omega, fun r' H8 r0' r1'' b8 D8 => ?_⟩
          obtain ⟨r', rfl⟩ := Int.eq_ofNat_of_zero_le r0'
          have er' : (1 + ((r' : Nat) : Int)) = ((1 + r' : Nat) : Int) := by omega
          refine ⟨_, _, rfl, rfl, d, 1 + r', _, (by show [V.ref d, V.int (1 + ((r' : Nat) : Int))] = _; rw [er']), by omega, by omega, D8, by omega, fun H9 v tr b9 D9 kn ft dv => ?_⟩
          obtain ⟨c1, c2⟩ := trT_cnt tr
          have lt := trT_len tr ft
          refine ⟨v, tr, rfl, DA.any dv, by omega, ft, by omega, by omega, fun H10 s10 => ?_⟩
          have s10c : Same Hc H10 := (But.same (But.same (s4.trans s7) hc0 b8) hc0 b9).trans s10
          have e10 := s10 _ _ (b9 X3 _ X3d (b8 X3 _ X3d e7))
          have D10 := drw_sm D9 s10
          refine ⟨(by show 1 ≤ sizeLine; decide), fun X4 hX4 => ?_⟩
          have s11 : Same H10 (L2.upd H10 X4 (.lst [V.str (Sg (trT tr))])) := Same.upd hX4
          have e11 : L2.upd H10 X4 (.lst [V.str (Sg (trT tr))]) X4 = some (.lst [V.str (Sg (trT tr))]) := upd_same
          generalize L2.upd H10 X4 (.lst [V.str (Sg (trT tr))]) = H11 at s11 e11 ⊢
          have lA : (rs.map teT ++ ts.map teT).length ≤ 8 := by rw [List.length_append, List.length_map, List.length_map]; omega
          refine ⟨X3, X4, _, _, rfl, rfl, s11 _ _ e10, e11, Nat.le_of_lt (small1000 (by rw [List.length_map]; show _ + 1 ≤ 1000; omega)), fun X5 hX5 => ?_⟩
          have bA : ∀ x ∈ (rs.map teT ++ ts.map teT) ++ [trT tr], Beg x := fun x hx => by
            rcases List.mem_append.mp hx with hx | hx
            · rcases List.mem_append.mp hx with hx | hx
              · obtain ⟨t, ht, rfl⟩ := List.mem_map.mp hx
                have := tsz_mem ht
                exact beg_te (gR t ht) (by omega)
              · obtain ⟨t, ht, rfl⟩ := List.mem_map.mp hx
                have := tsz_mem ht
                exact beg_te (gT t ht) (by omega)
            · rw [List.mem_singleton.mp hx]
              exact beg_tr ft (by omega)
          have eB : (((rs.map teT ++ ts.map teT).map fun l => V.str (Sg l)) ++ [V.str (Sg (trT tr))]) = ((rs.map teT ++ ts.map teT) ++ [trT tr]).map fun l => V.str (Sg l) := by
            rw [List.map_append (l₁ := rs.map teT ++ ts.map teT)]
            rfl
          rw [eB]
          have lB : ((rs.map teT ++ ts.map teT) ++ [trT tr]).length ≤ 9 := by rw [List.length_append]; show _ + 1 ≤ 9; omega
          generalize (rs.map teT ++ ts.map teT) ++ [trT tr] = Bs at bA lB ⊢
          have sF : Same Hc (L2.upd H11 X5 (.lst (Bs.map fun l => V.str (Sg l)))) := (s10c.trans s11).trans (Same.upd hX5)
          have eF : L2.upd H11 X5 (.lst (Bs.map fun l => V.str (Sg l))) X5 = some (.lst (Bs.map fun l => V.str (Sg l))) := upd_same
          have DF : Drw (L2.upd H11 X5 (.lst (Bs.map fun l => V.str (Sg l)))) d 300 := (drw_sm (drw_sm D10 s11) (Same.upd hX5)).mono (by omega)
          generalize L2.upd H11 X5 (.lst (Bs.map fun l => V.str (Sg l))) = HF at sF eF DF ⊢
          have X5d : X5 ≠ d := DF.at eF
          refine ⟨X5, rfl, ⟨_, SqL.of eF⟩, for_list (K := K) (a := X5) (xs := Bs.map fun l => V.str (Sg l)) (fun i σ H' => ∃ o6 o7 : Option V, σ = [some (.ref a), some (.int c), some (.ref d), some (.ref R), some (.ref T), some (.ref X3), o6, o7] ∧ Same Hc H' ∧ H' X5 = some (.lst (Bs.map fun l => V.str (Sg l))) ∧ Drw H' d (300 + 40 * i)) ⟨_, _, rfl, sF, eF, DF⟩ (fun i σ H' _ ⟨_, _, _, _, e, _⟩ => SqL.of e) ?_ ?_⟩
          · rintro j x σ G1 hx ⟨o6', o7', rfl, t1, f1, g1⟩
            have hj : j < 9 := by
              have := (List.getElem?_eq_some_iff.mp hx).1
              rw [List.length_map] at this
              omega
            obtain ⟨l, hl, rfl⟩ := map_get hx
            have bl := bA l (List.mem_of_getElem? hl)
            have ll := bl.len
            refine ⟨_, rfl, l, rfl, by omega, bl.asc, bl.s0.few, fun G2 t2 => ⟨_, rfl, iteF ?_⟩⟩
            refine ⟨2, rfl, by decide, by decide, for_range (n := 2) (fun m σ H' => ∃ (t : List Nat) (o7 : Option V), σ = [some (.ref a), some (.int c), some (.ref d), some (.ref R), some (.ref T), some (.ref X3), some (.str (Sg t)), o7] ∧ t.length + 100 ≤ 4100 * 2 ^ m ∧ (∀ c ∈ t, c < 128) ∧ (m = 0 → S0 t) ∧ (m = 1 → S1 t) ∧ Same Hc H' ∧ H' X5 = some (.lst (Bs.map fun l => V.str (Sg l))) ∧ Drw H' d (300 + 40 * j + 20 * m)) ⟨l, _, rfl, by omega, bl.asc, (fun _ => bl.s0), (fun z => by cases z), t1.trans t2, t2 _ _ f1, drw_sm g1 t2⟩ ?_ ?_⟩
            · rintro m σ G3 hm ⟨t, o7'', rfl, l3, a3, m0, m1, t3, f3, g3⟩
              have lm : 4100 * 2 ^ m ≤ 8200 := by
                match m, hm with
                | 0, _ => decide
                | 1, _ => decide
              refine ⟨_, rfl, _, rfl, d, t, _, rfl, g3, by omega, by omega, a3, fun t' G4 be l4 a4 b4' d4 => ?_⟩
              have fw : Few t' ∧ (m = 0 → S1 t') := by
                match m, hm with
                | 0, _ => exact ⟨(bend1 be (m0 rfl)).few, fun _ => bend1 be (m0 rfl)⟩
                | 1, _ => exact ⟨bend2 be (m1 rfl), fun z => by cases z⟩
              refine ⟨_, rfl, t', rfl, by omega, a4, fw.1, fun G5 t5 => ⟨_, rfl, iteF ?_⟩⟩
              refine ⟨t', _, rfl, ?_, a4, (fun z => by omega), (fun z => fw.2 (by omega)), (But.same t3 hc0 b4').trans t5, t5 _ _ (b4' X5 _ X5d f3), (drw_sm d4 t5).mono (by omega)⟩
              rw [Nat.pow_succ]
              omega
            · rintro σ G3 ⟨t, o7'', rfl, _, _, _, _, t3, f3, g3⟩
              exact ⟨_, _, rfl, t3, f3, g3.mono (by omega)⟩
          · rintro σ G1 ⟨o6', o7', rfl, t1, f1, g1⟩
            exact ⟨_, _, _, _, _, _, _, rfl, t1⟩
        · rintro σ H' Q1 Q2 hq ⟨v, e, x, t, b, e1, a1, a2, a3, a4, g⟩
          exact ⟨v, e, x, t, b, e1, a1, a2, a3, a4, fun H2 s2 => hq _ _ (g H2 s2)⟩
      · rintro σ H' Q1 Q2 hq ⟨v, e, x, t, b, e1, a1, a2, a3, a4, g⟩
        exact ⟨v, e, x, t, b, e1, a1, a2, a3, a4, fun H2 s2 => hq _ _ (g H2 s2)⟩
    · rintro σ H1 ⟨o1, o2, o3, o4, o5, o6, o7, rfl, sH⟩
      refine ⟨rfl, fun R xs H2 s2 e2' gd lx => ?_⟩
      refine ⟨R, rfl, ⟨_, SqL.of e2'⟩, for_list (K := K) (a := R) (xs := xs.map fun l => V.str (Sg l)) (fun i σ H' => ∃ (o6 : Option V), σ = [some (.ref a), o1, o2, o3, o4, o5, o6, o7] ∧ Same H2 H') ⟨_, rfl, Same.refl _⟩ (fun i σ H' _ ⟨_, _, s'⟩ => SqL.of (s' _ _ e2')) ?_ ?_⟩
      · rintro i x σ H3 hx ⟨o6', rfl, s3⟩
        obtain ⟨l, hl, rfl⟩ := map_get hx
        obtain ⟨ll, la, lf⟩ := gd l (List.mem_of_getElem? hl)
        refine ⟨_, rfl, l, rfl, by omega, la, lf, fun H4 s4 => ⟨_, rfl, iteF ?_⟩⟩
        exact ⟨_, rfl, s3.trans s4⟩
      · rintro σ H3 ⟨o6', rfl, s3⟩
        exact k H3
end
structure At (K : PySem.W.Frag) (x : Str) (st : Stmt) (f : Addr) (fd : FuncData) : Prop where
  fn : Fun K x x st f fd
  ns : PySem.W.nsIn K mainGlobals x = some (some (.ref f))
theorem at_mk {K : PySem.W.Frag} {x : Str} {st : Stmt} {f : Addr} {oc : Value} {od an : Option Addr} {osl : Array (Option Value)} {kV doc pm cdv ct : Value} (a : PySem.W.nsIn K mainGlobals x = some (some (.ref f))) (l : K.lookup f = some ⟨oc, od, .func (PySem.W.fnOf x x (defArgs st) (defBody st) (defScope st) .none kV doc pm an cdv ct), osl⟩)
    (c : PySem.W.codeIn K cdv x = true) (k : PySem.W.keepIn K (.ref f) = true) : ∃ f fd, At K x st f fd := ⟨f, _, fun_mk l c k, a⟩
theorem kit_ref {K : PySem.W.Frag} {CN C : Addr} {cd : ClassData} {b : Bool} (h0 : (Value.ref CN == Value.ref C) = false) (h1 : PySem.W.clsIn K C = some cd) (h2 : PySem.W.typeIn K (.ref C) = some (.type "type")) (h3 : PySem.W.subIn K (.ref CN) (.ref C) = some b) : PySem.W.kitOne K (.ref CN) (.ref C) = some b := by
  unfold PySem.W.kitOne PySem.W.kitCls
  rw [if_neg (by rw [h0]; decide)]
  show (if ((PySem.W.clsIn K C).isSome && PySem.W.typeIn K (.ref C) == some (.type "type")) = true then PySem.W.subIn K (.ref CN) (.ref C) else none) = some b
  rw [h1, h2, h3]
  rfl
theorem kit_ty {K : PySem.W.Frag} {CN : Addr} {T : String} {b : Bool} (h0 : (Value.ref CN == Value.type T) = false) (h1 : PySem.W.kitMeta T = true) (h3 : PySem.W.subIn K (.ref CN) (.type T) = some b) : PySem.W.kitOne K (.ref CN) (.type T) = some b := by
  unfold PySem.W.kitOne PySem.W.kitCls
  rw [if_neg (by rw [h0]; decide)]
  show (if PySem.W.kitMeta T = true then PySem.W.subIn K (.ref CN) (.type T) else none) = some b
  rw [if_pos h1, h3]
theorem all_mk {l : PySem.W.OpenLaw} {w : World} {K : PySem.W.Frag} {h : Heap} {mg : Str → Option Value} {fa fL : Addr} (X : K.In h) (G : h.Ns mainGlobals mg) (hfa : mg "law" = some (.ref fa)) (A0 : ∃ f fd, At K "greatest_divisor" sGd f fd) (A1 : ∃ f fd, At K "look_at_depth" sLookD f fd) (A2 : ∃ f fd, At K "tree_from" sTreeF f fd) (A3 : ∃ f fd, At K "sign_from" sSignF f fd) (A4 : ∃ f fd, At K "two_terms_from" sTwoF f fd) (A5 : ∃ f fd, At K "many_from" sManyF f fd) (A6 : ∃ f fd, At K "term_from" sTermF f fd) (A7 : ∃ f fd, At K "whole_term" sWholeT f fd) (A8 : ∃ f fd, At K "read_tree" sReadTree f fd) (A9 : ∃ f fd, At K "read_term" sReadTerm f fd) (A10 : ∃ f fd, At K "read_table" sReadTable f fd) (A11 : ∃ f fd, At K "_law_mix" sMix f fd) (A12 : ∃ f fd, At K "_law_begun" sBegun f fd) (A13 : ∃ f fd, At K "_law_take" sTake f fd) (A14 : ∃ f fd, At K "_law_divisor" sDiv f fd) (A15 : ∃ f fd, At K "_law_lowest" sLow f fd) (A16 : ∃ f fd, At K "_law_fraction" sFrac f fd) (A17 : ∃ f fd, At K "_law_tree" sTree f fd) (A18 : ∃ f fd, At K "_law_table_term" sTabTerm f fd) (A19 : ∃ f fd, At K "_law_row_term" sRowTerm f fd) (A20 : ∃ f fd, At K "_law_grown" sGrown f fd) (A21 : ∃ f fd, At K "_law_part_text" sPartT f fd) (A22 : ∃ f fd, At K "_law_text" sText f fd) (A23 : ∃ f fd, At K "_law_tree_text" sTreeText f fd) (A24 : ∃ f fd, At K "_law_run" sRun f fd) (A25 : ∃ f fd, At K "_law_number_end" sNumEnd f fd) (A26 : ∃ f fd, At K "_law_part_end" sPartEnd f fd) (A27 : ∃ f fd, At K "_law_two_end" sTwoEnd f fd) (A28 : ∃ f fd, At K "_law_end" sEndT f fd) (A29 : ∃ f fd, At K "_law_tree_end" sTreeEnd f fd) (A30 : ∃ f fd, At K "_law_caught" sCaught f fd) (A31 : ∃ f fd, At K "_law_is" sIs f fd) (A32 : ∃ f fd, At K "_law_judged" sJudged f fd) (A33 : ∃ f fd, At K "_law_bent" sBent f fd) (A34 : ∃ f fd, At K "_law_odd" sOdd f fd)
    {CK : Addr} (aK : PySem.W.nsIn K mainGlobals "KinError" = some (some (.ref CK))) {ocK : Value} {odK : Option Addr} {cdK : ClassData} {slK : Array (Option Value)} {bmK : List Value} (lK : K.lookup CK = some ⟨ocK, odK, .cls cdK, slK⟩) (mK : cdK.mro = .ref CK :: bmK) (okK : PySem.W.excIn K CK bmV "ValueError.__new__" = true) (gaK : PySem.W.findIn K (.ref CK) "__getattribute__" = some (some (.builtin "BaseException.__getattribute__"))) (gtK : PySem.W.findIn K (.ref CK) "__getattr__" = some none) (clK : PySem.W.findIn K (.ref CK) "__class__" = some (some (.builtin "object.__class__"))) {CT : Addr} (aT : PySem.W.nsIn K mainGlobals "NoText" = some (some (.ref CT))) {ocT : Value} {odT : Option Addr} {cdT : ClassData} {slT : Array (Option Value)} {bmT : List Value} (lT : K.lookup CT = some ⟨ocT, odT, .cls cdT, slT⟩) (mT : cdT.mro = .ref CT :: bmT) (okT : PySem.W.excIn K CT bmV "ValueError.__new__" = true) (gaT : PySem.W.findIn K (.ref CT) "__getattribute__" = some (some (.builtin "BaseException.__getattribute__"))) (gtT : PySem.W.findIn K (.ref CT) "__getattr__" = some none) (clT : PySem.W.findIn K (.ref CT) "__class__" = some (some (.builtin "object.__class__"))) {CW : Addr} (aW : PySem.W.nsIn K mainGlobals "NoWeb" = some (some (.ref CW))) {CS : Addr} (aS : PySem.W.nsIn K mainGlobals "NoStep" = some (some (.ref CS))) {CO : Addr} (aO : PySem.W.nsIn K mainGlobals "NoOrder" = some (some (.ref CO))) {CM : Addr} (aM : PySem.W.nsIn K mainGlobals "NoName" = some (some (.ref CM))) {CX : Addr} (aX : PySem.W.nsIn K mainGlobals "NoLine" = some (some (.ref CX))) (kit0 : PySem.W.kitOne K (.ref CT) (.ref CW) = some false) (kit1 : PySem.W.kitOne K (.ref CT) (.ref CS) = some false) (kit2 : PySem.W.kitOne K (.ref CT) (.ref CO) = some false) (kit3 : PySem.W.kitOne K (.ref CT) (.ref CT) = some true) (kit4 : PySem.W.kitOne K (.ref CT) (.ref CM) = some false) (kit5 : PySem.W.kitOne K (.ref CT) (.ref CX) = some false) (kit6 : PySem.W.kitOne K (.ref CT) (.type "ValueError") = some true) {CR : Addr} {tF tM tD : Tok} {aSb aIb : Addr} {bLv qLv0 qLv1 : Addr} {cLv : Value} {dLv : Option Addr} {eLv : Nat} {sLv : Array (Option Value)} {hLv0 hLv1 : Int} {tLv0 tLv1 : Tok} {yLv0 : Option Addr} {nLv0 : Nat} {zLv0 : Array (Option Value)} {uLv00 : Tok} {yLv1 : Option Addr} {nLv1 : Nat} {zLv1 : Array (Option Value)} {uLv10 uLv11 uLv12 : Tok} {bWo qWo0 qWo1 : Addr} {cWo : Value} {dWo : Option Addr} {eWo : Nat} {sWo : Array (Option Value)} {hWo0 hWo1 : Int} {tWo0 tWo1 : Tok} {yWo0 : Option Addr} {nWo0 : Nat} {zWo0 : Array (Option Value)} {uWo00 uWo01 : Tok} {yWo1 : Option Addr} {nWo1 : Nat} {zWo1 : Array (Option Value)} {uWo10 uWo11 : Tok} {bWt qWt0 qWt1 : Addr} {cWt : Value} {dWt : Option Addr} {eWt : Nat} {sWt : Array (Option Value)} {hWt0 hWt1 : Int} {tWt0 tWt1 : Tok} {yWt0 : Option Addr} {nWt0 : Nat} {zWt0 : Array (Option Value)} {uWt00 uWt01 : Tok} {yWt1 : Option Addr} {nWt1 : Nat} {zWt1 : Array (Option Value)} {uWt10 uWt11 uWt12 : Tok} {fI : Addr} {ocII kVII docII pmII cdvII ctII : Value} {odII anII : Option Addr} {oslII : Array (Option Value)} {fU : Addr} {ocUU kVUU docUU pmUU cdvUU ctUU : Value} {odUU anUU : Option Addr} {oslUU : Array (Option Value)} {fA : Addr} {ocAA kVAA docAA pmAA cdvAA ctAA : Value} {odAA anAA : Option Addr} {oslAA : Array (Option Value)} {fB : Addr} {ocBB kVBB docBB pmBB cdvBB ctBB : Value} {odBB anBB : Option Addr} {oslBB : Array (Option Value)} {fE : Addr} {ocEE kVEE docEE pmEE cdvEE ctEE : Value} {odEE anEE : Option Addr} {oslEE : Array (Option Value)} {fF : Addr} {ocFF kVFF docFF pmFF cdvFF ctFF : Value} {odFF anFF : Option Addr} {oslFF : Array (Option Value)} {fZ : Addr} {ocZZ kVZZ docZZ pmZZ cdvZZ ctZZ : Value} {odZZ anZZ : Option Addr} {oslZZ : Array (Option Value)} {fN : Addr} {ocNN kVNN docNN pmNN cdvNN ctNN : Value} {odNN anNN : Option Addr} {oslNN : Array (Option Value)} {fY : Addr} {ocYY kVYY docYY pmYY cdvYY ctYY : Value} {odYY anYY : Option Addr} {oslYY : Array (Option Value)} (aR : PySem.W.nsIn K mainGlobals "Reader" = some (some (.ref CR))) (cpg : PySem.W.plainGet K CR Str.empty = true) (chd : PySem.W.hasDictIn K CR = true) (cpo : PySem.W.plainOver K CR = true) (csa : PySem.W.findIn K (.ref CR) "__setattr__" = some (some (.builtin "object.__setattr__"))) (ctx : PySem.W.findIn K (.ref CR) "text" = some none) (cpl : PySem.W.findIn K (.ref CR) "place" = some none) (cmk : PySem.W.makesIn K CR = true) (ckp : PySem.W.keepIn K (.ref CR) = true) (aFig : PySem.W.nsIn K mainGlobals "FIGURES" = some (some (.str figS tF))) (aMost : PySem.W.nsIn K mainGlobals "MOST_FIGURES" = some (some (.int 60 tM))) (aDp : PySem.W.nsIn K mainGlobals "DEEPEST" = some (some (.int 20 tD))) (hcT : bmT.contains (.ref CK) = true) (aSg : PySem.W.nsIn K mainGlobals "SIGNS" = some (some (.ref aSb))) (tbS : PyProof.Rows.KTD.tabLook (PyProof.Rows.KTD.datLooks fun b => K.lookup b) (fun b => K.lookup b) aSb (tabS sgTab) = true) (aIs : PySem.W.nsIn K mainGlobals "INNER_SIDE" = some (some (.ref aIb))) (tbI : PyProof.Rows.KTD.tabLook (PyProof.Rows.KTD.datLooks fun b => K.lookup b) (fun b => K.lookup b) aIb (tabS inSide) = true) (aLv : PySem.W.nsIn K mainGlobals "LEAVES" = some (some (.ref bLv))) (lkLv : K.lookup bLv = some ⟨cLv, dLv, .dict ⟨[⟨hLv0, .str "row" tLv0, .ref qLv0⟩, ⟨hLv1, .str "table" tLv1, .ref qLv1⟩]⟩ eLv, sLv⟩) (tbLv : PyProof.Rows.KTD.tabLook isAt (fun b => K.lookup b) bLv [("row", qLv0), ("table", qLv1)] = true) (tpLv0 : K.lookup qLv0 = some ⟨.type "tuple", yLv0, .seq ⟨[.str "one" uLv00]⟩ nLv0, zLv0⟩) (tpLv1 : K.lookup qLv1 = some ⟨.type "tuple", yLv1, .seq ⟨[.str "same" uLv10, .str "tie" uLv11, .str "all" uLv12]⟩ nLv1, zLv1⟩) (aWo : PySem.W.nsIn K mainGlobals "WITH_ONE" = some (some (.ref bWo))) (lkWo : K.lookup bWo = some ⟨cWo, dWo, .dict ⟨[⟨hWo0, .str "row" tWo0, .ref qWo0⟩, ⟨hWo1, .str "table" tWo1, .ref qWo1⟩]⟩ eWo, sWo⟩) (tbWo : PyProof.Rows.KTD.tabLook isAt (fun b => K.lookup b) bWo [("row", qWo0), ("table", qWo1)] = true) (tpWo0 : K.lookup qWo0 = some ⟨.type "tuple", yWo0, .seq ⟨[.str "near" uWo00, .str "rows" uWo01]⟩ nWo0, zWo0⟩) (tpWo1 : K.lookup qWo1 = some ⟨.type "tuple", yWo1, .seq ⟨[.str "on" uWo10, .str "turned" uWo11]⟩ nWo1, zWo1⟩) (aWt : PySem.W.nsIn K mainGlobals "WITH_TWO" = some (some (.ref bWt))) (lkWt : K.lookup bWt = some ⟨cWt, dWt, .dict ⟨[⟨hWt0, .str "row" tWt0, .ref qWt0⟩, ⟨hWt1, .str "table" tWt1, .ref qWt1⟩]⟩ eWt, sWt⟩) (tbWt : PyProof.Rows.KTD.tabLook isAt (fun b => K.lookup b) bWt [("row", qWt0), ("table", qWt1)] = true) (tpWt0 : K.lookup qWt0 = some ⟨.type "tuple", yWt0, .seq ⟨[.str "both" uWt00, .str "plus" uWt01]⟩ nWt0, zWt0⟩) (tpWt1 : K.lookup qWt1 = some ⟨.type "tuple", yWt1, .seq ⟨[.str "then" uWt10, .str "meet" uWt11, .str "plus" uWt12]⟩ nWt1, zWt1⟩) (mII : PySem.W.findIn K (.ref CR) "__init__" = some (some (.ref fI))) (nII : PySem.W.isFn K (.ref fI) = true) (lII : K.lookup fI = some ⟨ocII, odII, .func (PySem.W.fnOf "__init__" "Reader.__init__" (defArgs sInitR) (defBody sInitR) (defScope sInitR) .none kVII docII pmII anII cdvII ctII), oslII⟩) (cII : PySem.W.codeIn K cdvII "Reader.__init__" = true) (kII : PySem.W.keepIn K (.ref fI) = true) (mUU : PySem.W.findIn K (.ref CR) "refuse" = some (some (.ref fU))) (nUU : PySem.W.isFn K (.ref fU) = true) (lUU : K.lookup fU = some ⟨ocUU, odUU, .func (PySem.W.fnOf "refuse" "Reader.refuse" (defArgs sRefuse) (defBody sRefuse) (defScope sRefuse) .none kVUU docUU pmUU anUU cdvUU ctUU), oslUU⟩) (cUU : PySem.W.codeIn K cdvUU "Reader.refuse" = true) (kUU : PySem.W.keepIn K (.ref fU) = true) (mAA : PySem.W.findIn K (.ref CR) "takes" = some (some (.ref fA))) (nAA : PySem.W.isFn K (.ref fA) = true) (lAA : K.lookup fA = some ⟨ocAA, odAA, .func (PySem.W.fnOf "takes" "Reader.takes" (defArgs sTakes) (defBody sTakes) (defScope sTakes) .none kVAA docAA pmAA anAA cdvAA ctAA), oslAA⟩) (cAA : PySem.W.codeIn K cdvAA "Reader.takes" = true) (kAA : PySem.W.keepIn K (.ref fA) = true) (mBB : PySem.W.findIn K (.ref CR) "must_take" = some (some (.ref fB))) (nBB : PySem.W.isFn K (.ref fB) = true) (lBB : K.lookup fB = some ⟨ocBB, odBB, .func (PySem.W.fnOf "must_take" "Reader.must_take" (defArgs sMust) (defBody sMust) (defScope sMust) .none kVBB docBB pmBB anBB cdvBB ctBB), oslBB⟩) (cBB : PySem.W.codeIn K cdvBB "Reader.must_take" = true) (kBB : PySem.W.keepIn K (.ref fB) = true) (mEE : PySem.W.findIn K (.ref CR) "must_end" = some (some (.ref fE))) (nEE : PySem.W.isFn K (.ref fE) = true) (lEE : K.lookup fE = some ⟨ocEE, odEE, .func (PySem.W.fnOf "must_end" "Reader.must_end" (defArgs sEnd) (defBody sEnd) (defScope sEnd) .none kVEE docEE pmEE anEE cdvEE ctEE), oslEE⟩) (cEE : PySem.W.codeIn K cdvEE "Reader.must_end" = true) (kEE : PySem.W.keepIn K (.ref fE) = true) (mFF : PySem.W.findIn K (.ref CR) "figures" = some (some (.ref fF))) (nFF : PySem.W.isFn K (.ref fF) = true) (lFF : K.lookup fF = some ⟨ocFF, odFF, .func (PySem.W.fnOf "figures" "Reader.figures" (defArgs sFigs) (defBody sFigs) (defScope sFigs) .none kVFF docFF pmFF anFF cdvFF ctFF), oslFF⟩) (cFF : PySem.W.codeIn K cdvFF "Reader.figures" = true) (kFF : PySem.W.keepIn K (.ref fF) = true) (mZZ : PySem.W.findIn K (.ref CR) "number_from_nought" = some (some (.ref fZ))) (nZZ : PySem.W.isFn K (.ref fZ) = true) (lZZ : K.lookup fZ = some ⟨ocZZ, odZZ, .func (PySem.W.fnOf "number_from_nought" "Reader.number_from_nought" (defArgs sFrom0) (defBody sFrom0) (defScope sFrom0) .none kVZZ docZZ pmZZ anZZ cdvZZ ctZZ), oslZZ⟩) (cZZ : PySem.W.codeIn K cdvZZ "Reader.number_from_nought" = true) (kZZ : PySem.W.keepIn K (.ref fZ) = true) (mNN : PySem.W.findIn K (.ref CR) "number" = some (some (.ref fN))) (nNN : PySem.W.isFn K (.ref fN) = true) (lNN : K.lookup fN = some ⟨ocNN, odNN, .func (PySem.W.fnOf "number" "Reader.number" (defArgs sNumb) (defBody sNumb) (defScope sNumb) .none kVNN docNN pmNN anNN cdvNN ctNN), oslNN⟩) (cNN : PySem.W.codeIn K cdvNN "Reader.number" = true) (kNN : PySem.W.keepIn K (.ref fN) = true) (mYY : PySem.W.findIn K (.ref CR) "fraction" = some (some (.ref fY))) (nYY : PySem.W.isFn K (.ref fY) = true) (lYY : K.lookup fY = some ⟨ocYY, odYY, .func (PySem.W.fnOf "fraction" "Reader.fraction" (defArgs sFrn) (defBody sFrn) (defScope sFrn) .none kVYY docYY pmYY anYY cdvYY ctYY), oslYY⟩) (cYY : PySem.W.codeIn K cdvYY "Reader.fraction" = true) (kYY : PySem.W.keepIn K (.ref fY) = true)
    {oc kV doc pm cdv ct : Value} {od an : Option Addr} {osl : Array (Option Value)} (aL : PySem.W.nsIn K mainGlobals "law" = some (some (.ref fL))) (lL : K.lookup fL = some ⟨oc, od, .func (PySem.W.fnOf "law" "law" (defArgs sLaw) (defBody sLaw) (defScope sLaw) .none kV doc pm an cdv ct), osl⟩) (cL : PySem.W.codeIn K cdv "law" = true) (kL : PySem.W.keepIn K (.ref fL) = true)
    (z_range : PySem.W.nsIn K mainGlobals "range" = some none) (z_list : PySem.W.nsIn K mainGlobals "list" = some none) (z_len : PySem.W.nsIn K mainGlobals "len" = some none) (z_int : PySem.W.nsIn K mainGlobals "int" = some none) (z_bool : PySem.W.nsIn K mainGlobals "bool" = some none) (z_str : PySem.W.nsIn K mainGlobals "str" = some none) (z_isinstance : PySem.W.nsIn K mainGlobals "isinstance" = some none) (z_sum : PySem.W.nsIn K mainGlobals "sum" = some none) (z_tuple : PySem.W.nsIn K mainGlobals "tuple" = some none) (z_abs : PySem.W.nsIn K mainGlobals "abs" = some none) (z_zip : PySem.W.nsIn K mainGlobals "zip" = some none) (z_enumerate : PySem.W.nsIn K mainGlobals "enumerate" = some none) (z_ValueError : PySem.W.nsIn K mainGlobals "ValueError" = some none) :
    ∃ fd : FuncData, (∀ (s : Shared) (v : Value), BindsTo s fd ⟨[v], []⟩ [("_law_script", v)]) ∧ ∀ base : Heap, K.In base → base.Ns mainGlobals mg → FnOk l.prog w K mg base CX0 86 fa fd ["_law_script"] (spLaw K) := by
  have e := hfa.symm.trans (PySem.W.mg_of X G aL)
  cases e
  obtain ⟨f0, fd0, T0⟩ := A0
  have D0 : Dn K mg "greatest_divisor" sGd ["number", "other"] f0 fd0 := ⟨T0.fn, PySem.W.mg_of X G T0.ns, T0.fn.binds fun _ _ _ _ _ _ us hl => match us, hl with | [_, _], _ => rfl⟩
  obtain ⟨f1, fd1, T1⟩ := A1
  have D1 : Dn K mg "look_at_depth" sLookD ["reader", "depth"] f1 fd1 := ⟨T1.fn, PySem.W.mg_of X G T1.ns, T1.fn.binds fun _ _ _ _ _ _ us hl => match us, hl with | [_, _], _ => rfl⟩
  obtain ⟨f2, fd2, T2⟩ := A2
  have D2 : Dn K mg "tree_from" sTreeF ["reader", "depth"] f2 fd2 := ⟨T2.fn, PySem.W.mg_of X G T2.ns, T2.fn.binds fun _ _ _ _ _ _ us hl => match us, hl with | [_, _], _ => rfl⟩
  obtain ⟨f3, fd3, T3⟩ := A3
  have D3 : Dn K mg "sign_from" sSignF ["reader", "side"] f3 fd3 := ⟨T3.fn, PySem.W.mg_of X G T3.ns, T3.fn.binds fun _ _ _ _ _ _ us hl => match us, hl with | [_, _], _ => rfl⟩
  obtain ⟨f4, fd4, T4⟩ := A4
  have D4 : Dn K mg "two_terms_from" sTwoF ["reader", "side", "depth"] f4 fd4 := ⟨T4.fn, PySem.W.mg_of X G T4.ns, T4.fn.binds fun _ _ _ _ _ _ us hl => match us, hl with | [_, _, _], _ => rfl⟩
  obtain ⟨f5, fd5, T5⟩ := A5
  have D5 : Dn K mg "many_from" sManyF ["reader", "side", "depth"] f5 fd5 := ⟨T5.fn, PySem.W.mg_of X G T5.ns, T5.fn.binds fun _ _ _ _ _ _ us hl => match us, hl with | [_, _, _], _ => rfl⟩
  obtain ⟨f6, fd6, T6⟩ := A6
  have D6 : Dn K mg "term_from" sTermF ["reader", "side", "depth"] f6 fd6 := ⟨T6.fn, PySem.W.mg_of X G T6.ns, T6.fn.binds fun _ _ _ _ _ _ us hl => match us, hl with | [_, _, _], _ => rfl⟩
  obtain ⟨f7, fd7, T7⟩ := A7
  have D7 : Dn K mg "whole_term" sWholeT ["text", "side"] f7 fd7 := ⟨T7.fn, PySem.W.mg_of X G T7.ns, T7.fn.binds fun _ _ _ _ _ _ us hl => match us, hl with | [_, _], _ => rfl⟩
  obtain ⟨f8, fd8, T8⟩ := A8
  have D8 : Dn K mg "read_tree" sReadTree ["text"] f8 fd8 := ⟨T8.fn, PySem.W.mg_of X G T8.ns, T8.fn.binds fun _ _ _ _ _ _ us hl => match us, hl with | [_], _ => rfl⟩
  obtain ⟨f9, fd9, T9⟩ := A9
  have D9 : Dn K mg "read_term" sReadTerm ["text"] f9 fd9 := ⟨T9.fn, PySem.W.mg_of X G T9.ns, T9.fn.binds fun _ _ _ _ _ _ us hl => match us, hl with | [_], _ => rfl⟩
  obtain ⟨f10, fd10, T10⟩ := A10
  have D10 : Dn K mg "read_table" sReadTable ["text"] f10 fd10 := ⟨T10.fn, PySem.W.mg_of X G T10.ns, T10.fn.binds fun _ _ _ _ _ _ us hl => match us, hl with | [_], _ => rfl⟩
  obtain ⟨f11, fd11, T11⟩ := A11
  have D11 : Dn K mg "_law_mix" sMix ["_law_cell", "_law_k"] f11 fd11 := ⟨T11.fn, PySem.W.mg_of X G T11.ns, T11.fn.binds fun _ _ _ _ _ _ us hl => match us, hl with | [_, _], _ => rfl⟩
  obtain ⟨f12, fd12, T12⟩ := A12
  have D12 : Dn K mg "_law_begun" sBegun ["_law_cell"] f12 fd12 := ⟨T12.fn, PySem.W.mg_of X G T12.ns, T12.fn.binds fun _ _ _ _ _ _ us hl => match us, hl with | [_], _ => rfl⟩
  obtain ⟨f13, fd13, T13⟩ := A13
  have D13 : Dn K mg "_law_take" sTake ["_law_draw", "_law_most"] f13 fd13 := ⟨T13.fn, PySem.W.mg_of X G T13.ns, T13.fn.binds fun _ _ _ _ _ _ us hl => match us, hl with | [_, _], _ => rfl⟩
  obtain ⟨f14, fd14, T14⟩ := A14
  have D14 : Dn K mg "_law_divisor" sDiv ["_law_one", "_law_other"] f14 fd14 := ⟨T14.fn, PySem.W.mg_of X G T14.ns, T14.fn.binds fun _ _ _ _ _ _ us hl => match us, hl with | [_, _], _ => rfl⟩
  obtain ⟨f15, fd15, T15⟩ := A15
  have D15 : Dn K mg "_law_lowest" sLow ["_law_top", "_law_bottom"] f15 fd15 := ⟨T15.fn, PySem.W.mg_of X G T15.ns, T15.fn.binds fun _ _ _ _ _ _ us hl => match us, hl with | [_, _], _ => rfl⟩
  obtain ⟨f16, fd16, T16⟩ := A16
  have D16 : Dn K mg "_law_fraction" sFrac ["_law_draw"] f16 fd16 := ⟨T16.fn, PySem.W.mg_of X G T16.ns, T16.fn.binds fun _ _ _ _ _ _ us hl => match us, hl with | [_], _ => rfl⟩
  obtain ⟨f17, fd17, T17⟩ := A17
  have D17 : Dn K mg "_law_tree" sTree ["_law_draw", "_law_many"] f17 fd17 := ⟨T17.fn, PySem.W.mg_of X G T17.ns, T17.fn.binds fun _ _ _ _ _ _ us hl => match us, hl with | [_, _], _ => rfl⟩
  obtain ⟨f18, fd18, T18⟩ := A18
  have D18 : Dn K mg "_law_table_term" sTabTerm ["_law_draw", "_law_tables", "_law_rows"] f18 fd18 := ⟨T18.fn, PySem.W.mg_of X G T18.ns, T18.fn.binds fun _ _ _ _ _ _ us hl => match us, hl with | [_, _, _], _ => rfl⟩
  obtain ⟨f19, fd19, T19⟩ := A19
  have D19 : Dn K mg "_law_row_term" sRowTerm ["_law_draw", "_law_tables", "_law_rows"] f19 fd19 := ⟨T19.fn, PySem.W.mg_of X G T19.ns, T19.fn.binds fun _ _ _ _ _ _ us hl => match us, hl with | [_, _, _], _ => rfl⟩
  obtain ⟨f20, fd20, T20⟩ := A20
  have D20 : Dn K mg "_law_grown" sGrown ["_law_draw", "_law_many"] f20 fd20 := ⟨T20.fn, PySem.W.mg_of X G T20.ns, T20.fn.binds fun _ _ _ _ _ _ us hl => match us, hl with | [_, _], _ => rfl⟩
  obtain ⟨f21, fd21, T21⟩ := A21
  have D21 : Dn K mg "_law_part_text" sPartT ["_law_f"] f21 fd21 := ⟨T21.fn, PySem.W.mg_of X G T21.ns, T21.fn.binds fun _ _ _ _ _ _ us hl => match us, hl with | [_], _ => rfl⟩
  obtain ⟨f22, fd22, T22⟩ := A22
  have D22 : Dn K mg "_law_text" sText ["_law_term", "_law_rows"] f22 fd22 := ⟨T22.fn, PySem.W.mg_of X G T22.ns, T22.fn.binds fun _ _ _ _ _ _ us hl => match us, hl with | [_, _], _ => rfl⟩
  obtain ⟨f23, fd23, T23⟩ := A23
  have D23 : Dn K mg "_law_tree_text" sTreeText ["_law_tree_here"] f23 fd23 := ⟨T23.fn, PySem.W.mg_of X G T23.ns, T23.fn.binds fun _ _ _ _ _ _ us hl => match us, hl with | [_], _ => rfl⟩
  obtain ⟨f24, fd24, T24⟩ := A24
  have D24 : Dn K mg "_law_run" sRun ["_law_text_here", "_law_at", "_law_signs"] f24 fd24 := ⟨T24.fn, PySem.W.mg_of X G T24.ns, T24.fn.binds fun _ _ _ _ _ _ us hl => match us, hl with | [_, _, _], _ => rfl⟩
  obtain ⟨f25, fd25, T25⟩ := A25
  have D25 : Dn K mg "_law_number_end" sNumEnd ["_law_text_here", "_law_at", "_law_least"] f25 fd25 := ⟨T25.fn, PySem.W.mg_of X G T25.ns, T25.fn.binds fun _ _ _ _ _ _ us hl => match us, hl with | [_, _, _], _ => rfl⟩
  obtain ⟨f26, fd26, T26⟩ := A26
  have D26 : Dn K mg "_law_part_end" sPartEnd ["_law_text_here", "_law_at"] f26 fd26 := ⟨T26.fn, PySem.W.mg_of X G T26.ns, T26.fn.binds fun _ _ _ _ _ _ us hl => match us, hl with | [_, _], _ => rfl⟩
  obtain ⟨f27, fd27, T27⟩ := A27
  have D27 : Dn K mg "_law_two_end" sTwoEnd ["_law_text_here", "_law_at", "_law_rows"] f27 fd27 := ⟨T27.fn, PySem.W.mg_of X G T27.ns, T27.fn.binds fun _ _ _ _ _ _ us hl => match us, hl with | [_, _, _], _ => rfl⟩
  obtain ⟨f28, fd28, T28⟩ := A28
  have D28 : Dn K mg "_law_end" sEndT ["_law_text_here", "_law_at", "_law_rows"] f28 fd28 := ⟨T28.fn, PySem.W.mg_of X G T28.ns, T28.fn.binds fun _ _ _ _ _ _ us hl => match us, hl with | [_, _, _], _ => rfl⟩
  obtain ⟨f29, fd29, T29⟩ := A29
  have D29 : Dn K mg "_law_tree_end" sTreeEnd ["_law_text_here", "_law_at"] f29 fd29 := ⟨T29.fn, PySem.W.mg_of X G T29.ns, T29.fn.binds fun _ _ _ _ _ _ us hl => match us, hl with | [_, _], _ => rfl⟩
  obtain ⟨f30, fd30, T30⟩ := A30
  have D30 : Dn K mg "_law_caught" sCaught ["_law_kind", "_law_text_here"] f30 fd30 := ⟨T30.fn, PySem.W.mg_of X G T30.ns, T30.fn.binds fun _ _ _ _ _ _ us hl => match us, hl with | [_, _], _ => rfl⟩
  obtain ⟨f31, fd31, T31⟩ := A31
  have D31 : Dn K mg "_law_is" sIs ["_law_caught_here", "_law_at"] f31 fd31 := ⟨T31.fn, PySem.W.mg_of X G T31.ns, T31.fn.binds fun _ _ _ _ _ _ us hl => match us, hl with | [_, _], _ => rfl⟩
  obtain ⟨f32, fd32, T32⟩ := A32
  have D32 : Dn K mg "_law_judged" sJudged ["_law_text_here"] f32 fd32 := ⟨T32.fn, PySem.W.mg_of X G T32.ns, T32.fn.binds fun _ _ _ _ _ _ us hl => match us, hl with | [_], _ => rfl⟩
  obtain ⟨f33, fd33, T33⟩ := A33
  have D33 : Dn K mg "_law_bent" sBent ["_law_draw", "_law_text_here"] f33 fd33 := ⟨T33.fn, PySem.W.mg_of X G T33.ns, T33.fn.binds fun _ _ _ _ _ _ us hl => match us, hl with | [_, _], _ => rfl⟩
  obtain ⟨f34, fd34, T34⟩ := A34
  have D34 : Dn K mg "_law_odd" sOdd [] f34 fd34 := ⟨T34.fn, PySem.W.mg_of X G T34.ns, T34.fn.binds fun _ _ _ _ _ _ us hl => match us, hl with | [], _ => rfl⟩
  have FL := fun_mk (st := sLaw) lL cL kL
  have BX : BltX mg := ⟨PySem.W.mg_none_of X G z_range, PySem.W.mg_none_of X G z_list, PySem.W.mg_none_of X G z_len, PySem.W.mg_none_of X G z_int, PySem.W.mg_none_of X G z_bool, PySem.W.mg_none_of X G z_str, PySem.W.mg_none_of X G z_isinstance, PySem.W.mg_none_of X G z_sum, PySem.W.mg_none_of X G z_tuple⟩
  have BR : BltR mg := ⟨PySem.W.mg_none_of X G z_abs, PySem.W.mg_none_of X G z_len, PySem.W.mg_none_of X G z_sum, PySem.W.mg_none_of X G z_zip, PySem.W.mg_none_of X G z_range, PySem.W.mg_none_of X G z_enumerate⟩
  have BF : BltF mg := ⟨PySem.W.mg_none_of X G z_abs, PySem.W.mg_none_of X G z_len, PySem.W.mg_none_of X G z_isinstance, PySem.W.mg_none_of X G z_int, PySem.W.mg_none_of X G z_bool, PySem.W.mg_none_of X G z_tuple, PySem.W.mg_none_of X G z_list, PySem.W.mg_none_of X G z_range⟩
  have TC : ClsR K CR := ⟨⟨cpg, chd, cpo, csa⟩, ctx, cpl⟩
  have GX : GlX mg := ⟨⟨_, PySem.W.mg_of X G aFig⟩, ⟨_, PySem.W.mg_of X G aMost⟩⟩
  have MK : Mk K CR fI := ⟨cmk, mII, nII, ckp⟩
  have hC := PySem.W.mg_of X G aR
  have ZT : Exc K CT bmT := ⟨okT, ⟨_, _, _, _, lT, mT⟩, gaT, gtT, clT⟩
  have ZK : Exc K CK bmK := ⟨okK, ⟨_, _, _, _, lK, mK⟩, gaK, gtK, clK⟩
  have mK' := PySem.W.mg_of X G aK
  have mT' := PySem.W.mg_of X G aT
  have NT : NoT K mg CT := ⟨⟨_, ZT⟩, mT'⟩
  have TB : Tabs K mg := ⟨⟨⟨_, _, _, PySem.W.mg_of X G aLv, ⟨tbLv⟩, (fun _ => .inr ⟨_, _, _, tpLv0, rfl, rfl, (by show 1 ≤ sizeLine; decide), (.cons ⟨_, rfl⟩ .nil)⟩), (fun _ => .inr ⟨_, _, _, tpLv1, rfl, rfl, (by show 3 ≤ sizeLine; decide), (.cons ⟨_, rfl⟩ (.cons ⟨_, rfl⟩ (.cons ⟨_, rfl⟩ .nil)))⟩)⟩⟩, ⟨⟨_, _, _, PySem.W.mg_of X G aWo, ⟨tbWo⟩, (fun _ => .inr ⟨_, _, _, tpWo0, rfl, rfl, (by show 2 ≤ sizeLine; decide), (.cons ⟨_, rfl⟩ (.cons ⟨_, rfl⟩ .nil))⟩), (fun _ => .inr ⟨_, _, _, tpWo1, rfl, rfl, (by show 2 ≤ sizeLine; decide), (.cons ⟨_, rfl⟩ (.cons ⟨_, rfl⟩ .nil))⟩)⟩⟩, ⟨⟨_, _, _, PySem.W.mg_of X G aWt, ⟨tbWt⟩, (fun _ => .inr ⟨_, _, _, tpWt0, rfl, rfl, (by show 2 ≤ sizeLine; decide), (.cons ⟨_, rfl⟩ (.cons ⟨_, rfl⟩ .nil))⟩), (fun _ => .inr ⟨_, _, _, tpWt1, rfl, rfl, (by show 3 ≤ sizeLine; decide), (.cons ⟨_, rfl⟩ (.cons ⟨_, rfl⟩ (.cons ⟨_, rfl⟩ .nil)))⟩)⟩⟩, ⟨_, PySem.W.mg_of X G aSg, ⟨tbS⟩⟩, ⟨_, PySem.W.mg_of X G aIs, ⟨tbI⟩⟩, ⟨_, PySem.W.mg_of X G aDp⟩⟩
  have FI := fun_mk (st := sInitR) (qual := "Reader.__init__") lII cII kII
  have bI := FI.binds (ps := ["self", "text"]) fun _ _ _ _ _ _ us hl => match us, hl with | [_, _], _ => rfl
  have FU := fun_mk (st := sRefuse) (qual := "Reader.refuse") lUU cUU kUU
  have bU := FU.binds (ps := ["self", "wrong"]) fun _ _ _ _ _ _ us hl => match us, hl with | [_, _], _ => rfl
  have MU : Mn K CR "refuse" "Reader.refuse" sRefuse ["self", "wrong"] fU _ := ⟨FU, ⟨mUU, nUU, kUU⟩, bU⟩
  have FA := fun_mk (st := sTakes) (qual := "Reader.takes") lAA cAA kAA
  have bA := FA.binds (ps := ["self", "word"]) fun _ _ _ _ _ _ us hl => match us, hl with | [_, _], _ => rfl
  have MA : Mn K CR "takes" "Reader.takes" sTakes ["self", "word"] fA _ := ⟨FA, ⟨mAA, nAA, kAA⟩, bA⟩
  have FB := fun_mk (st := sMust) (qual := "Reader.must_take") lBB cBB kBB
  have bB := FB.binds (ps := ["self", "word"]) fun _ _ _ _ _ _ us hl => match us, hl with | [_, _], _ => rfl
  have MB : Mn K CR "must_take" "Reader.must_take" sMust ["self", "word"] fB _ := ⟨FB, ⟨mBB, nBB, kBB⟩, bB⟩
  have FE := fun_mk (st := sEnd) (qual := "Reader.must_end") lEE cEE kEE
  have bE := FE.binds (ps := ["self"]) fun _ _ _ _ _ _ us hl => match us, hl with | [_], _ => rfl
  have ME : Mn K CR "must_end" "Reader.must_end" sEnd ["self"] fE _ := ⟨FE, ⟨mEE, nEE, kEE⟩, bE⟩
  have FF := fun_mk (st := sFigs) (qual := "Reader.figures") lFF cFF kFF
  have bF := FF.binds (ps := ["self"]) fun _ _ _ _ _ _ us hl => match us, hl with | [_], _ => rfl
  have MF : Mn K CR "figures" "Reader.figures" sFigs ["self"] fF _ := ⟨FF, ⟨mFF, nFF, kFF⟩, bF⟩
  have FZ := fun_mk (st := sFrom0) (qual := "Reader.number_from_nought") lZZ cZZ kZZ
  have bZ := FZ.binds (ps := ["self"]) fun _ _ _ _ _ _ us hl => match us, hl with | [_], _ => rfl
  have MZ : Mn K CR "number_from_nought" "Reader.number_from_nought" sFrom0 ["self"] fZ _ := ⟨FZ, ⟨mZZ, nZZ, kZZ⟩, bZ⟩
  have FN := fun_mk (st := sNumb) (qual := "Reader.number") lNN cNN kNN
  have bN := FN.binds (ps := ["self"]) fun _ _ _ _ _ _ us hl => match us, hl with | [_], _ => rfl
  have MN : Mn K CR "number" "Reader.number" sNumb ["self"] fN _ := ⟨FN, ⟨mNN, nNN, kNN⟩, bN⟩
  have FY := fun_mk (st := sFrn) (qual := "Reader.fraction") lYY cYY kYY
  have bY := FY.binds (ps := ["self"]) fun _ _ _ _ _ _ us hl => match us, hl with | [_], _ => rfl
  have MY : Mn K CR "fraction" "Reader.fraction" sFrn ["self"] fY _ := ⟨FY, ⟨mYY, nYY, kYY⟩, bY⟩
  refine ⟨PySem.W.fnOf "law" "law" (defArgs sLaw) (defBody sLaw) (defScope sLaw) .none kV doc pm an cdv ct, fun s v => .of_eq rfl, fun base _ _ => ?_⟩
  have GI := ok_initR (P := l.prog) (w := w) (base := base) (mg := mg) TC FI
  have GA := ok_takes (P := l.prog) (w := w) (base := base) BX TC FA
  have GU := ok_refuse (P := l.prog) (w := w) (base := base) TC NT FU
  have GB := ok_must TC FB MA GA MU GU
  have GE := ok_endR BX TC FE MU GU
  have GF := ok_figs (P := l.prog) (w := w) (base := base) BX TC GX FF
  have GZ := ok_from0 BX TC GX FZ MF GF MU GU
  have GN := ok_numb TC FN MA GA MZ GZ MU GU
  have GGd := ok_gd (P := l.prog) (w := w) (base := base) BR D0.fn
  have GY := ok_frn TC FY MN GN MA GA MZ GZ MU GU D0 GGd
  have GLd := ok_lookD TC TB D1.fn MU GU
  have GSg := ok_sign TC TB NT D3.fn MA GA
  have GTf := ok_termF (fT := fA) (fdW := fd0) TC TB D6 D1 GLd MA GA MZ GZ D4 D5 D3 GSg MY GY MB GB
  have GTr := ok_treeF TC D2 D1 GLd MA GA MZ GZ MB GB
  have GWt := ok_wholeT TC D7.fn hC MK bI GI D6 GTf ME GE
  have GRt := ok_readTerm D9.fn D7 GWt
  have GRb := ok_readTable D10.fn D7 GWt
  have GRr := ok_readTr TC D8.fn hC MK bI GI D2 GTr ME GE
  have GBe := ok_begun (P := l.prog) (w := w) (base := base) (mg := mg) D12.fn
  have GTk := ok_take (P := l.prog) (w := w) (base := base) D13.fn D11
  have GLo := ok_low (P := l.prog) (w := w) (base := base) BF D15.fn D14
  have GFr := ok_frac D16.fn D13 GTk D15 GLo
  have GTe := ok_tree BX D17.fn D13 GTk
  have GTt := ok_tabTerm BF D18.fn D13 GTk D16 GFr
  have GRo := ok_rowTerm BF D19.fn D13 GTk D16 GFr
  have GGr := ok_grown BX D20.fn D13 GTk D19 GRo D18 GTt
  have GPa := ok_partT (P := l.prog) (w := w) (base := base) BX D21.fn
  have GTx := ok_text BX D22 D21 GPa
  have GLt := ok_lTr (P := l.prog) (w := w) (base := base) BX D23
  have GTx' := GTx 20
  have GLt' := GLt 20 (by decide)
  have GDv := ok_div (P := l.prog) (w := w) (base := base) (mg := mg) BF D14.fn
  have GRu := ok_run (P := l.prog) (w := w) (base := base) BX D24.fn
  have GNe := ok_numE BX D25.fn D24 GRu
  have GPe := ok_partE BX D26.fn D25 GNe D14 GDv
  have GEn := ok_end BX D28 D27 D26 GPe D25 GNe D24 GRu
  have GEn' := GEn 40
  have GTn := ok_treeE D29 D25 GNe
  have GTn' := GTn 40
  have GCa := ok_caught ZT.w ZK.w hcT mK' D30.fn D9 GRt D10 GRb D8 GRr
  have GIs := ok_is (P := l.prog) (w := w) (base := base) BX (PySem.W.mg_none_of X G z_ValueError) ZT.w ⟨CW, PySem.W.mg_of X G aW, kit0⟩ ⟨CS, PySem.W.mg_of X G aS, kit1⟩ ⟨CO, PySem.W.mg_of X G aO, kit2⟩ ⟨CT, mT', kit3⟩ ⟨CM, PySem.W.mg_of X G aM, kit4⟩ ⟨CX, PySem.W.mg_of X G aX, kit5⟩ kit6 D31.fn
  have GJd := ok_judged BX D32.fn D28 GEn' D29 GTn' D30 GCa D31 GIs D22 GTx' D23 GLt'
  have GBt := ok_bent BX D33.fn D13 GTk
  have GOd := ok_odd (P := l.prog) (w := w) (base := base) (mg := mg) D34.fn
  exact ok_law BX FL D12 GBe D13 GTk D20 GGr D22 GTx' D23 GLt' D17 GTe D32 GJd D33 GBt D34 GOd
theorem walk {l : PySem.W.OpenLaw} {q : Program} {loose : List Str} {XP : (Str → Option Value) → Heap → Prop} {YP : World → Heap → Prop} {d : DefRec} {K : Params → PySem.W.Frag} (hn : l.most = some 63) (hdf : d.params.defaults = [])
    (hY : ∀ (w : World) (h : Heap), YP w h → (K w.params).In h)
    (F : ∀ (w : World) (mg : Str → Option Value) (fa : Addr) (h : Heap), (K w.params).In h → h.Ns mainGlobals mg → mg d.name = some (.ref fa) →
      ∃ fd : FuncData, (∀ (s : Shared) (u : Value), BindsTo s fd ⟨[u], []⟩ [("_law_script", u)]) ∧ ∀ base : Heap, (K w.params).In base → base.Ns mainGlobals mg → FnOk l.prog w (K w.params) mg base CX0 86 fa fd ["_law_script"] (spLaw (K w.params))) :
    PySem.W.WalkO q loose XP YP l.row.toRowW d [] (fun f vs => PySem.call f vs) :=
  L2.walk_of (n := 63) (k := 86) (x := "_law_script") (CX := fun _ => CX0) (sp := fun w => spLaw (K w.params)) hn (by decide) hdf ⟨rfl, by decide, by decide, rfl⟩ hY F (fun _ _ a ns hl _ hS => ⟨a, ns, rfl, hS, hl, fun _ => rfl⟩) fun _ _ _ _ _ z => z
end My
open PySem PySem.W PyProof.Rows
namespace PySem.W.Fast
def tw16626943015378068666:=()
def tw2250654649709403784:=()
def tw8556038770868270965:=()
def tw17425988752023604685:=()
def tw9266937829877012814:=()
def tw3436445841755356973:=()
def tw16850731956811045659:=()
def tw10773970534922027522:=()
def tw1120426310976105002:=()
def tw17898296650878130906:=()
def tw10487843405495267573:=()
def tw17968417943949893911:=()
def tw15862950552378360072:=()
def tw1235617599857374166:=()
def tw10561474951717226774:=()
def tw13926490544970777517:=()
def tw16792232760317869311:=()
def tw6775459010575930065:=()
def tw1173363071322008405:=()
def tw5175414836787939166:=()
end PySem.W.Fast
set_option maxRecDepth 100000 in
set_option maxHeartbeats 0 in
theorem PySem.Challenge.cw_evenkin_k94_term_texts_refused_holds : PySem.Challenge.rw_evenkin_k94_term_texts_refused.Holds := by
  w_on; o_law; k_head; (case hw => w_witness2)
  k_fill
  refine My.walk (l := PySem.Challenge.rw_evenkin_k94_term_texts_refused) rfl rfl (fun w h Y => PySem.W.kIn_of Y) ?F
  case F =>
    intro w mg fa h KX G hmg
    refine' My.all_mk KX G hmg (My.at_mk ?a0 ?l0 ?c0 ?k0) (My.at_mk ?a1 ?l1 ?c1 ?k1) (My.at_mk ?a2 ?l2 ?c2 ?k2) (My.at_mk ?a3 ?l3 ?c3 ?k3) (My.at_mk ?a4 ?l4 ?c4 ?k4) (My.at_mk ?a5 ?l5 ?c5 ?k5) (My.at_mk ?a6 ?l6 ?c6 ?k6) (My.at_mk ?a7 ?l7 ?c7 ?k7) (My.at_mk ?a8 ?l8 ?c8 ?k8) (My.at_mk ?a9 ?l9 ?c9 ?k9) (My.at_mk ?a10 ?l10 ?c10 ?k10) (My.at_mk ?a11 ?l11 ?c11 ?k11) (My.at_mk ?a12 ?l12 ?c12 ?k12) (My.at_mk ?a13 ?l13 ?c13 ?k13) (My.at_mk ?a14 ?l14 ?c14 ?k14) (My.at_mk ?a15 ?l15 ?c15 ?k15) (My.at_mk ?a16 ?l16 ?c16 ?k16) (My.at_mk ?a17 ?l17 ?c17 ?k17) (My.at_mk ?a18 ?l18 ?c18 ?k18) (My.at_mk ?a19 ?l19 ?c19 ?k19) (My.at_mk ?a20 ?l20 ?c20 ?k20) (My.at_mk ?a21 ?l21 ?c21 ?k21) (My.at_mk ?a22 ?l22 ?c22 ?k22) (My.at_mk ?a23 ?l23 ?c23 ?k23) (My.at_mk ?a24 ?l24 ?c24 ?k24) (My.at_mk ?a25 ?l25 ?c25 ?k25) (My.at_mk ?a26 ?l26 ?c26 ?k26) (My.at_mk ?a27 ?l27 ?c27 ?k27) (My.at_mk ?a28 ?l28 ?c28 ?k28) (My.at_mk ?a29 ?l29 ?c29 ?k29) (My.at_mk ?a30 ?l30 ?c30 ?k30) (My.at_mk ?a31 ?l31 ?c31 ?k31) (My.at_mk ?a32 ?l32 ?c32 ?k32) (My.at_mk ?a33 ?l33 ?c33 ?k33) (My.at_mk ?a34 ?l34 ?c34 ?k34) ?aK ?lK ?mK ?okK ?gaK ?gtK ?clK ?aT ?lT ?mT ?okT ?gaT ?gtT ?clT ?aW ?aS ?aO ?aM ?aX ?kit0 ?kit1 ?kit2 ?kit3 ?kit4 ?kit5 ?kit6 ?aR ?cpg ?chd ?cpo ?csa ?ctx ?cpl ?cmk ?ckp ?aFig ?aMost ?aDp ?hcT ?aSg ?tbS ?aIs ?tbI ?aLv ?lkLv ?tbLv ?tpLv0 ?tpLv1 ?aWo ?lkWo ?tbWo ?tpWo0 ?tpWo1 ?aWt ?lkWt ?tbWt ?tpWt0 ?tpWt1 ?mII ?nII ?lII ?cII ?kII ?mUU ?nUU ?lUU ?cUU ?kUU ?mAA ?nAA ?lAA ?cAA ?kAA ?mBB ?nBB ?lBB ?cBB ?kBB ?mEE ?nEE ?lEE ?cEE ?kEE ?mFF ?nFF ?lFF ?cFF ?kFF ?mZZ ?nZZ ?lZZ ?cZZ ?kZZ ?mNN ?nNN ?lNN ?cNN ?kNN ?mYY ?nYY ?lYY ?cYY ?kYY ?aL ?lL ?cL ?kL ?z_range ?z_list ?z_len ?z_int ?z_bool ?z_str ?z_isinstance ?z_sum ?z_tuple ?z_abs ?z_zip ?z_enumerate ?z_ValueError
    (case a0 => k_is); (case l0 => k_is); (case c0 => k_is); (case k0 => k_is)
    (case a1 => k_is); (case l1 => k_is); (case c1 => k_is); (case k1 => k_is)
    (case a2 => k_is); (case l2 => k_is); (case c2 => k_is); (case k2 => k_is)
    (case a3 => k_is); (case l3 => k_is); (case c3 => k_is); (case k3 => k_is)
    (case a4 => k_is); (case l4 => k_is); (case c4 => k_is); (case k4 => k_is)
    (case a5 => k_is); (case l5 => k_is); (case c5 => k_is); (case k5 => k_is)
    (case a6 => k_is); (case l6 => k_is); (case c6 => k_is); (case k6 => k_is)
    (case a7 => k_is); (case l7 => k_is); (case c7 => k_is); (case k7 => k_is)
    (case a8 => k_is); (case l8 => k_is); (case c8 => k_is); (case k8 => k_is)
    (case a9 => k_is); (case l9 => k_is); (case c9 => k_is); (case k9 => k_is)
    (case a10 => k_is); (case l10 => k_is); (case c10 => k_is); (case k10 => k_is)
    (case a11 => k_is); (case l11 => k_is); (case c11 => k_is); (case k11 => k_is)
    (case a12 => k_is); (case l12 => k_is); (case c12 => k_is); (case k12 => k_is)
    (case a13 => k_is); (case l13 => k_is); (case c13 => k_is); (case k13 => k_is)
    (case a14 => k_is); (case l14 => k_is); (case c14 => k_is); (case k14 => k_is)
    (case a15 => k_is); (case l15 => k_is); (case c15 => k_is); (case k15 => k_is)
    (case a16 => k_is); (case l16 => k_is); (case c16 => k_is); (case k16 => k_is)
    (case a17 => k_is); (case l17 => k_is); (case c17 => k_is); (case k17 => k_is)
    (case a18 => k_is); (case l18 => k_is); (case c18 => k_is); (case k18 => k_is)
    (case a19 => k_is); (case l19 => k_is); (case c19 => k_is); (case k19 => k_is)
    (case a20 => k_is); (case l20 => k_is); (case c20 => k_is); (case k20 => k_is)
    (case a21 => k_is); (case l21 => k_is); (case c21 => k_is); (case k21 => k_is)
    (case a22 => k_is); (case l22 => k_is); (case c22 => k_is); (case k22 => k_is)
    (case a23 => k_is); (case l23 => k_is); (case c23 => k_is); (case k23 => k_is)
    (case a24 => k_is); (case l24 => k_is); (case c24 => k_is); (case k24 => k_is)
    (case a25 => k_is); (case l25 => k_is); (case c25 => k_is); (case k25 => k_is)
    (case a26 => k_is); (case l26 => k_is); (case c26 => k_is); (case k26 => k_is)
    (case a27 => k_is); (case l27 => k_is); (case c27 => k_is); (case k27 => k_is)
    (case a28 => k_is); (case l28 => k_is); (case c28 => k_is); (case k28 => k_is)
    (case a29 => k_is); (case l29 => k_is); (case c29 => k_is); (case k29 => k_is)
    (case a30 => k_is); (case l30 => k_is); (case c30 => k_is); (case k30 => k_is)
    (case a31 => k_is); (case l31 => k_is); (case c31 => k_is); (case k31 => k_is)
    (case a32 => k_is); (case l32 => k_is); (case c32 => k_is); (case k32 => k_is)
    (case a33 => k_is); (case l33 => k_is); (case c33 => k_is); (case k33 => k_is)
    (case a34 => k_is); (case l34 => k_is); (case c34 => k_is); (case k34 => k_is)
    (case aK => k_is); (case lK => k_is); (case mK => rfl); (case okK => first | k_is | k_exc); (case gaK => first | k_is | k_exc); (case gtK => first | k_is | k_exc); (case clK => first | k_is | k_exc)
    (case aT => k_is); (case lT => k_is); (case mT => rfl); (case okT => first | k_is | k_exc); (case gaT => first | k_is | k_exc); (case gtT => first | k_is | k_exc); (case clT => first | k_is | k_exc)
    (case aW => k_is)
    (case aS => k_is)
    (case aO => k_is)
    (case aM => k_is)
    (case aX => k_is)
    (case kit0 => first | rfl | (refine My.kit_ref (by decide) ?_ ?_ ?_ <;> k_is) | (refine My.kit_ty (by decide) (by decide +kernel) ?_ <;> k_is))
    (case kit1 => first | rfl | (refine My.kit_ref (by decide) ?_ ?_ ?_ <;> k_is) | (refine My.kit_ty (by decide) (by decide +kernel) ?_ <;> k_is))
    (case kit2 => first | rfl | (refine My.kit_ref (by decide) ?_ ?_ ?_ <;> k_is) | (refine My.kit_ty (by decide) (by decide +kernel) ?_ <;> k_is))
    (case kit3 => first | rfl | (refine My.kit_ref (by decide) ?_ ?_ ?_ <;> k_is) | (refine My.kit_ty (by decide) (by decide +kernel) ?_ <;> k_is))
    (case kit4 => first | rfl | (refine My.kit_ref (by decide) ?_ ?_ ?_ <;> k_is) | (refine My.kit_ty (by decide) (by decide +kernel) ?_ <;> k_is))
    (case kit5 => first | rfl | (refine My.kit_ref (by decide) ?_ ?_ ?_ <;> k_is) | (refine My.kit_ty (by decide) (by decide +kernel) ?_ <;> k_is))
    (case kit6 => first | rfl | (refine My.kit_ref (by decide) ?_ ?_ ?_ <;> k_is) | (refine My.kit_ty (by decide) (by decide +kernel) ?_ <;> k_is))
    (case aR => k_is)
    (case cpg => k_is)
    (case chd => k_is)
    (case cpo => k_is)
    (case csa => k_is)
    (case ctx => k_is)
    (case cpl => k_is)
    (case cmk => k_is)
    (case ckp => k_is)
    (case aFig => k_is)
    (case aMost => k_is)
    (case aDp => k_is)
    (case hcT => rfl)
    (case aSg => k_is)
    (case tbS => first | rfl | with_unfolding_all rfl | decide +kernel)
    (case aIs => k_is)
    (case tbI => first | rfl | with_unfolding_all rfl | decide +kernel)
    (case aLv => k_is)
    (case lkLv => k_is)
    (case tbLv => first | rfl | with_unfolding_all rfl | decide +kernel)
    (case tpLv0 => k_is)
    (case tpLv1 => k_is)
    (case aWo => k_is)
    (case lkWo => k_is)
    (case tbWo => first | rfl | with_unfolding_all rfl | decide +kernel)
    (case tpWo0 => k_is)
    (case tpWo1 => k_is)
    (case aWt => k_is)
    (case lkWt => k_is)
    (case tbWt => first | rfl | with_unfolding_all rfl | decide +kernel)
    (case tpWt0 => k_is)
    (case tpWt1 => k_is)
    (case mII => k_is)
    (case nII => k_is)
    (case lII => k_is)
    (case cII => k_is)
    (case kII => k_is)
    (case mUU => k_is)
    (case nUU => k_is)
    (case lUU => k_is)
    (case cUU => k_is)
    (case kUU => k_is)
    (case mAA => k_is)
    (case nAA => k_is)
    (case lAA => k_is)
    (case cAA => k_is)
    (case kAA => k_is)
    (case mBB => k_is)
    (case nBB => k_is)
    (case lBB => k_is)
    (case cBB => k_is)
    (case kBB => k_is)
    (case mEE => k_is)
    (case nEE => k_is)
    (case lEE => k_is)
    (case cEE => k_is)
    (case kEE => k_is)
    (case mFF => k_is)
    (case nFF => k_is)
    (case lFF => k_is)
    (case cFF => k_is)
    (case kFF => k_is)
    (case mZZ => k_is)
    (case nZZ => k_is)
    (case lZZ => k_is)
    (case cZZ => k_is)
    (case kZZ => k_is)
    (case mNN => k_is)
    (case nNN => k_is)
    (case lNN => k_is)
    (case cNN => k_is)
    (case kNN => k_is)
    (case mYY => k_is)
    (case nYY => k_is)
    (case lYY => k_is)
    (case cYY => k_is)
    (case kYY => k_is)
    (case aL => k_is); (case lL => k_is); (case cL => k_is); (case kL => k_is)
    (case z_range => k_is); (case z_list => k_is); (case z_len => k_is); (case z_int => k_is); (case z_bool => k_is); (case z_str => k_is); (case z_isinstance => k_is); (case z_sum => k_is); (case z_tuple => k_is); (case z_abs => k_is); (case z_zip => k_is); (case z_enumerate => k_is); (case z_ValueError => k_is)
