import PyProof.Rows.All
import Wide.All
import OpenK.AllK
import Wide.FinOn
import Lean
import PyProof.EqAt
import PyProof.EqKinds
import PyProof.TupleCall
import KE.IntTextLaws
import PySem.Challenge.RW_evenkin_k92_web_texts_refused
set_option Elab.async false
set_option linter.all false
set_option maxRecDepth 100000
namespace L2
open PySem PySem.Spec PyProof.Rows
abbrev Key := Sum Int Str
def keyIs : Key → Value → Bool
  | .inl k, v => Value.isInt k v
  | .inr x, v => Value.isStrOf x v
def keyH (w : World) : Key → Int
  | .inl k => hashInt k
  | .inr x => hashStr w x
theorem keyIs_shape : ∀ {k : Key} {v : Value}, keyIs k v = true → (∃ i t, k = Sum.inl i ∧ v = Value.int i t) ∨ (∃ x t, k = Sum.inr x ∧ v = Value.str x t)
  | .inl i, v, h => by
    obtain ⟨t, e⟩ := Value.isInt_shape (k := i) (v := v) h
    exact .inl ⟨i, t, rfl, e⟩
  | .inr x, v, h => by
    obtain ⟨t, e⟩ := Value.isStrOf_shape (x := x) (v := v) h
    exact .inr ⟨x, t, rfl, e⟩
theorem key_ll (a b : Int) : decide ((Sum.inl a : Key) = Sum.inl b) = (a == b) := by
  by_cases e : a = b
  · subst e; simp
  · have h : ¬ (Sum.inl a : Key) = Sum.inl b := fun q => e (Sum.inl.inj q)
    rw [decide_eq_false h]
    exact (beq_eq_false_iff_ne.mpr e).symm
theorem key_rr (a b : Str) : decide ((Sum.inr a : Key) = Sum.inr b) = decide (a = b) := by
  by_cases e : a = b
  · subst e; simp
  · have h : ¬ (Sum.inr a : Key) = Sum.inr b := fun q => e (Sum.inr.inj q)
    rw [decide_eq_false h, decide_eq_false e]
theorem key_lr (a : Int) (b : Str) : decide ((Sum.inl a : Key) = Sum.inr b) = false := decide_eq_false (fun q => nomatch q)
theorem key_rl (a : Str) (b : Int) : decide ((Sum.inr a : Key) = Sum.inl b) = false := decide_eq_false (fun q => nomatch q)
def mixKind (prog : Program) (w : World) : PySem.KeyKind prog w Key where
  is := keyIs
  hash := keyH w
  inj := fun v a b ha hb => by
    rcases keyIs_shape ha with ⟨i, t, rfl, rfl⟩ | ⟨x, t, rfl, rfl⟩
    · rcases keyIs_shape hb with ⟨j, u, rfl, e⟩ | ⟨y, u, rfl, e⟩
      · injection e with e1 _; rw [e1]
      · exact nomatch e
    · rcases keyIs_shape hb with ⟨j, u, rfl, e⟩ | ⟨y, u, rfl, e⟩
      · exact nomatch e
      · injection e with e1 _; rw [e1]
  byValue := fun k v h => by
    rcases keyIs_shape h with ⟨i, t, rfl, rfl⟩ | ⟨x, t, rfl, rfl⟩ <;> rfl
  pyHash := fun hv h => by
    rcases keyIs_shape hv with ⟨i, t, rfl, rfl⟩ | ⟨x, t, rfl, rfl⟩
    · exact wpAny_pyHash_int h
    · exact wpAny_pyHash_str h
  eqBool := fun hu hv h => by
    rcases keyIs_shape hu with ⟨i, t, rfl, rfl⟩ | ⟨x, t, rfl, rfl⟩
    · rcases keyIs_shape hv with ⟨j, u, rfl, rfl⟩ | ⟨y, u, rfl, rfl⟩
      · rw [key_ll] at h; exact wpAny_eqBool_int h
      · rw [key_lr] at h; exact SeqAt.EqAt.int_str i t y u _ _ _ _ h
    · rcases keyIs_shape hv with ⟨j, u, rfl, rfl⟩ | ⟨y, u, rfl, rfl⟩
      · rw [key_rl] at h; exact SeqAt.EqAt.str_int x t j u _ _ _ _ h
      · rw [key_rr] at h; exact wpAny_eqBool_str h
  «strs» := fun k x t v h => by
    rcases keyIs_shape h with ⟨i, u, rfl, e⟩ | ⟨y, u, rfl, e⟩
    · exact nomatch e
    · injection e with e1 _
      subst e1
      cases v <;> rfl
end L2
namespace L2
open PySem PySem.Spec PyProof.Rows
inductive V where
  | non | bl (b : Bool) | int (i : Int) | str (x : Str) | byt (b : Array UInt8) | flt (b : UInt64) | ref (a : Addr) | ty (n : String)
  deriving DecidableEq
def RelV : V → Value → Prop
  | .non, u => u = Value.none
  | .bl b, u => u = Value.bool b
  | .int i, u => ∃ t, u = Value.int i t
  | .str x, u => ∃ t, u = Value.str x t
  | .byt b, u => ∃ t, u = Value.bytes b t
  | .flt b, u => ∃ t, u = Value.float b t
  | .ref a, u => u = Value.ref a
  | .ty n, u => u = Value.type n
abbrev Vals : List V → List Value → Prop := Paired RelV
theorem Vals.length {xs : List V} {us : List Value} (r : Vals xs us) : xs.length = us.length := Paired.length r
theorem Vals.get : ∀ {xs : List V} {us : List Value} {i : Nat} {x : V}, Vals xs us → xs[i]? = some x → ∃ u, us[i]? = some u ∧ RelV x u
  | _, _, _, _, .nil, e => by simp at e
  | _, _, 0, _, .cons r _, e => by simp at e; subst e; exact ⟨_, rfl, r⟩
  | _, _, i + 1, x, .cons _ t, e => by
    obtain ⟨u, h1, h2⟩ := Vals.get (i := i) (x := x) t (by simpa using e)
    exact ⟨u, by simpa using h1, h2⟩
theorem Vals.set {x : V} {u : Value} (r : RelV x u) : ∀ {xs : List V} {us : List Value} (i : Nat), Vals xs us → Vals (xs.set i x) (us.set i u)
  | _, _, _, .nil => .nil
  | _, _, 0, .cons _ t => .cons r t
  | _, _, i + 1, .cons q t => .cons q (Vals.set r i t)
theorem Vals.append : ∀ {xs ys : List V} {us ws : List Value}, Vals xs us → Vals ys ws → Vals (xs ++ ys) (us ++ ws)
  | _, _, _, _, .nil, s => s
  | _, _, _, _, .cons r t, s => .cons r (Vals.append t s)
theorem Vals.take : ∀ {xs : List V} {us : List Value} (n : Nat), Vals xs us → Vals (xs.take n) (us.take n)
  | _, _, 0, _ => .nil
  | _, _, _ + 1, .nil => .nil
  | _, _, n + 1, .cons r t => .cons r (Vals.take n t)
theorem Vals.drop : ∀ {xs : List V} {us : List Value} (n : Nat), Vals xs us → Vals (xs.drop n) (us.drop n)
  | _, _, 0, r => r
  | _, _, _ + 1, .nil => .nil
  | _, _, n + 1, .cons _ t => Vals.drop n t
def RelO : Option V → Option Value → Prop
  | some v, some u => RelV v u
  | none, none => True
  | _, _ => False
def KV {κ : Type} : List (κ × V) → List (κ × Value) → Prop := Paired fun (p : κ × V) (q : κ × Value) => p.1 = q.1 ∧ RelV p.2 q.2
def kV : Key → V
  | .inl i => .int i
  | .inr x => .str x
inductive HO where
  | lst (xs : List V)
  | tup (xs : List V)
  | dK (kvs : List (Key × V)) | dT (kvs : List (List Key × V))
  | set (S : Int → Bool) (n : Nat)
  | ins (C dx : Addr) (fs : List (Str × V))
  | own (x : Addr)
  | xd (fs : List (Str × V))
  | met (f x : Addr)
  | rng (lo hi : Int)
  | frz (o : Obj) (u : HO)
  | tbl (ps : Array Value)
  | ext (φ : Heap → Prop)
abbrev Hp := Addr → Option HO
def upd (H : Hp) (a : Addr) (o : HO) : Hp := fun b => if b = a then some o else H b
theorem upd_same {H : Hp} {a : Addr} {o : HO} : upd H a o a = some o := by unfold upd; rw [if_pos rfl]
theorem upd_ne {H : Hp} {a b : Addr} {o : HO} (h : b ≠ a) : upd H a o b = H b := by unfold upd; rw [if_neg h]
theorem upd_upd {H : Hp} {a : Addr} {o u : HO} : upd (upd H a o) a u = upd H a u := by
  funext b; unfold upd; split <;> rfl
theorem ne_of_none {H : Hp} {a b : Addr} {o : HO} (h : H a = some o) (h' : H b = none) : a ≠ b := by
  intro e; subst e; rw [h] at h'; cases h'
section
variable (P : Program) (w : World)
def ObjOk (H : Hp) (h : Heap) (a : Addr) : HO → Prop
  | .lst xs => xs.length ≤ sizeLine ∧ ∃ (its : List Value) (n : Nat), Vals xs its ∧ h.get? a = some { cls := .type "list", data := .seq its.toArray n }
  | .tup xs => xs.length ≤ sizeLine ∧ ∃ its : List Value, Vals xs its ∧ IsTup h a its.toArray
  | .dK kvs => kvs.length ≤ sizeLine ∧ (a == sysModules) = false ∧ ∃ vs, KV kvs vs ∧ h.DictOf (mixKind P w) a vs
  | .dT kvs => kvs.length ≤ sizeLine ∧ (a == sysModules) = false ∧ ∃ xs : List (List Key × Addr × Value),
      Paired (fun (p : List Key × V) (q : List Key × Addr × Value) => p.1 = q.1 ∧ H q.2.1 = some (.tup (p.1.map kV)) ∧ RelV p.2 q.2.2) kvs xs ∧
      ∃ o es ep, h.get? a = some o ∧ o.ExactDict ∧ o.data = .dict es ep ∧ es.toList = xs.map (entryOfKey (tupleKind (mixKind P w))) ∧ (xs.map (·.1)).Nodup
  | .set S n => h.SetOf (intKind P w) a S n
  | .ins C dx fs => H dx = some (.own a) ∧ fs.length ≤ 1000 ∧ dx ≠ a ∧ h.get? a = some (PySem.W.instObj C dx) ∧
      ∃ mA, h.Ns1 dx mA ∧ (∀ f, RelO (fs.lookup f) (mA f)) ∧ PySem.Within mA (fs.map (·.1))
  | .own _ => ∃ o, h.get? a = some o
  | .xd fs => ∃ mA, h.Ns1 a mA ∧ ∀ f, RelO (fs.lookup f) (mA f)
  | .rng lo hi => ∃ t u v, h.get? a = some { cls := .type "range", data := .fields #[.int lo t, .int hi u, .int 1 v] }
  | .frz o u => h.get? a = some o ∧ ObjOk H h a u
  | .tbl ps => h.get? a = some { cls := .none, data := .fields ps }
  | .met f x => h.get? a = some (PySem.W.methodObj (.ref f) (.ref x))
  | .ext φ => φ h ∧ (∃ o, h.get? a = some o) ∧ ∀ h1 h2 : Heap, φ h1 → (∀ o, h1.get? a = some o → h2.get? a = some o) → φ h2
def HOk (H : Hp) (h : Heap) : Prop := ∀ a o, H a = some o → ObjOk P w H h a o
end
section
variable {P : Program} {w : World} {H H' : Hp} {h h' : Heap} {a : Addr} {o : HO}
theorem ObjOk.lt (x : ObjOk P w H h a o) : a < h.objs.size := by
  cases o with
  | lst xs => obtain ⟨_, _, _, _, e⟩ := x; exact Heap.lt_size e
  | tup xs => obtain ⟨_, _, _, p⟩ := x; exact p.lt
  | dK kvs => obtain ⟨_, _, _, _, o, _, _, e, _⟩ := x; exact Heap.lt_size e
  | dT kvs => obtain ⟨_, _, _, _, o, _, _, e, _⟩ := x; exact Heap.lt_size e
  | set S n => obtain ⟨o, _, _, _, e, _⟩ := x; exact Heap.lt_size e
  | ins C dx fs => obtain ⟨_, _, _, e, _⟩ := x; exact Heap.lt_size e
  | own y => obtain ⟨_, e⟩ := x; exact Heap.lt_size e
  | xd fs => obtain ⟨_, ⟨_, _, _, e, _⟩, _⟩ := x; exact Heap.lt_size e
  | rng lo hi => obtain ⟨_, _, _, e⟩ := x; exact Heap.lt_size e
  | frz ob u => obtain ⟨e, _⟩ := x; exact Heap.lt_size e
  | tbl ps => exact Heap.lt_size (show h.get? a = some _ from x)
  | met f y => exact Heap.lt_size (show h.get? a = some _ from x)
  | ext φ => obtain ⟨_, ⟨_, e⟩, _⟩ := x; exact Heap.lt_size e
theorem Paired.mapP {α β : Type} {F G : α → β → Prop} : ∀ {l₁ : List α} {l₂ : List β}, Paired F l₁ l₂ → (∀ a b, F a b → G a b) → Paired G l₁ l₂
  | _, _, .nil, _ => .nil
  | _, _, .cons r t, f => .cons (f _ _ r) (Paired.mapP t f)
theorem ObjOk.stay (x : ObjOk P w H h a o) (k : ∀ b u, (b = a ∨ H b = some (.own a)) → h.get? b = some u → h'.get? b = some u)
    (ho : ∀ b, H b = some (.own a) → H' b = some (.own a)) (ht : ∀ b xs, H b = some (.tup xs) → H' b = some (.tup xs)) : ObjOk P w H' h' a o := by
  induction o with
  | lst xs => obtain ⟨z, its, n, r, e⟩ := x; exact ⟨z, its, n, r, k _ _ (.inl rfl) e⟩
  | tup xs => obtain ⟨z, its, r, ob, e, c⟩ := x; exact ⟨z, its, r, ob, k _ _ (.inl rfl) e, c⟩
  | dK kvs => obtain ⟨z, y, vs, r, ob, es, ep, e, c⟩ := x; exact ⟨z, y, vs, r, ob, es, ep, k _ _ (.inl rfl) e, c⟩
  | dT kvs =>
    obtain ⟨z, y, xs, r, ob, es, ep, e, c⟩ := x
    exact ⟨z, y, xs, Paired.mapP r fun p q z => ⟨z.1, ht _ _ z.2.1, z.2.2⟩, ob, es, ep, k _ _ (.inl rfl) e, c⟩
  | set S n => obtain ⟨ob, es, ep, t, e, c⟩ := x; exact ⟨ob, es, ep, t, k _ _ (.inl rfl) e, c⟩
  | ins C dx fs =>
    obtain ⟨d, z, ne, e, mA, ⟨od, es, ep, e2, c⟩, r⟩ := x
    exact ⟨ho _ d, z, ne, k _ _ (.inl rfl) e, mA, ⟨od, es, ep, k _ _ (.inr d) e2, c⟩, r⟩
  | own y => obtain ⟨ob, e⟩ := x; exact ⟨ob, k _ _ (.inl rfl) e⟩
  | xd fs => obtain ⟨mA, ⟨od, es, ep, e, c⟩, r⟩ := x; exact ⟨mA, ⟨od, es, ep, k _ _ (.inl rfl) e, c⟩, r⟩
  | rng lo hi => obtain ⟨t, u, v, e⟩ := x; exact ⟨t, u, v, k _ _ (.inl rfl) e⟩
  | frz ob u ih => obtain ⟨e, q⟩ := x; exact ⟨k _ _ (.inl rfl) e, ih q⟩
  | tbl ps =>
    have e : h.get? a = some { cls := .none, data := .fields ps } := x
    show h'.get? a = some { cls := .none, data := .fields ps }
    exact k a _ (.inl rfl) e
  | met f y =>
    have e : h.get? a = some (PySem.W.methodObj (.ref f) (.ref y)) := x
    show h'.get? a = some (PySem.W.methodObj (.ref f) (.ref y))
    exact k a _ (.inl rfl) e
  | ext φ => obtain ⟨p, ⟨o, e⟩, st⟩ := x; exact ⟨st _ _ p fun o q => k _ _ (.inl rfl) q, ⟨o, k _ _ (.inl rfl) e⟩, st⟩
theorem HOk.lt (x : HOk P w H h) (e : H a = some o) : a < h.objs.size := (x a o e).lt
theorem HOk.fresh (x : HOk P w H h) (e : h.objs.size ≤ a) : H a = none := by
  cases q : H a with
  | none => rfl
  | some u => exact absurd (Nat.lt_of_lt_of_le (x.lt q) e) (Nat.lt_irrefl _)
theorem HOk.kept (x : HOk P w H h) (k : ∀ b u, h.get? b = some u → h'.get? b = some u) : HOk P w H h' := fun a o e =>
  (x a o e).stay (fun b u _ q => k b u q) (fun _ q => q) fun _ _ q => q
theorem HOk.laid (x : HOk P w H h) (k : ∀ b u, h.get? b = some u → h'.get? b = some u) (hp : h.objs.size ≤ a) (new : ObjOk P w (upd H a o) h' a o) : HOk P w (upd H a o) h' := fun b u e => by
  have hn := x.fresh hp
  by_cases hb : b = a
  · subst hb; rw [upd_same] at e; cases e; exact new
  · rw [upd_ne hb] at e
    exact (x b u e).stay (fun c v _ q => k c v q) (fun c q => by rw [upd_ne (ne_of_none q hn)]; exact q) fun c xs q => by rw [upd_ne (ne_of_none q hn)]; exact q
end
def Rd (H : Hp) (a : Addr) (u : HO) : Prop := H a = some u ∨ ∃ o, H a = some (.frz o u)
theorem Rd.ok {P : Program} {w : World} {H : Hp} {h : Heap} {a : Addr} {u : HO} (r : Rd H a u) (x : HOk P w H h) : ObjOk P w H h a u := by
  rcases r with r | ⟨o, r⟩
  · exact x a u r
  · obtain ⟨_, q⟩ := x a _ r
    exact q
def Mut : Option HO → Prop
  | some (.lst _) => True
  | some (.dK _) => True
  | some (.dT _) => True
  | some (.set _ _) => True
  | some (.ins _ _ _) => True
  | some (.ext _) => True
  | _ => False
section
variable {P : Program} {w : World} {H : Hp} {h h' : Heap} {x e : Addr} {o' : HO}
theorem HOk.write (ok : HOk P w H h) (mu : Mut (H x)) (he : e = x ∨ H e = some (.own x)) (k : ∀ b u, b ≠ e → h.get? b = some u → h'.get? b = some u) (heo : ∃ u, h'.get? e = some u)
    (new : ObjOk P w (upd H x o') h' x o') : HOk P w (upd H x o') h' := fun b u q => by
  have nown : ∀ c y, H c = some (.own y) → c ≠ x := fun c y r z => by subst z; rw [r] at mu; exact mu
  have ntup : ∀ c xs, H c = some (.tup xs) → c ≠ x := fun c xs r z => by subst z; rw [r] at mu; exact mu
  by_cases hb : b = x
  · subst hb; rw [upd_same] at q; cases q; exact new
  · rw [upd_ne hb] at q
    by_cases hbe : b = e
    · have q' : H b = some (.own x) := by
        rcases he with z | z
        · exact absurd (hbe.trans z) hb
        · rw [hbe]; exact z
      rw [q] at q'; cases q'
      obtain ⟨v, hv⟩ := heo
      exact ⟨v, by rw [hbe]; exact hv⟩
    · refine (ok b u q).stay (fun c v hc r => k c v ?_ r) (fun c r => by rw [upd_ne (nown c b r)]; exact r) fun c xs r => by rw [upd_ne (ntup c xs r)]; exact r
      rcases hc with rfl | hc
      · exact hbe
      · rintro rfl
        rcases he with z | z
        · exact nown c b hc z
        · rw [hc] at z; cases z; exact hb rfl
end
structure Un (fs ex : List Addr) (H H' : Hp) (h h' : Heap) : Prop where
  keep : ∀ b o, h.get? b = some o → H b = none → b ∉ fs → b ∉ ex → h'.get? b = some o
  slot : ∀ b o, h.get? b = some o → H b = none → b ∈ fs → b ∉ ex → ∃ sl, h'.get? b = some { o with slots := sl }
  free : ∀ b o, h.get? b = some o → H b = none → b ∉ ex → H' b = none
  there : ∀ b o, h.get? b = some o → b ∉ ex → ∃ o', h'.get? b = some o'
  tups : ∀ b xs, H b = some (.tup xs) → H' b = some (.tup xs)
  frzs : ∀ b o u, H b = some (.frz o u) → H' b = some (.frz o u)
  tbls : ∀ b ps, H b = some (.tbl ps) → ∃ more, H' b = some (.tbl (ps ++ more))
section
variable {fs fs' ex ex' : List Addr} {H H1 H2 : Hp} {h h1 h2 h' : Heap} {a x e : Addr} {o : HO}
theorem Un.any (u : Un fs ex H H1 h h1) {b : Addr} {ob : Obj} (q : h.get? b = some ob) (n : H b = none) (hx : b ∉ ex) : ∃ sl, h1.get? b = some { ob with slots := sl } := by
  by_cases hb : b ∈ fs
  · exact u.slot b ob q n hb hx
  · exact ⟨ob.slots, u.keep b ob q n hb hx⟩
theorem Un.kept (k : ∀ b u, h.get? b = some u → h'.get? b = some u) : Un fs ex H H h h' :=
  ⟨fun b ob q _ _ _ => k b ob q, fun b ob q _ _ _ => ⟨ob.slots, k b ob q⟩, fun _ _ _ n _ => n, fun b ob q _ => ⟨ob, k b ob q⟩, fun _ _ q => q, fun _ _ _ q => q, fun _ ps q => ⟨#[], by rw [q]; simp⟩⟩
theorem Un.refl : Un fs ex H H h h := Un.kept fun _ _ q => q
theorem Un.laid (k : ∀ b u, h.get? b = some u → h'.get? b = some u) (hp : h.objs.size ≤ a) (hn : H a = none) : Un fs ex H (upd H a o) h h' where
  keep := fun b u q _ _ _ => k b u q
  slot := fun b u q _ _ _ => ⟨u.slots, k b u q⟩
  free := fun b u q n _ => by rw [upd_ne (Nat.ne_of_lt (Nat.lt_of_lt_of_le (Heap.lt_size q) hp))]; exact n
  there := fun b u q _ => ⟨u, k b u q⟩
  tups := fun b xs q => by rw [upd_ne (ne_of_none q hn)]; exact q
  frzs := fun b u xs q => by rw [upd_ne (ne_of_none q hn)]; exact q
  tbls := fun b ps q => ⟨#[], by rw [upd_ne (ne_of_none q hn), q]; simp⟩
theorem Un.write (mu : Mut (H x)) (he : e = x ∨ H e = some (.own x)) (k : ∀ b u, b ≠ e → h.get? b = some u → h'.get? b = some u) (heo : ∃ u, h'.get? e = some u) : Un fs ex H (upd H x o) h h' := by
  have hx : ∀ b, H b = none → b ≠ x := fun b n z => by subst z; rw [n] at mu; exact mu
  have hb : ∀ b, H b = none → b ≠ e := fun b n z => by
    subst z
    rcases he with r | r
    · exact hx b n r
    · rw [n] at r; cases r
  have hm : ∀ b u, H b = some u → ¬ Mut (some u) → b ≠ x := fun b u q nm z => by subst z; rw [q] at mu; exact nm mu
  refine ⟨fun b u q n _ _ => k b u (hb b n) q, fun b u q n _ _ => ⟨u.slots, k b u (hb b n) q⟩, fun b u q n _ => by rw [upd_ne (hx b n)]; exact n, fun b u q _ => ?_,
    fun b xs q => by rw [upd_ne (hm b _ q fun z => z)]; exact q, fun b u xs q => by rw [upd_ne (hm b _ q fun z => z)]; exact q, fun b ps q => ⟨#[], by rw [upd_ne (hm b _ q fun z => z), q]; simp⟩⟩
  by_cases hbe : b = e
  · subst hbe; exact heo
  · exact ⟨u, k b u hbe q⟩
end
def trk (h : Heap) (H : Hp) : List Addr := (List.range h.objs.size).filter fun a => (H a).isSome
def hidT (h : Heap) (H : Hp) : Heap := PySem.W.hideAll h (trk h H)
theorem hidT_size (h : Heap) (H : Hp) : (hidT h H).objs.size = h.objs.size := PySem.W.hideAll_size _ _
theorem hidT_get {h : Heap} {H : Hp} {b : Addr} {o : Obj} (e : h.get? b = some o) (n : H b = none) : (hidT h H).get? b = some o :=
  PySem.W.hideAll_get _ e fun hm => by
    have q : (H b).isSome = true := (List.mem_filter.mp hm).2
    rw [n] at q; simp at q
theorem of_hidT {h : Heap} {H : Hp} {b : Addr} {o : Obj} (e : (hidT h H).get? b = some o) : h.get? b = some o ∧ H b = none := by
  have e' : h.get? b = some o := PySem.W.of_hideAll (trk h H) e
  refine ⟨e', ?_⟩
  cases q : H b with
  | none => rfl
  | some x =>
    have hm : b ∈ trk h H := List.mem_filter.mpr ⟨List.mem_range.mpr (Heap.lt_size e'), by simp [q]⟩
    have z : (hidT h H).get? b = none := PySem.W.hideAll_none (trk h H) hm
    rw [z] at e; cases e
def allNews (g h : Heap) (L : Addr) : List (Addr × Obj) := (List.range h.objs.size).filterMap fun a => if a = L ∨ (g.get? a).isSome = true then none else (h.get? a).map fun o => (a, o)
def rest (g h : Heap) (L d : Addr) : List (Addr × Obj) := (allNews g h L).filter fun p => decide (p.1 ≠ d)
end L2
namespace L2
open PySem PySem.Spec PyProof.Rows
structure Mod (K : PySem.W.Frag) (mg : Str → Option Value) (base : Heap) : Prop where
  kin : K.In base
  glob : base.Ns mainGlobals mg
  blt : ∃ mb, base.Ns builtinsNs mb ∧ ∀ x : Str, x ≠ "__name__" → mb x = bootBuiltins x
  nolimit : base.NoLimit
structure Cx where
  prog : Program
  w : World
  K : PySem.W.Frag
  mg : Str → Option Value
  base : Heap
  A : Around
  N : List Str
  s₀ : Shared
  H₀ : Hp
  env : Env
  outer : List Env
  stack : List Env
  ex : List Addr
  fn : Str → Bool
  calm : Bool
  pn : List (Addr × Obj)
  xe : Value → Shared → Prop
def frs (l : List Env) : List Addr := l.filterMap (·.frame)
abbrev Cx.fs (X : Cx) : List Addr := frs X.outer
def Vis (sc : Scope) (x : Str) : Prop := sc.names.lookup x = some .local ∨ sc.names.lookup x = some .cell ∨ sc.names.lookup x = some .free
def Loc (sc : Scope) (x : Str) : Prop := sc.names.lookup x = some .local ∨ sc.names.lookup x = some .cell
def Look (env : Env) (h : Heap) (m : Str → Option Value) (x : Str) (u : Value) : Prop :=
  (env.kindOf x = some .local ∧ m x = some u) ∨ ((env.kindOf x = some .cell ∨ env.kindOf x = some .free) ∧ ∃ c, env.cells.lookup x = some c ∧ h.IsCell c (some u))
structure Cx.Ok (X : Cx) : Prop where
  mod : Mod X.K X.mg X.base
  kind : X.env.scope.kind = .function
  glob : X.env.globals = mainGlobals
  blt : X.env.builtins = builtinsNs
  above : X.s₀.heap.objs.size ≤ X.env.locals
  inj : ∀ x y c, X.env.cells.lookup x = some c → X.env.cells.lookup y = some c → x = y
  has : ∀ x, (X.env.kindOf x = some .cell ∨ X.env.kindOf x = some .free) → ∃ c, X.env.cells.lookup x = some c
  cab : ∀ x c, X.fn x = true → X.env.cells.lookup x = some c → X.s₀.heap.objs.size ≤ c
  hd : X.calm = true → X.A.handled = none
  frames : X.A.frames = some X.stack
  stk : X.stack = X.outer ∨ (X.stack = X.env :: X.outer ∧ X.env.frame = some X.env.locals)
  exf : ∀ b ∈ X.ex, b ≠ X.env.locals ∧ ∀ x c, X.env.cells.lookup x = some c → c ≠ b
  bs : ∀ b o, X.base.get? b = some o → X.s₀.heap.get? b = some o ∧ X.H₀ b = none
  bsz : X.base.objs.size ≤ X.s₀.heap.objs.size
  noex : ∀ b o, X.base.get? b = some o → b ∉ X.ex
  exfs : ∀ b ∈ X.ex, b ∉ X.fs
  funs : X.s₀.heap.FunFrames X.base X.outer
  frf : ∀ b ∈ X.fs, X.H₀ b = none
structure Inv (X : Cx) (pins : List (Addr × Obj)) (σ : List (Option V)) (H : Hp) (s : Shared) : Prop where
  ok : X.Ok
  os : s.os = X.s₀.os
  bare : AllBare s.gens
  base : Un X.fs X.ex X.H₀ H X.s₀.heap s.heap
  loc : ∃ m, s.heap.Ns X.env.locals m ∧ ∀ (i : Nat) (x : Str) (v : V), X.N[i]? = some x → σ[i]? = some (some v) → Vis X.env.scope x → ∃ u, RelV v u ∧ Look X.env s.heap m x u
  cell : ∀ x c, X.env.cells.lookup x = some c → ∃ v, s.heap.IsCell c v
  free : H X.env.locals = none
  freeC : ∀ x c, X.env.cells.lookup x = some c → H c = none
  pin : ∀ p ∈ X.pn ++ pins, s.heap.get? p.1 = some p.2 ∧ H p.1 = none ∧ p.1 ≠ X.env.locals ∧ p.1 ∉ X.fs ∧ ∀ v, p.2.data ≠ .cell v
  hok : HOk X.prog X.w H s.heap
  len : σ.length = X.N.length
section
variable {X : Cx} {pins : List (Addr × Obj)} {σ : List (Option V)} {H H' : Hp} {s : Shared} {h' : Heap}
theorem Cx.Ok.nofr (ok : X.Ok) {b : Addr} {o : Obj} (e : X.base.get? b = some o) : b ∉ X.fs := fun hb => by
  have := (ok.funs.mem hb).1
  rw [e] at this; cases this
theorem Inv.bs (I : Inv X pins σ H s) : ∀ b o, X.base.get? b = some o → s.heap.get? b = some o ∧ H b = none := fun b o e =>
  ⟨I.base.keep b o (I.ok.bs b o e).1 (I.ok.bs b o e).2 (I.ok.nofr e) (I.ok.noex b o e), I.base.free b o (I.ok.bs b o e).1 (I.ok.bs b o e).2 (I.ok.noex b o e)⟩
theorem Inv.bk (I : Inv X pins σ H s) : ∀ b o, X.base.get? b = some o → s.heap.get? b = some o := fun b o e => (I.bs b o e).1
theorem Inv.mod (I : Inv X pins σ H s) : Mod X.K X.mg X.base := I.ok.mod
theorem Inv.kIn (I : Inv X pins σ H s) : X.K.In s.heap := I.ok.mod.kin.keeps I.bk
theorem Inv.lt (I : Inv X pins σ H s) : X.env.locals < s.heap.objs.size := let ⟨_, hn, _⟩ := I.loc; hn.lt
theorem Inv.sz (I : Inv X pins σ H s) : X.s₀.heap.objs.size ≤ s.heap.objs.size := Nat.le_trans I.ok.above (Nat.le_of_lt I.lt)
theorem Inv.nofs (I : Inv X pins σ H s) {a : Addr} (h : s.heap.objs.size ≤ a) : a ∉ X.fs := fun hb => by
  obtain ⟨_, o, ho, _⟩ := I.ok.funs.mem hb
  exact absurd (Nat.lt_of_lt_of_le (Heap.lt_size ho) (Nat.le_trans I.sz h)) (Nat.lt_irrefl _)
theorem Inv.cne (I : Inv X pins σ H s) : ∀ x c, X.env.cells.lookup x = some c → c ≠ X.env.locals := fun x c e z => by
  obtain ⟨v, o, ho, hd⟩ := I.cell x c e
  obtain ⟨m, ⟨o', es, ep, ho', hd', _⟩, _⟩ := I.loc
  rw [z, ho'] at ho; cases ho; rw [hd'] at hd; cases hd
theorem Inv.funs (I : Inv X pins σ H s) : s.heap.FunFrames X.base X.outer := by
  have all : ∀ (l : List Env), (∀ b ∈ frs l, b ∈ X.fs) → X.s₀.heap.FunFrames X.base l → s.heap.FunFrames X.base l := by
    intro l
    induction l with
    | nil => intro _ _; trivial
    | cons env r ih =>
      intro hs hl
      obtain ⟨hk, ⟨L, o, hf, hn, ho, hd⟩, hr⟩ := hl
      have hL : L ∈ X.fs := hs L (by unfold frs; rw [List.filterMap_cons, hf]; exact List.mem_cons_self)
      obtain ⟨sl, e⟩ := I.base.slot L o ho (I.ok.frf L hL) hL fun z => I.ok.exfs L z hL
      exact ⟨hk, ⟨L, _, hf, hn, e, hd⟩, ih (fun b hb => hs b (by unfold frs; rw [List.filterMap_cons, hf]; exact List.mem_cons_of_mem _ hb)) hr⟩
  exact all X.outer (fun _ hb => hb) I.ok.funs
theorem Inv.stack (I : Inv X pins σ H s) : s.heap.FunFrames X.base X.stack := by
  rcases I.ok.stk with e | ⟨e, hf⟩
  · rw [e]; exact I.funs
  · rw [e]
    obtain ⟨m, hn, _⟩ := I.loc
    refine .cons (by rw [I.ok.kind]; decide) hf hn ?_ I.funs
    exact Heap.get?_none_of_le (Nat.le_trans I.ok.bsz I.ok.above)
theorem Inv.stkSub (I : Inv X pins σ H s) : ∀ b ∈ frs X.stack, b ∈ X.env.locals :: X.fs := fun b hb => by
  rcases I.ok.stk with e | ⟨e, hf⟩
  · rw [e] at hb; exact List.mem_cons_of_mem _ hb
  · rw [e] at hb
    unfold frs at hb
    rw [List.filterMap_cons, hf] at hb
    exact hb
theorem Inv.stkFree (I : Inv X pins σ H s) : ∀ b ∈ frs X.stack, H b = none := fun b hb => by
  rcases List.mem_cons.mp (I.stkSub b hb) with e | hb
  · rw [e]; exact I.free
  · obtain ⟨_, o, ho, _⟩ := I.ok.funs.mem hb
    exact I.base.free b o ho (I.ok.frf b hb) fun z => I.ok.exfs b z hb
theorem Inv.step {g' : Array GenState} {t' : Nat} {d' : Drawn} {ch : List Addr} (I : Inv X pins σ H s)
    (hch : ∀ b ∈ ch, (b ∈ X.ex ∨ X.s₀.heap.objs.size ≤ b) ∧ b ≠ X.env.locals ∧ (∀ x c, X.env.cells.lookup x = some c → c ≠ b) ∧ ∀ p ∈ X.pn ++ pins, p.1 ≠ b)
    (keep : ∀ b o, b ≠ X.env.locals → b ∉ X.fs → b ∉ ch → s.heap.get? b = some o → H b = none → h'.get? b = some o)
    (slot : ∀ b o, b ≠ X.env.locals → b ∈ X.fs → b ∉ ch → s.heap.get? b = some o → H b = none → ∃ sl, h'.get? b = some { o with slots := sl }) (free : ∀ b o, b ∉ ch → s.heap.get? b = some o → H b = none → H' b = none)
    (there : ∀ b o, b ∉ ch → s.heap.get? b = some o → ∃ o', h'.get? b = some o')
    (tups : ∀ b xs, H b = some (.tup xs) → H' b = some (.tup xs)) (frzs : ∀ b o u, H b = some (.frz o u) → H' b = some (.frz o u)) (tbls : ∀ b ps, H b = some (.tbl ps) → ∃ more, H' b = some (.tbl (ps ++ more)))
    (ns : ∀ m, s.heap.Ns X.env.locals m → h'.Ns X.env.locals m) (hok : HOk X.prog X.w H' h') (hg : AllBare g') :
    Inv X pins σ H' { s with heap := h', gens := g', drawn := d', toks := t' } := by
  have neL : ∀ b o, X.s₀.heap.get? b = some o → b ≠ X.env.locals := fun b o e => Nat.ne_of_lt (Nat.lt_of_lt_of_le (Heap.lt_size e) I.ok.above)
  have neC : ∀ b o, X.s₀.heap.get? b = some o → b ∉ X.ex → b ∉ ch := fun b o e hx hb => by
    rcases (hch b hb).1 with z | z
    · exact hx z
    · exact absurd (Nat.lt_of_lt_of_le (Heap.lt_size e) z) (Nat.lt_irrefl _)
  have cellK : ∀ x c, X.env.cells.lookup x = some c → ∀ v, s.heap.IsCell c v → h'.IsCell c v := fun x c e v ⟨o, ho, hd⟩ => by
    have nch : c ∉ ch := fun z => (hch c z).2.2.1 x c e rfl
    by_cases hc : c ∈ X.fs
    · obtain ⟨sl, q⟩ := slot c o (I.cne x c e) hc nch ho (I.freeC x c e)
      exact ⟨_, q, hd⟩
    · exact ⟨o, keep c o (I.cne x c e) hc nch ho (I.freeC x c e), hd⟩
  refine ⟨I.ok, I.os, hg, ⟨fun b o e n hb hx => ?_, fun b o e n hb hx => ?_, fun b o e n hx => ?_, fun b o e hx => ?_, fun b xs e => tups b xs (I.base.tups b xs e), fun b o xs e => frzs b o xs (I.base.frzs b o xs e), fun b ps e => ?_⟩, ?_, fun x c e => ?_, ?_, fun x c e => ?_, fun p hp => ?_, hok, I.len⟩
  · exact keep b o (neL b o e) hb (neC b o e hx) (I.base.keep b o e n hb hx) (I.base.free b o e n hx)
  · obtain ⟨sl, e1⟩ := I.base.slot b o e n hb hx
    obtain ⟨sl', e2⟩ := slot b _ (neL b o e) hb (neC b o e hx) e1 (I.base.free b o e n hx)
    exact ⟨sl', e2⟩
  · obtain ⟨o', e1⟩ := I.base.there b o e hx
    exact free b o' (neC b o e hx) e1 (I.base.free b o e n hx)
  · obtain ⟨o', e1⟩ := I.base.there b o e hx
    exact there b o' (neC b o e hx) e1
  · obtain ⟨m1, e1⟩ := I.base.tbls b ps e
    obtain ⟨m2, e2⟩ := tbls b _ e1
    exact ⟨m1 ++ m2, by rw [e2, Array.append_assoc]⟩
  · obtain ⟨m, hn, hl⟩ := I.loc
    refine ⟨m, ns m hn, fun i x v e1 e2 e3 => ?_⟩
    obtain ⟨u, r, l⟩ := hl i x v e1 e2 e3
    refine ⟨u, r, ?_⟩
    rcases l with l | ⟨k, c, e, z⟩
    · exact .inl l
    · exact .inr ⟨k, c, e, cellK x c e _ z⟩
  · obtain ⟨v, z⟩ := I.cell x c e
    exact ⟨v, cellK x c e v z⟩
  · obtain ⟨m, ⟨o, _, _, ho, _⟩, _⟩ := I.loc
    exact free _ o (fun z => (hch _ z).2.1 rfl) ho I.free
  · obtain ⟨v, o, ho, hd⟩ := I.cell x c e
    exact free c o (fun z => (hch c z).2.2.1 x c e rfl) ho (I.freeC x c e)
  · obtain ⟨e, n, ne, nf, d⟩ := I.pin p hp
    have nch : p.1 ∉ ch := fun z => (hch p.1 z).2.2.2 p hp rfl
    exact ⟨keep p.1 p.2 ne nf nch e n, free p.1 p.2 nch e n, ne, nf, d⟩
theorem Inv.un {t' : Nat} (I : Inv X pins σ H s) (u : Un X.fs [] H H' s.heap h') (hok : HOk X.prog X.w H' h') : Inv X pins σ H' { s with heap := h', toks := t' } := by
  obtain ⟨m, ⟨o, es, ep, ho, r⟩, _⟩ := id I.loc
  obtain ⟨sl, hL⟩ := u.any ho I.free (by simp)
  exact I.step (g' := s.gens) (d' := s.drawn) (ch := []) (fun _ z => nomatch z) (fun b o _ hb _ e n => u.keep b o e n hb (by simp)) (fun b o _ hb _ e n => u.slot b o e n hb (by simp)) (fun b o _ e n => u.free b o e n (by simp)) (fun b o _ e => u.there b o e (by simp)) u.tups u.frzs u.tbls (fun m' hm => by
    obtain ⟨o', es', ep', ho', r'⟩ := hm
    rw [ho] at ho'; cases ho'
    exact ⟨_, es', ep', hL, r'⟩) hok I.bare
theorem Inv.call {g' : Array GenState} {t' : Nat} {d' : Drawn} {ch : List Addr} (I : Inv X pins σ H s) (u : Un (frs X.stack) ch H H' s.heap h') (hok : HOk X.prog X.w H' h') (hg : AllBare g')
    (hch : ∀ b ∈ ch, (b ∈ X.ex ∨ X.s₀.heap.objs.size ≤ b) ∧ b ≠ X.env.locals ∧ (∀ x c, X.env.cells.lookup x = some c → c ≠ b) ∧ ∀ p ∈ X.pn ++ pins, p.1 ≠ b) :
    Inv X pins σ H' { s with heap := h', gens := g', drawn := d', toks := t' } := by
  obtain ⟨m, ⟨o, es, ep, ho, r⟩, _⟩ := id I.loc
  obtain ⟨sl, hL⟩ := u.any ho I.free fun z => (hch _ z).2.1 rfl
  exact I.step (ch := ch) hch (fun b o hL hb hc e n => u.keep b o e n (fun z => (List.mem_cons.mp (I.stkSub b z)).elim hL hb) hc) (fun b o _ _ hc e n => u.any e n hc) (fun b o hc e n => u.free b o e n hc) (fun b o hc e => u.there b o e hc) u.tups u.frzs u.tbls (fun m' hm => by
    obtain ⟨o', es', ep', ho', r'⟩ := hm
    rw [ho] at ho'; cases ho'
    exact ⟨_, es', ep', hL, r'⟩) hok hg
theorem Inv.turned {t' : Nat} {it : Addr} (I : Inv X pins σ H s) (k : ∀ b o, b ≠ it → s.heap.get? b = some o → h'.get? b = some o) (hn : H it = none) (hL : it ≠ X.env.locals)
    (h1 : it ∈ X.ex ∨ X.s₀.heap.objs.size ≤ it) (h2 : ∀ x c, X.env.cells.lookup x = some c → c ≠ it) (h3 : ∀ p ∈ X.pn ++ pins, p.1 ≠ it) : Inv X pins σ H { s with heap := h', toks := t' } := by
  have nit : ∀ b u, H b = some u → b ≠ it := fun b u e z => by rw [z, hn] at e; cases e
  refine I.step (g' := s.gens) (d' := s.drawn) (ch := [it]) (fun b hb => ?_) (fun b o _ _ hc e _ => k b o (fun z => hc (by simp [z])) e) (fun b o _ _ hc e _ => ⟨o.slots, k b o (fun z => hc (by simp [z])) e⟩) (fun _ _ _ _ n => n)
    (fun b o hc e => ⟨o, k b o (fun z => hc (by simp [z])) e⟩) (fun _ _ e => e) (fun _ _ _ e => e) (fun b ps e => ⟨#[], by rw [e]; simp⟩) (fun m hm => ?_) (fun b u e => ?_) I.bare
  · have e : b = it := by simpa using hb
    subst e
    exact ⟨h1, hL, h2, h3⟩
  · obtain ⟨o, es, ep, ho, r⟩ := hm
    exact ⟨o, es, ep, k _ o (Ne.symm hL) ho, r⟩
  · refine (I.hok b u e).stay (fun c v hc q => k c v ?_ q) (fun _ q => q) fun _ _ q => q
    rcases hc with z | z
    · rw [z]; exact nit b u e
    · exact nit c _ z
theorem Inv.tok (I : Inv X pins σ H s) (t : Nat) : Inv X pins σ H { s with toks := t } := I.un (h' := s.heap) (t' := t) Un.refl I.hok
theorem Inv.kept {t' : Nat} (I : Inv X pins σ H s) (k : ∀ b u, s.heap.get? b = some u → h'.get? b = some u) : Inv X pins σ H { s with heap := h', toks := t' } := I.un (Un.kept k) (I.hok.kept k)
theorem Inv.laid {a : Addr} {o : HO} {t' : Nat} (I : Inv X pins σ H s) (k : ∀ b u, s.heap.get? b = some u → h'.get? b = some u) (hp : s.heap.objs.size ≤ a) (new : ObjOk X.prog X.w (upd H a o) h' a o) :
    Inv X pins σ (upd H a o) { s with heap := h', toks := t' } := I.un (Un.laid k hp (I.hok.fresh hp)) (I.hok.laid k hp new)
theorem Inv.write {x e : Addr} {o : HO} {t' : Nat} (I : Inv X pins σ H s) (mu : Mut (H x)) (he : e = x ∨ H e = some (.own x)) (k : ∀ b u, b ≠ e → s.heap.get? b = some u → h'.get? b = some u) (heo : ∃ u, h'.get? e = some u)
    (new : ObjOk X.prog X.w (upd H x o) h' x o) : Inv X pins σ (upd H x o) { s with heap := h', toks := t' } := I.un (Un.write mu he k heo) (I.hok.write mu he k heo new)
theorem Inv.pins_of {pins' : List (Addr × Obj)} (I : Inv X pins σ H s) (h : ∀ p ∈ pins', s.heap.get? p.1 = some p.2 ∧ H p.1 = none ∧ p.1 ≠ X.env.locals ∧ p.1 ∉ X.fs ∧ ∀ v, p.2.data ≠ .cell v) : Inv X pins' σ H s :=
  ⟨I.ok, I.os, I.bare, I.base, I.loc, I.cell, I.free, I.freeC, fun p hp => (List.mem_append.mp hp).elim (fun z => I.pin p (List.mem_append_left _ z)) (h p), I.hok, I.len⟩
theorem nodup_ix {N : List Str} (hN : N.Nodup) {i j : Nat} {x : Str} (a : N[i]? = some x) (b : N[j]? = some x) : i = j := by
  obtain ⟨h1, e1⟩ := List.getElem?_eq_some_iff.mp a
  obtain ⟨h2, e2⟩ := List.getElem?_eq_some_iff.mp b
  exact (List.getElem_inj hN).mp (e1.trans e2.symm)
theorem store_ok2 {M : Model} {A : Around} {E : Value → Shared → Prop} {i : Nat} {x : Str} {v : V} {u : Value} {Q : Unit → Shared → Prop} (I : Inv X pins σ H s) (hN : X.N.Nodup) (hi : X.N[i]? = some x) (hx : Loc X.env.scope x) (r : RelV v u)
    (h : ∀ s', Inv X pins (σ.set i (some v)) H s' → (∃ a, Heap.SameBut a s.heap s'.heap ∧ (a = X.env.locals ∨ X.env.cells.lookup x = some a)) → Q () s') (hf : X.fn x = true ∨ X.env.scope.names.lookup x = some .local := by first | exact .inl rfl | exact .inr rfl | assumption) : wpAny M A (storeName X.env x u) Q E s := by
  obtain ⟨m, hn, hl⟩ := id I.loc
  have hcls : (X.env.scope.kind == .class || (X.env.scope.kind == .module && X.env.locals != X.env.globals)) = false := by rw [I.ok.kind]; rfl
  have hiσ : i < σ.length := by rw [I.len]; exact (List.getElem?_eq_some_iff.mp hi).1
  have cne := I.cne
  have tracked : ∀ {a : Addr} {h' : Heap}, (∃ o, s.heap.get? a = some o ∧ H a = none) → Heap.SameBut a s.heap h' → HOk X.prog X.w H h' := fun {a h'} ha hs b ob e => by
    obtain ⟨_, _, hfree⟩ := ha
    refine (I.hok b ob e).stay (fun c w' hc q => (hs.2 c ?_).trans q) (fun _ q => q) fun _ _ q => q
    rintro rfl
    rcases hc with rfl | hc
    · rw [hfree] at e; cases e
    · rw [hfree] at hc; cases hc
  rcases hx with hk | hk
  · refine wpAny_storeName_local hk hn (fun h' hn' hs => ?_) hcls
    obtain ⟨oL, _, _, hoL, _⟩ := id hn
    refine h _ ⟨I.ok, I.os, I.bare, ⟨fun b o e n hb hx => ?_, fun b o e n hb hx => ?_, I.base.free, fun b o e hx => ?_, I.base.tups, I.base.frzs, I.base.tbls⟩, ⟨_, hn', fun j y v' e1 e2 e3 => ?_⟩, fun y c e => ?_, I.free, I.freeC, fun p hp => ?_, tracked ⟨oL, hoL, I.free⟩ hs, by simpa using I.len⟩ ⟨_, hs, .inl rfl⟩
    · exact (hs.2 b (Nat.ne_of_lt (Nat.lt_of_lt_of_le (Heap.lt_size e) I.ok.above))).trans (I.base.keep b o e n hb hx)
    · obtain ⟨sl, e1⟩ := I.base.slot b o e n hb hx
      exact ⟨sl, (hs.2 b (Nat.ne_of_lt (Nat.lt_of_lt_of_le (Heap.lt_size e) I.ok.above))).trans e1⟩
    · obtain ⟨o', e1⟩ := I.base.there b o e hx
      exact ⟨o', (hs.2 b (Nat.ne_of_lt (Nat.lt_of_lt_of_le (Heap.lt_size e) I.ok.above))).trans e1⟩
    · by_cases hj : j = i
      · subst hj
        rw [hi] at e1; cases e1
        rw [List.getElem?_set_self hiσ] at e2
        cases e2
        exact ⟨u, r, .inl ⟨hk, by simp⟩⟩
      · rw [List.getElem?_set_ne (Ne.symm hj)] at e2
        obtain ⟨u', r', q⟩ := hl j y v' e1 e2 e3
        refine ⟨u', r', ?_⟩
        rcases q with ⟨k, e⟩ | ⟨k, c, e, z⟩
        · refine .inl ⟨k, ?_⟩
          have : y ≠ x := fun e => hj (nodup_ix hN e1 (e ▸ hi))
          simp [this, e]
        · exact .inr ⟨k, c, e, z.sameBut hs (cne y c e)⟩
    · obtain ⟨w', z⟩ := I.cell y c e
      exact ⟨w', z.sameBut hs (cne y c e)⟩
    · obtain ⟨e, n, ne, nf, d⟩ := I.pin p hp
      exact ⟨(hs.2 p.1 ne).trans e, n, ne, nf, d⟩
  · have hfn : X.fn x = true := by
      rcases hf with z | z
      · exact z
      · rw [z] at hk; cases hk
    obtain ⟨c, hc⟩ := I.ok.has x (.inl hk)
    obtain ⟨w', z⟩ := I.cell x c hc
    refine wpAny_storeName_cell I.ok.kind hk hc z (fun h' hc' hs => ?_)
    obtain ⟨oc, hoc, hocd⟩ := id z
    refine h { s with heap := h' } ⟨I.ok, I.os, I.bare, ⟨fun b o e n hb hx => ?_, fun b o e n hb hx => ?_, I.base.free, fun b o e hx => ?_, I.base.tups, I.base.frzs, I.base.tbls⟩, ⟨m, hn.sameBut hs (Ne.symm (cne x c hc)), fun j y v' e1 e2 e3 => ?_⟩, fun y c' e => ?_, I.free, I.freeC, fun p hp => ?_, tracked ⟨oc, hoc, I.freeC x c hc⟩ hs, by simpa using I.len⟩ ⟨c, hs, .inr hc⟩
    · exact (hs.2 b (Nat.ne_of_lt (Nat.lt_of_lt_of_le (Heap.lt_size e) (I.ok.cab x c hfn hc)))).trans (I.base.keep b o e n hb hx)
    · obtain ⟨sl, e1⟩ := I.base.slot b o e n hb hx
      exact ⟨sl, (hs.2 b (Nat.ne_of_lt (Nat.lt_of_lt_of_le (Heap.lt_size e) (I.ok.cab x c hfn hc)))).trans e1⟩
    · obtain ⟨o', e1⟩ := I.base.there b o e hx
      exact ⟨o', (hs.2 b (Nat.ne_of_lt (Nat.lt_of_lt_of_le (Heap.lt_size e) (I.ok.cab x c hfn hc)))).trans e1⟩
    · by_cases hj : j = i
      · subst hj
        rw [hi] at e1; cases e1
        rw [List.getElem?_set_self hiσ] at e2
        cases e2
        exact ⟨u, r, .inr ⟨.inl hk, c, hc, hc'⟩⟩
      · rw [List.getElem?_set_ne (Ne.symm hj)] at e2
        obtain ⟨u', r', q⟩ := hl j y v' e1 e2 e3
        refine ⟨u', r', ?_⟩
        rcases q with q | ⟨k, c', e, z'⟩
        · exact .inl q
        · refine .inr ⟨k, c', e, z'.sameBut hs ?_⟩
          rintro rfl
          exact hj (nodup_ix hN e1 (I.ok.inj _ _ _ e hc ▸ hi))
    · by_cases hcc : c' = c
      · subst hcc; exact ⟨_, hc'⟩
      · obtain ⟨w2, z2⟩ := I.cell y c' e
        exact ⟨w2, z2.sameBut hs hcc⟩
    · obtain ⟨e, n, ne, nf, d⟩ := I.pin p hp
      refine ⟨(hs.2 p.1 ?_).trans e, n, ne, nf, d⟩
      intro q
      rw [q, hoc] at e
      have q' : oc = p.2 := Option.some.inj e
      exact d w' (by rw [← q']; exact hocd)
theorem store_ok {M : Model} {A : Around} {E : Value → Shared → Prop} {i : Nat} {x : Str} {v : V} {u : Value} {Q : Unit → Shared → Prop} (I : Inv X pins σ H s) (hN : X.N.Nodup) (hi : X.N[i]? = some x) (hx : Loc X.env.scope x) (r : RelV v u)
    (h : ∀ s', Inv X pins (σ.set i (some v)) H s' → Q () s') (hf : X.fn x = true ∨ X.env.scope.names.lookup x = some .local := by first | exact .inl rfl | exact .inr rfl | assumption) : wpAny M A (storeName X.env x u) Q E s :=
  store_ok2 I hN hi hx r (fun s' I' _ => h s' I') hf
theorem Inv.call' {s' : Shared} {ch : List Addr} (I : Inv X pins σ H s) (ho : s'.os = s.os) (u : Un (frs X.stack) ch H H' s.heap s'.heap) (hok : HOk X.prog X.w H' s'.heap) (hg : AllBare s'.gens)
    (hch : ∀ b ∈ ch, (b ∈ X.ex ∨ X.s₀.heap.objs.size ≤ b) ∧ b ≠ X.env.locals ∧ (∀ x c, X.env.cells.lookup x = some c → c ≠ b) ∧ ∀ p ∈ X.pn ++ pins, p.1 ≠ b) : Inv X pins σ H' s' := by
  obtain ⟨h', g', d', t', o'⟩ := s'
  have e : o' = s.os := ho
  subst e
  exact I.call (g' := g') (t' := t') (d' := d') u hok hg hch
end
abbrev XK := Value → Option Addr → Hp → Prop
abbrev St := List (Option V)
abbrev VK := V → Hp → Prop
abbrev TE := St → Hp → VK → Prop
abbrev TT := St → Hp → (Bool → Hp → Prop) → Prop
abbrev TA := St → Hp → (List V → Hp → Prop) → Prop
structure Ends where
  nx : St → Hp → Prop
  rt : VK
  bk : St → Hp → Prop := fun _ _ => False
  ct : St → Hp → Prop := fun _ _ => False
abbrev TS := Ends → St → Hp → Prop
def EP (X : Cx) (pins : List (Addr × Obj)) (σ : St) (Q : VK) (u : Value) (s' : Shared) : Prop := ∃ v H', Inv X pins σ H' s' ∧ RelV v u ∧ Q v H'
def TP (X : Cx) (pins : List (Addr × Obj)) (σ : St) (Q : Bool → Hp → Prop) (b : Bool) (s' : Shared) : Prop := ∃ H', Inv X pins σ H' s' ∧ Q b H'
def AP (X : Cx) (pins : List (Addr × Obj)) (σ : St) (Q : List V → Hp → Prop) (us : List Value) (s' : Shared) : Prop := ∃ vs H', Inv X pins σ H' s' ∧ Vals vs us ∧ Q vs H'
def SP (X : Cx) (pins : List (Addr × Obj)) (D : Ends) (f : Flow) (s' : Shared) : Prop :=
  match f with
  | .next => ∃ σ' H', Inv X pins σ' H' s' ∧ D.nx σ' H'
  | .brk => ∃ σ' H', Inv X pins σ' H' s' ∧ D.bk σ' H'
  | .cont => ∃ σ' H', Inv X pins σ' H' s' ∧ D.ct σ' H'
  | .ret u => ∃ v σ' H', Inv X pins σ' H' s' ∧ RelV v u ∧ D.rt v H'
def PE (X : Cx) (e : Expr) (t : TE) : Prop :=
  ∀ (pins : List (Addr × Obj)) (s : Shared) (σ : St) (H : Hp) (Q : VK), Inv X pins σ H s → t σ H Q → wpAny (model X.prog X.w) X.A (eval e X.env) (EP X pins σ Q) X.xe s
def PT (X : Cx) (e : Expr) (t : TT) : Prop :=
  ∀ (pins : List (Addr × Obj)) (s : Shared) (σ : St) (H : Hp) (Q : Bool → Hp → Prop), Inv X pins σ H s → t σ H Q → wpAny (model X.prog X.w) X.A (isTrue e X.env (eval e X.env)) (TP X pins σ Q) X.xe s
def PW (X : Cx) (e : Expr) (t : TT) : Prop :=
  ∀ (whole : Sem Value) (pins : List (Addr × Obj)) (s : Shared) (σ : St) (H : Hp) (Q : Bool → Hp → Prop), Inv X pins σ H s → t σ H Q → wpAny (model X.prog X.w) X.A (isTrue e X.env whole) (TP X pins σ Q) X.xe s
theorem PW.pt {X : Cx} {e : Expr} {t : TT} (h : PW X e t) : PT X e t := h _
def PA (X : Cx) (es : List Expr) (t : TA) : Prop :=
  ∀ (pos : Pos) (pins : List (Addr × Obj)) (s : Shared) (σ : St) (H : Hp) (Q : List V → Hp → Prop), Inv X pins σ H s → t σ H Q → wpAny (model X.prog X.w) X.A (spliced (backTo pos (starEach es X.env))) (AP X pins σ Q) X.xe s
def PS (X : Cx) (st : Stmt) (t : TS) : Prop :=
  ∀ (pins : List (Addr × Obj)) (s : Shared) (σ : St) (H : Hp) (D : Ends), Inv X pins σ H s → t D σ H → wpAny (model X.prog X.w) X.A (exec st X.env) (SP X pins D) X.xe s
def PSs (X : Cx) (st : List Stmt) (t : TS) : Prop :=
  ∀ (pins : List (Addr × Obj)) (s : Shared) (σ : St) (H : Hp) (D : Ends), Inv X pins σ H s → t D σ H → wpAny (model X.prog X.w) X.A (execs st X.env) (SP X pins D) X.xe s
theorem thn {α : Type} {t : Sem α} {Q Q' : α → Shared → Prop} {M : Model} {A : Around} {E : Value → Shared → Prop} {s : Shared} (h : wpAny M A t Q E s) (hQ : ∀ a s, Q a s → Q' a s) : wpAny M A t Q' E s := wpAny_mono h hQ fun _ _ x => x
end L2
namespace L2
open PySem PySem.Spec PyProof.Rows
section
variable {X : Cx}
theorem bin {a b : Expr} {ta tb : TE} (ha : PE X a ta) (hb : PE X b tb) {pins : List (Addr × Obj)} {s : Shared} {σ : St} {H : Hp} {R : V → V → Hp → Prop} (I : Inv X pins σ H s) (h : ta σ H fun x H1 => tb σ H1 fun y H2 => R x y H2)
    {α : Type} {Q : α → Shared → Prop} {f : Value → Value → Sem α}
    (hf : ∀ v u s2 x y H2, Inv X pins σ H2 s2 → RelV x v → RelV y u → R x y H2 → wpAny (model X.prog X.w) X.A (f v u) Q X.xe s2) :
    wpAny (model X.prog X.w) X.A (eval a X.env) (fun v s₁ => wpAny (model X.prog X.w) X.A (eval b X.env) (fun u s₂ => wpAny (model X.prog X.w) X.A (f v u) Q X.xe s₂) X.xe s₁) X.xe s := by
  refine thn (ha pins s σ H _ I h) fun v s1 ⟨x, H1, I1, r1, q1⟩ => ?_
  refine thn (hb pins s1 σ H1 _ I1 q1) fun u s2 ⟨y, H2, I2, r2, q2⟩ => ?_
  exact hf v u s2 x y H2 I2 r1 r2 q2
def tVar (i : Nat) : TE := fun σ H Q => ∃ v, σ[i]? = some (some v) ∧ Q v H
def tC (v : V) : TE := fun _ H Q => Q v H
theorem pe_var {i : Nat} {x : Str} {pos : Pos} (hN : X.N[i]? = some x) (hv : Vis X.env.scope x) (hd : (x == ("__debug__" : Str)) = false := by decide) (hcd : (x == ("__classdict__" : Str)) = false := by decide) : PE X (.Name x pos) (tVar i) := by
  intro pins s σ H Q I h
  obtain ⟨v, e, h⟩ := h
  obtain ⟨m, hn, hl⟩ := I.loc
  obtain ⟨u, r, l⟩ := hl i x v hN e hv
  have fin : EP X pins σ Q u s := ⟨v, H, I, r, h⟩
  rcases l with ⟨hk, hm⟩ | ⟨hk, c, hc, hcell⟩
  · exact wpAny_Name (wpAny_loadName_local I.ok.kind hk hn hm fin) hd
  · rcases hk with hk | hk
    · exact wpAny_Name (wpAny_loadName_cell I.ok.kind hk hc hcell fin) hd
    · exact wpAny_Name (wpAny_loadName_free I.ok.kind hk hc hcell fin hcd) hd
theorem pe_int {i j pos} : PE X (.Constant (.int i) j pos) (tC (.int i)) := fun _ _ _ H _ I h => wpAny_Constant_int ⟨.int i, H, I.tok _, ⟨_, rfl⟩, h⟩
theorem pe_bl {b j pos} : PE X (.Constant (.bool b) j pos) (tC (.bl b)) := fun _ _ _ H _ I h => Constant_bool ⟨.bl b, H, I, rfl, h⟩
theorem pe_non {j pos} : PE X (.Constant .none j pos) (tC .non) := fun _ _ _ H _ I h => Constant_none ⟨.non, H, I, rfl, h⟩
theorem pe_str {x j pos} : PE X (.Constant (.str x) j pos) (tC (.str x)) := fun _ _ _ H _ I h => Calls.Constant_str ⟨.str x, H, I.tok _, ⟨_, rfl⟩, h⟩
def Gl (X : Cx) (x : Str) : Prop := X.env.kindOf x = some .globalImplicit
theorem ld_glob {E : Value → Shared → Prop} {pins : List (Addr × Obj)} {s : Shared} {σ : St} {H : Hp} {x : Str} {u : Value} {pos : Pos} {Q : Value → Shared → Prop} (I : Inv X pins σ H s) (hg : Gl X x) (hm : X.mg x = some u) (h : Q u s)
    (hd : (x == ("__debug__" : Str)) = false := by decide) : wpAny (model X.prog X.w) X.A (eval (.Name x pos) X.env) Q E s :=
  Calls.Name_function_global I.ok.kind hg (Calls.loadGlobal_global (by rw [I.ok.glob]; exact I.mod.glob.keeps I.bk) hm h) hd
theorem ld_blt {E : Value → Shared → Prop} {pins : List (Addr × Obj)} {s : Shared} {σ : St} {H : Hp} {x : Str} {u : Value} {pos : Pos} {Q : Value → Shared → Prop} (I : Inv X pins σ H s) (hg : Gl X x) (hm : X.mg x = none) (hv : bootBuiltins x = some u) (h : Q u s)
    (hn : x ≠ "__name__" := by decide) (hd : (x == ("__debug__" : Str)) = false := by decide) : wpAny (model X.prog X.w) X.A (eval (.Name x pos) X.env) Q E s := by
  obtain ⟨mb, h1, h2⟩ := I.mod.blt
  exact Calls.Name_function_global I.ok.kind hg (Calls.loadGlobal_builtin (by rw [I.ok.glob]; exact I.mod.glob.keeps I.bk) hm (by rw [I.ok.blt]; exact h1.keeps I.bk) ((h2 x hn).trans hv) h) hd
theorem pe_glob {x : Str} {v : V} {u : Value} {pos : Pos} (hg : Gl X x) (hm : X.mg x = some u) (r : RelV v u) (hd : (x == ("__debug__" : Str)) = false := by decide) : PE X (.Name x pos) (tC v) :=
  fun _ _ _ H _ I h => ld_glob I hg hm ⟨v, H, I, r, h⟩ hd
theorem pe_bltn {x : Str} {v : V} {u : Value} {pos : Pos} (hg : Gl X x) (hm : X.mg x = none) (hv : bootBuiltins x = some u) (r : RelV v u) (hn : x ≠ "__name__" := by decide) (hd : (x == ("__debug__" : Str)) = false := by decide) : PE X (.Name x pos) (tC v) :=
  fun _ _ _ H _ I h => ld_blt I hg hm hv ⟨v, H, I, r, h⟩ hn hd
variable {a b : Expr} {ta tb : TE} {pos : Pos}
def PC (X : Cx) (op : CmpOp) (a b : Expr) (t : TE) : Prop :=
  ∀ (pins : List (Addr × Obj)) (s : Shared) (σ : St) (H : Hp) (Q : VK), Inv X pins σ H s → t σ H Q →
    wpAny (model X.prog X.w) X.A (eval a X.env) (fun v s₁ => wpAny (model X.prog X.w) X.A (eval b X.env) (fun u s₂ => wpAny (model X.prog X.w) X.A (compareOp op v u) (EP X pins σ Q) X.xe s₂) X.xe s₁) X.xe s
def tB (t : TE) : TT := fun σ H Q => t σ H fun x H1 => ∃ c, x = .bl c ∧ Q c H1
theorem pt_cmp {op : CmpOp} {t : TE} (h : PC X op a b t) (h1 : behindInMarks op b = false := by first | exact nobehind _ (by decide) (by decide) | rfl) : PT X (.Compare a [op] [b] pos) (tB t) := by
  intro pins s σ H Q I hw
  refine wpAny_isTrue_Compare1 (thn (h pins s σ H _ I hw) fun v s1 h1 => thn h1 fun u s2 h2 => thn h2 fun c s3 ⟨x, H1, I1, r1, q1⟩ => ?_) h1
  obtain ⟨d, rfl, q⟩ := q1
  cases r1
  exact wpAny_truthy_bool ⟨H1, I1, q⟩
theorem pt_val {e : Expr} {t : TE} (h : PE X e t) (he : ∀ whole, isTrue e X.env whole = (do let v ← whole; standAt e.pos; holding [v] (truthy v)) := by intro _; rfl) : PT X e (tB t) := by
  intro pins s σ H Q I hw
  refine isTrue_plain (thn (h pins s σ H _ I hw) fun v s1 ⟨x, H1, I1, r1, q1⟩ => ?_) (he _)
  obtain ⟨d, rfl, q⟩ := q1
  cases r1
  exact wpAny_truthy_bool ⟨H1, I1, q⟩
variable {tA tB' : TT} {rest : List Expr}
def tAnd (t u : TT) : TT := fun σ H Q => t σ H fun c H1 => if c = true then u σ H1 Q else Q false H1
def tOr (t u : TT) : TT := fun σ H Q => t σ H fun c H1 => if c = true then Q true H1 else u σ H1 Q
def tNot (t : TT) : TT := fun σ H Q => t σ H fun c H1 => Q (!c) H1
theorem pw_and1 (ha : PT X a tA) : PW X (.BoolOp .And [a] pos) tA := by
  intro wh pins s σ H Q I h
  refine isTrue_and (thn (ha pins s σ H Q I h) fun c s1 e => ?_)
  cases c with
  | true => exact isTrue_and_nil e
  | false => exact e
theorem pw_or1 (ha : PT X a tA) : PW X (.BoolOp .Or [a] pos) tA := by
  intro wh pins s σ H Q I h
  refine isTrue_or (thn (ha pins s σ H Q I h) fun c s1 e => ?_)
  cases c with
  | false => exact isTrue_or_nil e
  | true => exact e
theorem pw_and (ha : PT X a tA) (hb : PW X (.BoolOp .And (b :: rest) pos) tB') : PW X (.BoolOp .And (a :: b :: rest) pos) (tAnd tA tB') := by
  intro wh pins s σ H Q I h
  refine isTrue_and (thn (ha pins s σ H _ I h) fun c s1 ⟨H1, I1, q1⟩ => ?_)
  cases c with
  | true => exact hb wh pins s1 σ H1 Q I1 q1
  | false => exact ⟨H1, I1, q1⟩
theorem pw_or (ha : PT X a tA) (hb : PW X (.BoolOp .Or (b :: rest) pos) tB') : PW X (.BoolOp .Or (a :: b :: rest) pos) (tOr tA tB') := by
  intro wh pins s σ H Q I h
  refine isTrue_or (thn (ha pins s σ H _ I h) fun c s1 ⟨H1, I1, q1⟩ => ?_)
  cases c with
  | true => exact ⟨H1, I1, q1⟩
  | false => exact hb wh pins s1 σ H1 Q I1 q1
theorem pt_not (ha : PT X a tA) : PT X (.UnaryOp .Not a pos) (tNot tA) := by
  intro pins s σ H Q I h
  exact isTrue_not (ha pins s σ H (fun c H1 => Q (!c) H1) I h)
def tAndV (ta tb : TE) : TE := fun σ H Q => ta σ H fun x H1 => ∃ c, x = .bl c ∧ if c = true then tb σ H1 Q else Q (.bl false) H1
def tOrV (ta tb : TE) : TE := fun σ H Q => ta σ H fun x H1 => ∃ c, x = .bl c ∧ if c = true then Q (.bl true) H1 else tb σ H1 Q
theorem pe_one {op} {t : TE} (h : PE X a t) : PE X (.BoolOp op [a] pos) t := fun pins s σ H Q I hw => BoolOp_one (h pins s σ H Q I hw)
theorem pe_and (ha : PE X a ta) (hb : PE X (.BoolOp .And (b :: rest) pos) tb) : PE X (.BoolOp .And (a :: b :: rest) pos) (tAndV ta tb) := by
  intro pins s σ H Q I h
  refine BoolOp_and (thn (ha pins s σ H _ I h) fun v s1 ⟨x, H1, I1, r1, q1⟩ => ?_)
  obtain ⟨c, rfl, q1⟩ := q1
  cases r1
  refine wpAny_truthy_bool ?_
  cases c with
  | true => exact hb pins s1 σ H1 Q I1 q1
  | false => exact ⟨.bl false, H1, I1, rfl, q1⟩
theorem pe_or (ha : PE X a ta) (hb : PE X (.BoolOp .Or (b :: rest) pos) tb) : PE X (.BoolOp .Or (a :: b :: rest) pos) (tOrV ta tb) := by
  intro pins s σ H Q I h
  refine BoolOp_or (thn (ha pins s σ H _ I h) fun v s1 ⟨x, H1, I1, r1, q1⟩ => ?_)
  obtain ⟨c, rfl, q1⟩ := q1
  cases r1
  refine wpAny_truthy_bool ?_
  cases c with
  | false => exact hb pins s1 σ H1 Q I1 q1
  | true => exact ⟨.bl true, H1, I1, rfl, q1⟩
end
end L2
namespace L2
open PySem PySem.Spec PyProof.Rows
def SqL (K : PySem.W.Frag) (H : Hp) (a : Addr) (xs : List V) : Prop :=
  Rd H a (.lst xs) ∨
    ∃ (o : Obj) (its : Array Value) (n : Nat), K.lookup a = some o ∧ o.cls = .type "list" ∧ o.dict = none ∧ o.data = .seq its n ∧ its.size ≤ sizeLine ∧ Vals xs its.toList
def SqT (K : PySem.W.Frag) (H : Hp) (a : Addr) (xs : List V) : Prop :=
  Rd H a (.tup xs) ∨
    ∃ (o : Obj) (its : Array Value) (n : Nat), K.lookup a = some o ∧ o.cls = .type "tuple" ∧ o.data = .seq its n ∧ its.size ≤ sizeLine ∧ Vals xs its.toList
def absV : Value → Option V
  | .none => some .non
  | .bool b => some (.bl b)
  | .int i _ => some (.int i)
  | .str x _ => some (.str x)
  | .bytes b _ => some (.byt b)
  | .float b _ => some (.flt b)
  | .ref a => some (.ref a)
  | .type n => some (.ty n)
  | _ => none
theorem RelV.abs {x : V} {u : Value} (r : RelV x u) : absV u = some x := by
  cases x with
  | non => cases r; rfl
  | bl _ => cases r; rfl
  | int _ => obtain ⟨t, rfl⟩ := r; rfl
  | str _ => obtain ⟨t, rfl⟩ := r; rfl
  | byt _ => obtain ⟨t, rfl⟩ := r; rfl
  | flt _ => obtain ⟨t, rfl⟩ := r; rfl
  | ref _ => cases r; rfl
  | ty _ => cases r; rfl
theorem RelV.inj {x y : V} {u : Value} (r : RelV x u) (q : RelV y u) : x = y := Option.some.inj (r.abs.symm.trans q.abs)
theorem Vals.inj : ∀ {xs ys : List V} {us : List Value}, Vals xs us → Vals ys us → xs = ys
  | _, _, _, .nil, .nil => rfl
  | _, _, _, .cons r t, .cons r' t' => by rw [r.inj r', Vals.inj t t']
section
variable {X : Cx} {pins : List (Addr × Obj)} {σ : St} {H : Hp} {s : Shared} {a : Addr} {xs ys : List V}
theorem SqL.of {K : PySem.W.Frag} (h : H a = some (.lst xs)) : SqL K H a xs := .inl (.inl h)
theorem SqT.of {K : PySem.W.Frag} (h : H a = some (.tup xs)) : SqT K H a xs := .inl (.inl h)
theorem Inv.list (I : Inv X pins σ H s) (h : SqL X.K H a xs) : ∃ its : List Value, Vals xs its ∧ PlainL s.heap a its.toArray ∧ xs.length ≤ sizeLine := by
  rcases h with h | ⟨o, its, n, hk, hc, hd, hs, hz, r⟩
  · obtain ⟨z, its, n, r, e⟩ := h.ok I.hok
    exact ⟨its, r, ⟨_, n, e, rfl, rfl, rfl⟩, z⟩
  · refine ⟨its.toList, r, ⟨o, n, I.kIn a o hk, hc, hd, by simpa using hs⟩, ?_⟩
    have e := r.length
    simp only [Array.length_toList] at e
    omega
theorem Inv.tuple (I : Inv X pins σ H s) (h : SqT X.K H a xs) : ∃ its : List Value, Vals xs its ∧ IsTup s.heap a its.toArray ∧ xs.length ≤ sizeLine := by
  rcases h with h | ⟨o, its, n, hk, hc, hs, hz, r⟩
  · obtain ⟨z, its, r, p⟩ := h.ok I.hok
    exact ⟨its, r, p, z⟩
  · refine ⟨its.toList, r, ⟨o, I.kIn a o hk, hc, n, by simpa using hs⟩, ?_⟩
    have e := r.length
    simp only [Array.length_toList] at e
    omega
theorem Inv.list_inj (I : Inv X pins σ H s) (h : SqL X.K H a xs) (h' : SqL X.K H a ys) : xs = ys := by
  obtain ⟨its, r, ⟨o, n, e, _, _, d⟩, _⟩ := I.list h
  obtain ⟨its', r', ⟨o', n', e', _, _, d'⟩, _⟩ := I.list h'
  rw [e] at e'; cases e'
  rw [d] at d'
  injection d' with d1 _
  have : its = its' := by simpa using congrArg Array.toList d1
  subst this
  exact r.inj r'
end
abbrev Cx.wish (X : Cx) (E : Value → Shared → Prop) : Cx := { X with xe := E }
abbrev Cx.nox (X : Cx) : Cx := X.wish fun _ _ => False
theorem Cx.Ok.wish {X : Cx} (ok : X.Ok) (E : Value → Shared → Prop) : (X.wish E).Ok :=
  ⟨ok.mod, ok.kind, ok.glob, ok.blt, ok.above, ok.inj, ok.has, ok.cab, ok.hd, ok.frames, ok.stk, ok.exf, ok.bs, ok.bsz, ok.noex, ok.exfs, ok.funs, ok.frf⟩
theorem Cx.Ok.unwish {X : Cx} {E : Value → Shared → Prop} (ok : (X.wish E).Ok) : X.Ok :=
  ⟨ok.mod, ok.kind, ok.glob, ok.blt, ok.above, ok.inj, ok.has, ok.cab, ok.hd, ok.frames, ok.stk, ok.exf, ok.bs, ok.bsz, ok.noex, ok.exfs, ok.funs, ok.frf⟩
section
variable {X : Cx} {pins : List (Addr × Obj)} {σ : St} {H : Hp} {s : Shared} {E : Value → Shared → Prop}
theorem Inv.wish (I : Inv X pins σ H s) (E : Value → Shared → Prop) : Inv (X.wish E) pins σ H s := ⟨I.ok.wish E, I.os, I.bare, I.base, I.loc, I.cell, I.free, I.freeC, I.pin, I.hok, I.len⟩
theorem Inv.unwish (I : Inv (X.wish E) pins σ H s) : Inv X pins σ H s := ⟨I.ok.unwish, I.os, I.bare, I.base, I.loc, I.cell, I.free, I.freeC, I.pin, I.hok, I.len⟩
theorem SP.unwish {D : Ends} {f : Flow} {s' : Shared} (h : SP (X.wish E) pins D f s') : SP X pins D f s' := by
  cases f with
  | next => obtain ⟨σ', H', I, q⟩ := h; exact ⟨σ', H', I.unwish, q⟩
  | brk => obtain ⟨σ', H', I, q⟩ := h; exact ⟨σ', H', I.unwish, q⟩
  | cont => obtain ⟨σ', H', I, q⟩ := h; exact ⟨σ', H', I.unwish, q⟩
  | ret u => obtain ⟨v, σ', H', I, r, q⟩ := h; exact ⟨v, σ', H', I.unwish, r, q⟩
theorem PSs.nox {st : List Stmt} {t : TS} (h : PSs X.nox st t) : PSs X st t := fun pins s σ H D I hw =>
  wpAny_mono (h pins s σ H D (I.wish _) hw) (fun _ _ q => q.unwish) fun _ _ z => False.elim z
end
section
variable {X : Cx} {st : Stmt} {rest : List Stmt} {t u : TS} {e : Expr} {te : TE} {pos : Pos}
def tNext : TS := fun D σ H => D.nx σ H
def tSeq (t u : TS) : TS := fun D σ H => t { D with nx := u D } σ H
theorem pss_nil : PSs X [] tNext := fun _ _ σ H _ I h => wpAny_execs_nil ⟨σ, H, I, h⟩
theorem pss_cons (h1 : PS X st t) (h2 : PSs X rest u) : PSs X (st :: rest) (tSeq t u) := by
  intro pins s σ H D I h
  refine wpAny_execs_cons (thn (h1 pins s σ H { D with nx := u D } I h) fun f s1 q => ?_)
  cases f with
  | next =>
    obtain ⟨σ', H', I', q⟩ := q
    exact h2 pins s1 σ' H' D I' q
  | ret v => exact q
  | brk => exact q
  | cont => exact q
theorem pss_one (h1 : PS X st t) : PSs X [st] t := by
  intro pins s σ H D I h
  refine wpAny_execs_cons (thn (h1 pins s σ H D I h) fun f s1 q => ?_)
  cases f with
  | next => exact wpAny_execs_nil q
  | ret v => exact q
  | brk => exact q
  | cont => exact q
theorem Inv.quiet {pins : List (Addr × Obj)} {σ : St} {H : Hp} {s : Shared} (I : Inv X pins σ H s) : interactive X.env = false := by simp [interactive, I.ok.kind]
def tDrop (te : TE) : TS := fun D σ H => te σ H fun _ H1 => D.nx σ H1
theorem ps_expr (he : PE X e te) (hs : swapsWith e none pos.line X.env = pure false := by rfl) : PS X (.Expr e pos) (tDrop te) := by
  intro pins s σ H D I h
  exact wpAny_Expr_any (thn (he pins s σ H _ I h) fun v s1 ⟨x, H1, I1, r1, q1⟩ => ⟨σ, H1, I1, q1⟩) I.quiet hs
def tRet (te : TE) : TS := fun D σ H => te σ H D.rt
theorem ps_ret (he : PE X e te) : PS X (.Return (some e) pos) (tRet te) := by
  intro pins s σ H D I h
  exact wpAny_Return_some (thn (he pins s σ H _ I h) fun v s1 ⟨x, H1, I1, r1, q1⟩ => ⟨x, σ, H1, I1, r1, q1⟩)
def tIfS (c : TT) (t u : TS) : TS := fun D σ H => c σ H fun b H1 => if b = true then t D σ H1 else u D σ H1
theorem ps_if {c : Expr} {a b : List Stmt} {tc : TT} (hc : PT X c tc) (ha : PSs X a t) (hb : PSs X b u) : PS X (.If c a b pos) (tIfS tc t u) := by
  intro pins s σ H D I h
  refine wpAny_If (thn (hc pins s σ H _ I h) fun d s1 ⟨H1, I1, q1⟩ => ?_)
  cases d with
  | true => exact ha pins s1 σ H1 D I1 q1
  | false => exact hb pins s1 σ H1 D I1 q1
end
abbrev TG := V → St → Hp → (St → Hp → Prop) → Prop
abbrev TGs := List V → St → Hp → (St → Hp → Prop) → Prop
def PG (X : Cx) (target : Expr) (t : TG) : Prop :=
  ∀ (pins : List (Addr × Obj)) (s : Shared) (σ : St) (H : Hp) (v : V) (u : Value) (Q : St → Hp → Prop), Inv X pins σ H s → RelV v u → t v σ H Q →
    wpAny (model X.prog X.w) X.A (assign target X.env u) (fun _ s' => ∃ σ' H', Inv X pins σ' H' s' ∧ Q σ' H') X.xe s
abbrev TSet := V → V → V → Hp → (Hp → Prop) → Prop
def PSet (X : Cx) (t : TSet) : Prop :=
  ∀ (pins : List (Addr × Obj)) (s : Shared) (σ : St) (H : Hp) (o i v : V) (ov iv u : Value) (Q : Hp → Prop), Inv X pins σ H s → RelV o ov → RelV i iv → RelV v u → t o i v H Q →
    wpAny (model X.prog X.w) X.A (setItem ov iv u) (fun _ s' => ∃ H', Inv X pins σ H' s' ∧ Q H') X.xe s
abbrev TIp := V → V → Hp → VK → Prop
def PIp (X : Cx) (op : Operator) (t : TIp) : Prop :=
  ∀ (pins : List (Addr × Obj)) (s : Shared) (σ : St) (H : Hp) (x y : V) (v u : Value) (Q : VK), Inv X pins σ H s → RelV x v → RelV y u → t x y H Q →
    wpAny (model X.prog X.w) X.A (inplaceOp op v u) (EP X pins σ Q) X.xe s
section
variable {X : Cx} {pos : Pos}
def gName (i : Nat) : TG := fun v σ H Q => Q (σ.set i (some v)) H
theorem pg_name {i : Nat} {x : Str} (hN : X.N.Nodup) (hi : X.N[i]? = some x) (hx : Loc X.env.scope x) (hf : X.fn x = true ∨ X.env.scope.names.lookup x = some .local := by first | exact .inl rfl | exact .inr rfl | assumption) : PG X (.Name x pos) (gName i) := by
  intro pins s σ H v u Q I r h
  exact wpAny_assign_Name (store_ok I hN hi hx r (fun s' I' => ⟨_, H, I', h⟩) hf)
def gNil : TGs := fun vs σ H Q => vs = [] ∧ Q σ H
def gCons (t : TG) (u : TGs) : TGs := fun vs σ H Q => ∃ v r, vs = v :: r ∧ t v σ H fun σ' H' => u r σ' H' Q
def gTup (K : PySem.W.Frag) (n : Nat) (t : TGs) : TG := fun v σ H Q => ∃ a xs, v = .ref a ∧ SqT K H a xs ∧ xs.length = n ∧ t xs σ H Q
def gSub (to ti : TE) (t : TSet) : TG := fun v σ H Q => to σ H fun o H1 => ti σ H1 fun i H2 => t o i v H2 fun H3 => Q σ H3
theorem pg_sub {o i : Expr} {to ti : TE} {t : TSet} (ho : PE X o to) (hi : PE X i ti) (hs : PSet X t)
    (ha : ∀ v, assign (.Subscript o i pos) X.env v = (do
      let ov ← holding [v] (eval o X.env)
      let iv ← holding [v, ov] (eval i X.env)
      standAt pos
      holding [v, ov, iv] (setItem ov iv v)
      release [v, ov, iv] []) := by intro _; rfl) : PG X (.Subscript o i pos) (gSub to ti t) := by
  intro pins s σ H v u Q I r h
  rw [ha]
  refine wpAny_bind (wpAny_holding (thn (ho pins s σ H _ I h) fun ov s1 ⟨x, H1, I1, r1, q1⟩ => ?_))
  refine wpAny_bind (wpAny_holding (thn (hi pins s1 σ H1 _ I1 q1) fun iv s2 ⟨y, H2, I2, r2, q2⟩ => ?_))
  refine wpAny_bind (wpAny_standAt (wpAny_bind (wpAny_holding (thn (hs pins s2 σ H2 x y v ov iv u _ I2 r1 r2 r q2) fun _ s3 ⟨H3, I3, q3⟩ => ?_))))
  exact wpAny_release ⟨σ, H3, I3, q3⟩
def tAsg (te : TE) (g : TG) : TS := fun D σ H => te σ H fun x H1 => g x σ H1 D.nx
theorem ps_asg {tg e : Expr} {te : TE} {g : TG} (he : PE X e te) (hg : PG X tg g) (hs : swapsWithSole [tg] e pos.line X.env = pure false := by rfl) (hw : swappedStores [tg] e X.env = pure none := by rfl)
    (h1 : (assignEach [tg] X.env).map (·.2) = [assign tg X.env] := by rfl) : PS X (.Assign [tg] e pos) (tAsg te g) := by
  intro pins s σ H D I h
  refine wpAny_Assign_stores (thn (he pins s σ H _ I h) fun v s1 ⟨x, H1, I1, r1, q1⟩ => ?_) hs hw
  rw [h1]
  exact thn (hg pins s1 σ H1 x v _ I1 r1 q1) fun _ s2 q => q
theorem ps_set {i : Nat} {x : Str} {e : Expr} {te : TE} {pos' : Pos} (hN : X.N.Nodup) (hi : X.N[i]? = some x) (hx : Loc X.env.scope x) (he : PE X e te) (hs : swapsWith e (some (.Name x pos')) pos.line X.env = pure false := by rfl) (hf : X.fn x = true ∨ X.env.scope.names.lookup x = some .local := by first | exact .inl rfl | exact .inr rfl | assumption) :
    PS X (.Assign [.Name x pos'] e pos) (tAsg te (gName i)) := by
  intro pins s σ H D I h
  refine wpAny_Assign_Name (thn (he pins s σ H _ I h) fun v s1 ⟨y, H1, I1, r1, q1⟩ => ?_) hs
  exact store_ok I1 hN hi hx r1 (fun s2 I2 => ⟨_, H1, I2, q1⟩) hf
def tAug (i : Nat) (te : TE) (ti : TIp) : TS := fun D σ H => ∃ x, σ[i]? = some (some x) ∧ te σ H fun y H1 => ti x y H1 fun z H2 => D.nx (σ.set i (some z)) H2
theorem ps_aug {i : Nat} {x : Str} {e : Expr} {te : TE} {op : Operator} {ti : TIp} {pos' : Pos} (hN : X.N.Nodup) (hi : X.N[i]? = some x) (hx : Loc X.env.scope x) (he : PE X e te) (ho : PIp X op ti) (hf : X.fn x = true ∨ X.env.scope.names.lookup x = some .local := by first | exact .inl rfl | exact .inr rfl | assumption) :
    PS X (.AugAssign (.Name x pos') op e pos) (tAug i te ti) := by
  intro pins s σ H D I h
  obtain ⟨v, e1, h⟩ := h
  obtain ⟨m, hn, hl⟩ := I.loc
  have vis : Vis X.env.scope x := by rcases hx with k | k; exact .inl k; exact .inr (.inl k)
  obtain ⟨u, r, l⟩ := hl i x v hi e1 vis
  refine wpAny_AugAssign_Name ?_
  have go : wpAny (model X.prog X.w) X.A (eval e X.env) (fun w s₂ => wpAny (model X.prog X.w) X.A (inplaceOp op u w) (fun r s₃ => wpAny (model X.prog X.w) X.A (storeName X.env x r) (fun _ => SP X pins D .next) X.xe s₃) X.xe s₂) X.xe s := by
    refine thn (he pins s σ H _ I h) fun w s1 ⟨y, H1, I1, r1, q1⟩ => ?_
    refine thn (ho pins s1 σ H1 v y u w _ I1 r r1 q1) fun z s2 ⟨zv, H2, I2, r2, q2⟩ => ?_
    exact store_ok I2 hN hi hx r2 (fun s3 I3 => ⟨_, H2, I3, q2⟩) hf
  rcases l with ⟨hk, hm⟩ | ⟨hk, c, hc, hcell⟩
  · exact wpAny_loadName_local I.ok.kind hk hn hm go
  · rcases hk with hk | hk
    · exact wpAny_loadName_cell I.ok.kind hk hc hcell go
    · rcases hx with k | k
      · have : X.env.scope.names.lookup x = some .free := hk
        rw [k] at this; cases this
      · have : X.env.scope.names.lookup x = some .free := hk
        rw [k] at this; cases this
def ipI (f : Int → Int → Int) : TIp := fun x y H Q => ∃ i j, x = .int i ∧ y = .int j ∧ Q (.int (f i j)) H
theorem ip_add : PIp X .Add (ipI fun i j => i + j) := by
  intro pins s σ H x y v u Q I r1 r2 h
  obtain ⟨i, j, e1, e2, q⟩ := h
  subst e1; subst e2
  obtain ⟨t, rfl⟩ := r1
  obtain ⟨t', rfl⟩ := r2
  exact iadd_int ⟨.int _, H, I.tok _, ⟨_, rfl⟩, q⟩
end
section
variable {X : Cx} {pos : Pos}
def tWhile (c : TT) (tb : TS) : TS := fun D σ H => ∃ W : Nat → St → Hp → Prop, (∃ m, W m σ H) ∧ ∀ m σ H, W m σ H →
  c σ H fun b H1 => if b = true then ∃ N : St → Hp → Prop, (∀ σ' H', N σ' H' → ∃ m', m' < m ∧ W m' σ' H') ∧ tb { D with nx := N, ct := N, bk := D.nx } σ H1 else D.nx σ H1
theorem ps_while {c : Expr} {body : List Stmt} {tc : TT} {tb : TS} (hp : PassesOwn (model X.prog X.w) X.A X.env X.xe) (hc : PT X c tc) (hb : PSs X body tb) : PS X (.While c body [] pos) (tWhile tc tb) := by
  intro pins s σ H D I h
  obtain ⟨W, ⟨m0, w0⟩, turn⟩ := h
  refine wpAny_While (codeAny_whileLoop (fun n s' => ∃ σ' H', Inv X pins σ' H' s' ∧ W n σ' H') ?_ m0 ⟨σ, H, I, w0⟩)
  rintro n s1 ⟨σ1, H1, I1, w1⟩
  refine wpAny_passesOwn hp (thn (hc pins s1 σ1 H1 _ I1 (turn n σ1 H1 w1)) fun b s2 ⟨H2, I2, q2⟩ => ?_)
  cases b with
  | true =>
    obtain ⟨N, hN, q2⟩ := q2
    rw [if_pos rfl]
    refine wpAny_passesOwn hp (thn (hb pins s2 σ1 H2 _ I2 q2) fun f s3 q3 => ?_)
    cases f with
    | next =>
      obtain ⟨σ3, H3, I3, n3⟩ := q3
      obtain ⟨m', hm, w3⟩ := hN σ3 H3 n3
      exact ⟨m', hm, σ3, H3, I3, w3⟩
    | cont =>
      obtain ⟨σ3, H3, I3, n3⟩ := q3
      obtain ⟨m', hm, w3⟩ := hN σ3 H3 n3
      exact ⟨m', hm, σ3, H3, I3, w3⟩
    | brk => exact q3
    | ret v => exact q3
  | false =>
    rw [if_neg Bool.false_ne_true]
    exact wpAny_execs_nil ⟨σ1, H2, I2, q2⟩
end
structure It where
  go : Nat → Hp → Prop
  yld : Nat → Hp → V → Hp → Prop
  stop : Nat → Hp → Prop
def FpOk (X : Cx) (pins : List (Addr × Obj)) (H : Hp) (b : Addr) : Prop :=
  H b = none ∧ b ≠ X.env.locals ∧ b ∉ X.fs ∧ (b ∈ X.ex ∨ X.s₀.heap.objs.size ≤ b) ∧ (∀ x c, X.env.cells.lookup x = some c → c ≠ b) ∧ ∀ p ∈ X.pn ++ pins, p.1 ≠ b
theorem Inv.fpOk {X : Cx} {pins : List (Addr × Obj)} {σ : St} {H H' : Hp} {s : Shared} {b : Addr} (I : Inv X pins σ H s) (hb : s.heap.objs.size ≤ b) (hn : H' b = none) : FpOk X pins H' b := by
  refine ⟨hn, Nat.ne_of_gt (Nat.lt_of_lt_of_le I.lt hb), I.nofs hb, .inr (Nat.le_trans I.sz hb), fun x c e z => ?_, fun p hp z => ?_⟩
  · obtain ⟨v, q⟩ := I.cell x c e
    exact absurd (Nat.lt_of_lt_of_le q.lt (by rw [z]; exact hb)) (Nat.lt_irrefl _)
  · exact absurd (Nat.lt_of_lt_of_le (Heap.lt_size (I.pin p hp).1) (by rw [z]; exact hb)) (Nat.lt_irrefl _)
structure Turn (P : Program) (w : World) (K : PySem.W.Frag) (tg : Expr) (J : It) (fp : List Addr) (it : Addr) (tn : Nat → Heap → Prop) : Prop where
  mem : it ∈ fp
  obj : ∀ i h, tn i h → ∀ b ∈ fp, ∃ o, h.get? b = some o ∧ ∀ v, o.data ≠ .cell v
  keep : ∀ i h h', tn i h → (∀ b ∈ fp, ∀ o, h.get? b = some o → h'.get? b = some o) → tn i h'
  item : ∀ (X : Cx), X.prog = P → X.w = w → X.K = K → X.calm = true → ∀ (i : Nat) (pins : List (Addr × Obj)) (s : Shared) (σ : St) (H : Hp) (E : Value → Shared → Prop), Inv X pins σ H s → (∀ b ∈ fp, FpOk X pins H b) → tn i s.heap → J.go i H →
    wpAny (model P w) X.A (pyNext (.ref it)) (fun r s1 => ∃ u, r = some u ∧
      wpAny (model P w) X.A (letOwnedTupleGo tg (.ref it) u) (fun _ s2 => ∃ x H', Inv X pins σ H' s2 ∧ RelV x u ∧ J.yld i H x H' ∧ tn (i + 1) s2.heap ∧ ∀ b ∈ fp, H' b = none) E s1) E s
  done : ∀ (X : Cx), X.prog = P → X.w = w → X.K = K → X.calm = true → ∀ (i : Nat) (pins : List (Addr × Obj)) (s : Shared) (σ : St) (H : Hp) (E : Value → Shared → Prop), Inv X pins σ H s → (∀ b ∈ fp, FpOk X pins H b) → tn i s.heap → J.stop i H →
    wpAny (model P w) X.A (pyNext (.ref it)) (fun r s1 => r = none ∧ Inv X pins σ H s1) E s
  self : ∀ (A : Around) (i : Nat) (s : Shared) (Q : Value → Shared → Prop) (E : Value → Shared → Prop), tn i s.heap → Q (.ref it) s → wpAny (model P w) A (pyIter (.ref it)) Q E s
abbrev TI := St → Hp → (It → Hp → Prop) → Prop
def PIE (X : Cx) (pins : List (Addr × Obj)) (σ : St) (tg : Expr) (R : It → Hp → Prop) (itv : Value) (s2 : Shared) : Prop :=
  ∃ (it : Addr) (fp : List Addr) (tn : Nat → Heap → Prop) (J : It) (H' : Hp), itv = .ref it ∧ Inv X pins σ H' s2 ∧ Turn X.prog X.w X.K tg J fp it tn ∧ tn 0 s2.heap ∧ (∀ b ∈ fp, FpOk X pins H' b) ∧ R J H'
def PI (X : Cx) (tg iter : Expr) (wi : TI) : Prop :=
  ∀ (pins : List (Addr × Obj)) (s : Shared) (σ : St) (H : Hp) (R : It → Hp → Prop), Inv X pins σ H s → wi σ H R →
    wpAny (model X.prog X.w) X.A (eval iter X.env) (fun v s1 => wpAny (model X.prog X.w) X.A (pyIter v) (PIE X pins σ tg R) X.xe s1) X.xe s
theorem go_of {M : Model} {A : Around} {E : Value → Shared → Prop} {s : Shared} {tg : Expr} {it : Addr} {u : Value} {o : Obj} {n : String} {vs : Array Value} {Q : Unit → Shared → Prop} (ho : s.heap.get? it = some o) (hc : o.cls = .type n) (hd : o.data = .fields vs)
    (hn : ["enumerate", "zip", "dict_itemiterator", "dict_reverseitemiterator", "odict_iterator", "itertools.zip_longest", "itertools.pairwise"].contains n = false) (hQ : Q () s) : wpAny M A (letOwnedTupleGo tg (.ref it) u) Q E s := by
  unfold letOwnedTupleGo
  cases tg <;> first
    | exact wpAny_pure hQ
    | (cases u <;> first
        | exact wpAny_pure hQ
        | (refine wpAny_bind (wpAny_load ho ?_)
           rw [hc, hd]
           show wpAny M A (if (["enumerate", "zip", "dict_itemiterator", "dict_reverseitemiterator", "odict_iterator", "itertools.zip_longest", "itertools.pairwise"].contains n && vs[0]? == some (rawInt _)) = true then _ else _) Q E s
           rw [if_neg (by intro h; rw [hn, Bool.false_and] at h; cases h)]
           exact wpAny_pure hQ))
def Itl (K : PySem.W.Frag) (a : Addr) : It :=
  ⟨fun i H => ∃ xs x, SqL K H a xs ∧ xs[i]? = some x, fun i H x H' => H' = H ∧ ∀ xs, SqL K H a xs → xs[i]? = some x, fun i H => ∃ xs, SqL K H a xs ∧ xs.length ≤ i⟩
def Itr (lo : Int) (n : Nat) : It := ⟨fun i _ => i < n, fun i H x H' => H' = H ∧ x = .int (lo + i), fun i _ => n ≤ i⟩
theorem turn_list {P : Program} {w : World} {K : PySem.W.Frag} {tg : Expr} (a it : Addr) : Turn P w K tg (Itl K a) [it] it (fun i h => h.IsListIter it a i) where
  mem := by simp
  obj := fun i h st b hb => by
    have e : b = it := by simpa using hb
    subst e
    obtain ⟨o, e, c, d⟩ := st
    exact ⟨o, e, fun v z => by rw [d] at z; cases z⟩
  keep := fun i h h' st k => st.at fun o e => k it (by simp) o e
  item := by
    intro X hP hw hK hc i pins s σ H E I hf st hg
    subst hP hw hK
    obtain ⟨xs, x, hq, hx⟩ := hg
    obtain ⟨its, rv, p, hz⟩ := I.list hq
    obtain ⟨u, hu, ru⟩ := rv.get hx
    obtain ⟨f0, f1, f2, f3, f4, f5⟩ := hf it (by simp)
    refine wpAny_pyNext_list_item st p.isList (x := u) (by simpa using hu) fun h' st' sb => ?_
    have I1 : Inv X pins σ H { s with heap := h' } := I.turned (t' := s.toks) (fun b o hb e => (sb.2 b hb).trans e) f0 f1 f3 f4 f5
    obtain ⟨o, e, c, d⟩ := id st'
    exact ⟨u, rfl, go_of (s := { s with heap := h' }) e c d (by decide) ⟨x, H, I1, ru, ⟨rfl, fun ys hy => by rw [I.list_inj hy hq]; exact hx⟩, st', fun b hb => (hf b hb).1⟩⟩
  done := by
    intro X hP hw hK hc i pins s σ H E I hf st hg
    subst hP hw hK
    obtain ⟨xs, hq, hx⟩ := hg
    obtain ⟨its, rv, p, hz⟩ := I.list hq
    obtain ⟨f0, f1, f2, f3, f4, f5⟩ := hf it (by simp)
    have hl := rv.length
    exact wpAny_pyNext_list_end (I.ok.hd hc) st p.isList (by simp; omega) fun h' eb => ⟨rfl, I.turned (t' := s.toks) (fun b o hb e => eb b o hb e) f0 f1 f3 f4 f5⟩
  self := fun _ _ _ _ _ st h => wpAny_pyIter_listiter st h
theorem turn_range {P : Program} {w : World} {K : PySem.W.Frag} {tg : Expr} (it : Addr) (lo : Int) (n : Nat) : Turn P w K tg (Itr lo n) [it] it (fun i h => IsRangeIter h it (lo + (i : Nat) * 1) ((n : Int) - (i : Nat)) 1) where
  mem := by simp
  obj := fun i h st b hb => by
    have e : b = it := by simpa using hb
    subst e
    exact ⟨_, st, fun v z => by
      have z' : Data.fields _ = Data.cell v := z
      cases z'⟩
  keep := fun i h h' st k => k it (by simp) _ st
  item := by
    intro X hP hw hK hc i pins s σ H E I hf st hg
    subst hP hw hK
    obtain ⟨f0, f1, f2, f3, f4, f5⟩ := hf it (by simp)
    have W := Walks.range (prog := X.prog) (w := X.w) (I.ok.hd hc) it lo 1 n
    refine W.item i s _ _ hg st fun v h' tk hv st' kk => ?_
    obtain ⟨t, rfl⟩ := hv
    have I1 : Inv X pins σ H { s with heap := h', toks := tk } := I.turned (fun b o hb e => kk b o (by simpa using hb) e) f0 f1 f3 f4 f5
    refine ⟨_, rfl, go_of (s := { s with heap := h', toks := tk }) (n := "range_iterator") st' rfl rfl (by decide) ⟨.int (lo + i), H, I1, ⟨t, ?_⟩, ⟨rfl, rfl⟩, st', fun b hb => (hf b hb).1⟩⟩
    rw [Int.mul_one]
  done := by
    intro X hP hw hK hc i pins s σ H E I hf st hg
    subst hP hw hK
    obtain ⟨f0, f1, f2, f3, f4, f5⟩ := hf it (by simp)
    exact wpAny_pyNext_range_end (I.ok.hd hc) st (by have : n ≤ i := hg; omega) fun h' eb => ⟨rfl, I.turned (t' := s.toks) (fun b o hb e => eb b o hb e) f0 f1 f3 f4 f5⟩
  self := fun _ _ _ _ _ st h => wpAny_pyIter_rangeiter st h
end L2
namespace L2
open PySem PySem.Spec PyProof.Rows
section
variable {X : Cx} {tg : Expr}
def iList (K : PySem.W.Frag) (tl : TE) : TI := fun σ H R => tl σ H fun x H1 => ∃ a, x = .ref a ∧ (∃ xs, SqL K H1 a xs) ∧ R (Itl K a) H1
theorem pi_list {l : Expr} {tl : TE} (hl : PE X l tl) : PI X tg l (iList X.K tl) := by
  intro pins s σ H R I h
  refine thn (hl pins s σ H _ I h) fun v s1 ⟨x, H1, I1, r1, q1⟩ => ?_
  obtain ⟨a, e, ⟨xs, hq⟩, q⟩ := q1
  subst e
  cases r1
  obtain ⟨its, rv, p, hz⟩ := I1.list hq
  refine wpAny_pyIter_list p.isList ?_
  refine ⟨s1.heap.objs.size, [s1.heap.objs.size], _, _, H1, rfl, I1.kept (t' := s1.toks) fun b o e => Heap.get?_push_of_some _ e, turn_list a _, ⟨_, Heap.get?_push_size _ rfl, rfl, rfl⟩, fun b hb => ?_, q⟩
  have e : b = s1.heap.objs.size := by simpa using hb
  subst e
  exact I1.fpOk (Nat.le_refl _) (I1.hok.fresh (Nat.le_refl _))
theorem range_it {pins : List (Addr × Obj)} {σ : St} {H : Hp} {s : Shared} {R : It → Hp → Prop} {E : Value → Shared → Prop} {lo hi : Int} {t u v : Tok} {tk : Nat} (I : Inv X pins σ H s) (h1 : -(2 ^ 62) ≤ lo) (h2 : lo < 2 ^ 62) (h3 : -(2 ^ 62) ≤ hi) (h4 : hi < 2 ^ 62)
    (q : R (Itr lo (hi - lo).toNat) H) : wpAny (model X.prog X.w) X.A (pyIter (.ref s.heap.objs.size)) (PIE X pins σ tg R) E { s with heap := s.heap.push { cls := .type "range", data := .fields #[.int lo t, .int hi u, .int 1 v] }, toks := tk } := by
  refine wpAny_pyIter_range (IsRange.new ..) (small_one h1 h2 h3 h4) ?_
  have I1 : Inv X pins σ H { s with heap := s.heap.push { cls := .type "range", data := .fields #[.int lo t, .int hi u, .int 1 v] }, toks := tk } := I.kept fun b o e => Heap.get?_push_of_some _ e
  refine ⟨(s.heap.push { cls := .type "range", data := .fields #[.int lo t, .int hi u, .int 1 v] }).objs.size, [(s.heap.push { cls := .type "range", data := .fields #[.int lo t, .int hi u, .int 1 v] }).objs.size], _, _, H, rfl,
    I1.kept (t' := tk) fun b o e => Heap.get?_push_of_some _ e, turn_range _ lo (hi - lo).toNat, ?_, fun b hb => ?_, q⟩
  · have e1 : lo + ((0 : Nat) : Int) * 1 = lo := by simp
    have e2 : (((hi - lo).toNat : Nat) : Int) - ((0 : Nat) : Int) = Builtin.Range.rangeSize lo hi 1 := by rw [rangeSize_one]; split <;> omega
    show IsRangeIter _ _ (lo + ((0 : Nat) : Int) * 1) ((((hi - lo).toNat : Nat) : Int) - ((0 : Nat) : Int)) 1
    rw [e1, e2]
    exact Heap.get?_push_size _ rfl
  · have e : b = (s.heap.push { cls := .type "range", data := .fields #[.int lo t, .int hi u, .int 1 v] }).objs.size := by simpa using hb
    subst e
    exact I1.fpOk (Nat.le_refl _) (I1.hok.fresh (Nat.le_refl _))
def iRng1 (ta : TA) : TI := fun σ H R => ta σ H fun vs H1 => ∃ j : Int, vs = [.int j] ∧ -(2 ^ 62) ≤ j ∧ j < 2 ^ 62 ∧ R (Itr 0 j.toNat) H1
theorem pi_range1 {a : Expr} {ta : TA} {p pos : Pos} (hg : Gl X "range") (hm : X.mg "range" = none) (ha : PA X [a] ta) (hs : starEach [a] X.env = [(false, eval a X.env)] := by rfl) : PI X tg (.Call (.Name "range" p) [a] [] pos) (iRng1 ta) := by
  intro pins s σ H R I h
  refine Call_ (ld_blt I hg hm boot_range (PyProof.Rows.callWith_type1 (thn (ha pos pins s σ H _ I h) fun us s1 ⟨vs, H1, I1, r1, q1⟩ => ?_) hs rfl))
  obtain ⟨j, e, q1, q2, q⟩ := q1
  subst e
  cases r1 with
  | cons r rr =>
    cases rr
    obtain ⟨t, rfl⟩ := r
    exact call_range_1 (range_it I1 (by omega) (by omega) q1 q2 (by simpa using q))
def tFor (wi : TI) (g : TG) (tb : TS) : TS := fun D σ H => wi σ H fun J H1 => ∃ W : Nat → Nat → St → Hp → Prop, (∃ m, W 0 m σ H1) ∧ ∀ i m σ H, W i m σ H →
  (J.stop i H ∧ D.nx σ H) ∨ (J.go i H ∧ ∃ N : St → Hp → Prop, (∀ σ' H', N σ' H' → ∃ m', m' < m ∧ W (i + 1) m' σ' H') ∧ ∀ x H', J.yld i H x H' → g x σ H' fun σ2 H2 => tb { D with nx := N, ct := N, bk := D.nx } σ2 H2)
def pinsAt (fp : List Addr) (h : Heap) : List (Addr × Obj) := fp.filterMap fun b => (h.get? b).map fun o => (b, o)
theorem mem_pinsAt {fp : List Addr} {h : Heap} {b : Addr} {o : Obj} (hb : b ∈ fp) (e : h.get? b = some o) : (b, o) ∈ pinsAt fp h := List.mem_filterMap.mpr ⟨b, hb, by rw [e]; rfl⟩
theorem of_pinsAt {fp : List Addr} {h : Heap} {p : Addr × Obj} (hp : p ∈ pinsAt fp h) : p.1 ∈ fp ∧ h.get? p.1 = some p.2 := by
  obtain ⟨b, hb, e⟩ := List.mem_filterMap.mp hp
  cases q : h.get? b with
  | none => rw [q] at e; cases e
  | some o =>
    rw [q] at e
    have e' : (b, o) = p := Option.some.inj e
    subst e'
    exact ⟨hb, q⟩
theorem Inv.pinned {pins : List (Addr × Obj)} {σ : St} {H : Hp} {s : Shared} {fp : List Addr} (I : Inv X pins σ H s) (hf : ∀ b ∈ fp, FpOk X pins H b) (ho : ∀ b ∈ fp, ∃ o, s.heap.get? b = some o ∧ ∀ v, o.data ≠ .cell v) : Inv X (pins ++ pinsAt fp s.heap) σ H s :=
  I.pins_of fun p hp => (List.mem_append.mp hp).elim (fun z => I.pin p (List.mem_append_right _ z)) fun z => by
    obtain ⟨hb, e⟩ := of_pinsAt z
    obtain ⟨f0, f1, f2, _⟩ := hf p.1 hb
    obtain ⟨o, e', d⟩ := ho p.1 hb
    rw [e] at e'; cases e'
    exact ⟨e, f0, f1, f2, d⟩
theorem Inv.unpinned {pins pl : List (Addr × Obj)} {σ : St} {H : Hp} {s : Shared} (I : Inv X (pins ++ pl) σ H s) : Inv X pins σ H s := I.pins_of fun p hp => I.pin p (List.mem_append_right _ (List.mem_append_left _ hp))
theorem ps_for {iter : Expr} {body : List Stmt} {wi : TI} {g : TG} {tb : TS} {pos : Pos} (hp : PassesOwn (model X.prog X.w) X.A X.env X.xe) (hc : X.calm = true) (hi : PI X tg iter wi) (hg : PG X tg g) (hb : PSs X body tb)
    (hs : ∀ x, foldedSetIterable iter X.env x = pure x := by intro _; rfl) : PS X (.For tg iter body [] pos) (tFor wi g tb) := by
  intro pins s σ H D I h
  refine wpAny_For (thn (hi pins s σ H _ I h) fun v s1 h1 => thn h1 fun itv s2 h2 => ?_) hs
  obtain ⟨it, fp, tn, J, H2, e, I2, T, st2, f2, W, ⟨m0, w0⟩, turn⟩ := h2
  subst e
  have stat : ∀ {H' : Hp}, (∀ b ∈ fp, H' b = none) → ∀ b ∈ fp, FpOk X pins H' b := fun hn b hb => ⟨hn b hb, (f2 b hb).2⟩
  refine codeAny_forLoop_any (fun n s' => ∃ i σ' H', Inv X pins σ' H' s' ∧ tn i s'.heap ∧ (∀ b ∈ fp, H' b = none) ∧ W i n σ' H') ?_ m0 ⟨0, σ, H2, I2, st2, fun b hb => (f2 b hb).1, w0⟩
  rintro n s3 ⟨i, σ3, H3, I3, st3, fr3, w3⟩
  rcases turn i n σ3 H3 w3 with ⟨stop, qn⟩ | ⟨go, N, hN, step⟩
  · refine wpAny_passesOwn hp (thn (T.done X rfl rfl rfl hc i pins s3 σ3 H3 X.xe I3 (stat fr3) st3 stop) fun r s4 ⟨hr, I4⟩ => ?_)
    subst hr
    exact wpAny_execs_nil ⟨σ3, H3, I4, qn⟩
  · refine wpAny_passesOwn hp (thn (T.item X rfl rfl rfl hc i pins s3 σ3 H3 X.xe I3 (stat fr3) st3 go) fun r s4 ⟨u, hr, h4⟩ => ?_)
    subst hr
    refine wpAny_passesOwn hp (thn h4 fun _ s5 ⟨x, H5, I5, r5, y5, st5, fr5⟩ => ?_)
    have I5' := I5.pinned (stat fr5) (T.obj _ _ st5)
    refine wpAny_passesOwn hp (thn (hg _ s5 σ3 H5 x u _ I5' r5 (step x H5 y5)) fun _ s6 ⟨σ6, H6, I6, q6⟩ => ?_)
    refine wpAny_passesOwn hp (thn (hb _ s6 σ6 H6 _ I6 q6) fun f s7 q7 => ?_)
    have again : ∀ {σ7 : St} {H7 : Hp}, Inv X (pins ++ pinsAt fp s5.heap) σ7 H7 s7 → N σ7 H7 → ∃ m, m < n ∧ ∃ i σ' H', Inv X pins σ' H' s7 ∧ tn i s7.heap ∧ (∀ b ∈ fp, H' b = none) ∧ W i m σ' H' := fun {σ7 H7} I7 n7 => by
      obtain ⟨m', hm, w7⟩ := hN σ7 H7 n7
      refine ⟨m', hm, i + 1, σ7, H7, I7.unpinned, T.keep _ _ _ st5 fun b hb o e => (I7.pin (b, o) (List.mem_append_right _ (List.mem_append_right _ (mem_pinsAt hb e)))).1, fun b hb => ?_, w7⟩
      obtain ⟨o, e, d⟩ := T.obj _ _ st5 b hb
      exact (I7.pin (b, o) (List.mem_append_right _ (List.mem_append_right _ (mem_pinsAt hb e)))).2.1
    cases f with
    | next => obtain ⟨σ7, H7, I7, n7⟩ := q7; exact again I7 n7
    | cont => obtain ⟨σ7, H7, I7, n7⟩ := q7; exact again I7 n7
    | brk => obtain ⟨σ7, H7, I7, q7⟩ := q7; exact ⟨σ7, H7, I7.unpinned, q7⟩
    | ret v => obtain ⟨x7, σ7, H7, I7, r7, q7⟩ := q7; exact ⟨x7, σ7, H7, I7.unpinned, r7, q7⟩
end
theorem for_list {K : PySem.W.Frag} {a : Addr} {xs : List V} {g : TG} {tb : TS} {D : Ends} {σ : St} {H : Hp} (Pv : Nat → St → Hp → Prop) (h0 : Pv 0 σ H) (hl : ∀ i σ H, i ≤ xs.length → Pv i σ H → SqL K H a xs)
    (hs : ∀ i x σ H, xs[i]? = some x → Pv i σ H → g x σ H fun σ2 H2 => tb { D with nx := Pv (i + 1), ct := Pv (i + 1), bk := D.nx } σ2 H2) (hd : ∀ σ H, Pv xs.length σ H → D.nx σ H) :
    ∃ W : Nat → Nat → St → Hp → Prop, (∃ m, W 0 m σ H) ∧ ∀ i m σ H, W i m σ H →
      ((Itl K a).stop i H ∧ D.nx σ H) ∨ ((Itl K a).go i H ∧ ∃ N : St → Hp → Prop, (∀ σ' H', N σ' H' → ∃ m', m' < m ∧ W (i + 1) m' σ' H') ∧ ∀ x H', (Itl K a).yld i H x H' → g x σ H' fun σ2 H2 => tb { D with nx := N, ct := N, bk := D.nx } σ2 H2) := by
  refine ⟨fun i m σ H => m = xs.length - i ∧ i ≤ xs.length ∧ Pv i σ H, ⟨xs.length, by simp, Nat.zero_le _, h0⟩, ?_⟩
  rintro i m σ H ⟨rfl, hi, p⟩
  have q := hl i σ H hi p
  by_cases hlt : i < xs.length
  · refine .inr ⟨⟨xs, xs[i], q, by simp [hlt]⟩, Pv (i + 1), fun σ' H' p' => ⟨xs.length - (i + 1), by omega, rfl, hlt, p'⟩, fun x H' y => ?_⟩
    obtain ⟨e, y⟩ := y
    subst e
    exact hs i x σ _ (y xs q) p
  · have e : i = xs.length := by omega
    subst e
    exact .inl ⟨⟨xs, q, Nat.le_refl _⟩, hd σ H p⟩
theorem for_range {lo : Int} {n : Nat} {g : TG} {tb : TS} {D : Ends} {σ : St} {H : Hp} (Pv : Nat → St → Hp → Prop) (h0 : Pv 0 σ H)
    (hs : ∀ i σ H, i < n → Pv i σ H → g (.int (lo + i)) σ H fun σ2 H2 => tb { D with nx := Pv (i + 1), ct := Pv (i + 1), bk := D.nx } σ2 H2) (hd : ∀ σ H, Pv n σ H → D.nx σ H) :
    ∃ W : Nat → Nat → St → Hp → Prop, (∃ m, W 0 m σ H) ∧ ∀ i m σ H, W i m σ H →
      ((Itr lo n).stop i H ∧ D.nx σ H) ∨ ((Itr lo n).go i H ∧ ∃ N : St → Hp → Prop, (∀ σ' H', N σ' H' → ∃ m', m' < m ∧ W (i + 1) m' σ' H') ∧ ∀ x H', (Itr lo n).yld i H x H' → g x σ H' fun σ2 H2 => tb { D with nx := N, ct := N, bk := D.nx } σ2 H2) := by
  refine ⟨fun i m σ H => m = n - i ∧ i ≤ n ∧ Pv i σ H, ⟨n, by simp, Nat.zero_le _, h0⟩, ?_⟩
  rintro i m σ H ⟨rfl, hi, p⟩
  by_cases hlt : i < n
  · refine .inr ⟨hlt, Pv (i + 1), fun σ' H' p' => ⟨n - (i + 1), by omega, rfl, hlt, p'⟩, fun x H' y => ?_⟩
    obtain ⟨e, y⟩ := y
    subst e y
    exact hs i σ _ hlt p
  · have e : i = n := by omega
    subst e
    exact .inl ⟨Nat.le_refl _, hd σ H p⟩
end L2
namespace L2
open PySem PySem.Spec PyProof.Rows
abbrev R2 := V → V → Hp → VK → Prop
def OpR (X : Cx) (f : Value → Value → Sem Value) (r : R2) : Prop :=
  ∀ (pins : List (Addr × Obj)) (s : Shared) (σ : St) (H : Hp) (x y : V) (v u : Value) (Q : VK), Inv X pins σ H s → RelV x v → RelV y u → r x y H Q →
    wpAny (model X.prog X.w) X.A (f v u) (EP X pins σ Q) X.xe s
def UnR (X : Cx) (f : Value → Sem Value) (r : V → Hp → VK → Prop) : Prop :=
  ∀ (pins : List (Addr × Obj)) (s : Shared) (σ : St) (H : Hp) (x : V) (v : Value) (Q : VK), Inv X pins σ H s → RelV x v → r x H Q →
    wpAny (model X.prog X.w) X.A (f v) (EP X pins σ Q) X.xe s
def CallR (X : Cx) (f : Value) (r : List V → Hp → VK → Prop) : Prop :=
  ∀ (pins : List (Addr × Obj)) (s : Shared) (σ : St) (H : Hp) (xs : List V) (us : List Value) (Q : VK), Inv X pins σ H s → Vals xs us → r xs H Q →
    wpAny (model X.prog X.w) X.A (call f us) (EP X pins σ Q) X.xe s
def tOp (r : R2) (ta tb : TE) : TE := fun σ H Q => ta σ H fun x H1 => tb σ H1 fun y H2 => r x y H2 Q
def tUn (r : V → Hp → VK → Prop) (ta : TE) : TE := fun σ H Q => ta σ H fun x H1 => r x H1 Q
def rI (C : Int → Int → Prop) (g : Int → Int → V) : R2 := fun x y H Q => ∃ i j, x = .int i ∧ y = .int j ∧ C i j ∧ Q (g i j) H
def rI0 (g : Int → Int → V) : R2 := fun x y H Q => ∃ i j, x = .int i ∧ y = .int j ∧ Q (g i j) H
def rU (g : Int → V) : V → Hp → VK → Prop := fun x H Q => ∃ i, x = .int i ∧ Q (g i) H
section
variable {X : Cx} {a b c : Expr} {ta tb tc : TE} {pos : Pos}
theorem binT (ha : PE X a ta) (hb : PE X b tb) {pins : List (Addr × Obj)} {s : Shared} {σ : St} {H : Hp} {R : V → V → Hp → Prop} (I : Inv X pins σ H s)
    (h : ta σ H fun x H1 => tb σ H1 fun y H2 => R x y H2) {Q : Value → Shared → Prop} {f : Value → Value → Sem Value}
    (hf : ∀ v u s2 x y H2, Inv X pins σ H2 s2 → RelV x v → RelV y u → R x y H2 → wpAny (model X.prog X.w) X.A (f v u) Q X.xe s2) :
    wpAny (model X.prog X.w) X.A (eval a X.env) (fun v s₁ => wpAny (model X.prog X.w) X.A (eval b X.env) (fun u s₂ => wpAny (model X.prog X.w) X.A (f v u) Q X.xe s₂) X.xe s₁) X.xe s := by
  refine thn (ha pins s σ H _ I h) fun v s1 ⟨x, H1, I1, r1, q1⟩ => ?_
  refine thn (hb pins s1 σ H1 _ I1 q1) fun u s2 ⟨y, H2, I2, r2, q2⟩ => ?_
  exact hf v u s2 x y H2 I2 r1 r2 q2
theorem pe_op {op : Operator} {r : R2} (ho : OpR X (binaryOp op) r) (ha : PE X a ta) (hb : PE X b tb) : PE X (.BinOp a op b pos) (tOp r ta tb) := by
  intro pins s σ H Q I h
  exact wpAny_BinOp (binT ha hb I h fun v u s2 x y H2 I2 rx ry q => ho pins s2 σ H2 x y v u Q I2 rx ry q)
theorem pe_un {op : UnaryOp} {r : V → Hp → VK → Prop} (ho : UnR X (unaryOp op) r) (ha : PE X a ta) : PE X (.UnaryOp op a pos) (tUn r ta) := by
  intro pins s σ H Q I h
  exact UnaryOp_ (thn (ha pins s σ H _ I h) fun v s1 ⟨x, H1, I1, r1, q1⟩ => ho pins s1 σ H1 x v Q I1 r1 q1)
theorem opI {f : Value → Value → Sem Value} {C : Int → Int → Prop} {g : Int → Int → Int}
    (rule : ∀ (i j : Int) (t u : Tok) (s : Shared) (Q : Value → Shared → Prop) (E : Value → Shared → Prop), C i j → Q (.int (g i j) s.toks) { s with toks := s.toks + 1 } → wpAny (model X.prog X.w) X.A (f (.int i t) (.int j u)) Q E s) :
    OpR X f (rI C fun i j => .int (g i j)) := by
  intro pins s σ H x y v u Q I rx ry h
  obtain ⟨i, j, rfl, rfl, hc, q⟩ := h
  obtain ⟨t, rfl⟩ := rx
  obtain ⟨t', rfl⟩ := ry
  exact rule i j t t' s _ _ hc ⟨.int (g i j), H, I.tok _, ⟨_, rfl⟩, q⟩
theorem opI0 {f : Value → Value → Sem Value} {g : Int → Int → Int}
    (rule : ∀ (i j : Int) (t u : Tok) (s : Shared) (Q : Value → Shared → Prop) (E : Value → Shared → Prop), Q (.int (g i j) s.toks) { s with toks := s.toks + 1 } → wpAny (model X.prog X.w) X.A (f (.int i t) (.int j u)) Q E s) :
    OpR X f (rI0 fun i j => .int (g i j)) := by
  intro pins s σ H x y v u Q I rx ry h
  obtain ⟨i, j, rfl, rfl, q⟩ := h
  obtain ⟨t, rfl⟩ := rx
  obtain ⟨t', rfl⟩ := ry
  exact rule i j t t' s _ _ ⟨.int (g i j), H, I.tok _, ⟨_, rfl⟩, q⟩
theorem opB0 {f : Value → Value → Sem Value} {g : Int → Int → Bool}
    (rule : ∀ (i j : Int) (t u : Tok) (s : Shared) (Q : Value → Shared → Prop) (E : Value → Shared → Prop), Q (.bool (g i j)) s → wpAny (model X.prog X.w) X.A (f (.int i t) (.int j u)) Q E s) :
    OpR X f (rI0 fun i j => .bl (g i j)) := by
  intro pins s σ H x y v u Q I rx ry h
  obtain ⟨i, j, rfl, rfl, q⟩ := h
  obtain ⟨t, rfl⟩ := rx
  obtain ⟨t', rfl⟩ := ry
  exact rule i j t t' s _ _ ⟨.bl (g i j), H, I, rfl, q⟩
def CDiv (i j : Int) : Prop := 0 < j ∧ j < 1073741824
def CPow (i j : Int) : Prop := 0 ≤ j ∧ j ≤ 1000000 ∧ i.natAbs < 2 ^ 64
def CMul (i j : Int) : Prop := (-(2 ^ 64) < i ∧ i < 2 ^ 64) ∨ (-(2 ^ 64) < j ∧ j < 2 ^ 64)
theorem CMul.ok {i j : Int} (h : CMul i j) : IntMulOk i j := by
  rcases h with ⟨h1, h2⟩ | ⟨h1, h2⟩
  · exact .of_left (intBits_le_64 h1 h2)
  · exact .of_right (intBits_le_64 h1 h2)
theorem op_add : OpR X (binaryOp .Add) (rI0 fun i j => .int (i + j)) := opI0 fun _ _ _ _ _ _ _ q => add_int q
theorem op_sub : OpR X (binaryOp .Sub) (rI0 fun i j => .int (i - j)) := opI0 fun _ _ _ _ _ _ _ q => sub_int q
theorem op_mul : OpR X (binaryOp .Mult) (rI CMul fun i j => .int (i * j)) := opI fun _ _ _ _ _ _ _ hc q => mul_int q hc.ok
theorem op_fdiv : OpR X (binaryOp .FloorDiv) (rI CDiv fun i j => .int (i / j)) := opI fun i j _ _ _ _ _ hc q => by
  have h1 : (0 : Int) < j := hc.1
  have h2 : j < 1073741824 := hc.2
  exact floordiv_int (by omega) (by rw [Int.fdiv_eq_ediv_of_nonneg i (by omega)]; exact q) (.inl (PyProof.noPylong_small (by omega)))
theorem op_mod : OpR X (binaryOp .Mod) (rI (fun _ j => 0 < j) fun i j => .int (i % j)) := opI fun i j _ _ _ _ _ hc q => by
  have h1 : (0 : Int) < j := hc
  exact mod_int' (by omega) (by rw [Int.fmod_eq_emod_of_nonneg i (by omega)]; exact q)
theorem op_pow : OpR X (binaryOp .Pow) (rI CPow fun i j => .int (i ^ j.toNat)) := opI fun _ _ _ _ _ _ _ hc q => pow_int_small hc.1 hc.2.1 hc.2.2 q
theorem unI {f : Value → Sem Value} {g : Int → Int}
    (rule : ∀ (i : Int) (t : Tok) (s : Shared) (Q : Value → Shared → Prop) (E : Value → Shared → Prop), Q (.int (g i) s.toks) { s with toks := s.toks + 1 } → wpAny (model X.prog X.w) X.A (f (.int i t)) Q E s) :
    UnR X f (rU fun i => .int (g i)) := by
  intro pins s σ H x v Q I rx h
  obtain ⟨i, rfl, q⟩ := h
  obtain ⟨t, rfl⟩ := rx
  exact rule i t s _ _ ⟨.int (g i), H, I.tok _, ⟨_, rfl⟩, q⟩
theorem un_neg : UnR X (unaryOp .USub) (rU fun i => .int (-i)) := unI fun _ _ _ _ _ q => neg_int q
end
def scal : V → V → Bool
  | .non, .non => true | .non, .int _ => true | .int _, .non => true | .non, .bl _ => true | .bl _, .non => true | .non, .str _ => true | .str _, .non => true
  | .int _, .int _ => true | .bl _, .bl _ => true | .str _, .str _ => true | .byt _, .byt _ => true
  | .int _, .str _ => true | .str _, .int _ => true | .bl _, .str _ => true | .str _, .bl _ => true
  | _, _ => false
def rEq : R2 := fun x y H Q => scal x y = true ∧ Q (.bl (decide (x = y))) H
def rNe : R2 := fun x y H Q => scal x y = true ∧ Q (.bl (!decide (x = y))) H
theorem dec_int {i j : Int} : decide (V.int i = V.int j) = (i == j) := by
  rw [Bool.eq_iff_iff]
  simp
theorem dec_bl {i j : Bool} : decide (V.bl i = V.bl j) = (i == j) := by
  rw [Bool.eq_iff_iff]
  simp
theorem dec_str {i j : Str} : decide (V.str i = V.str j) = (i == j) := by
  rw [Bool.eq_iff_iff]
  simp
theorem dec_byt {i j : Array UInt8} : decide (V.byt i = V.byt j) = (i.toList == j.toList) := by
  rw [Bool.eq_iff_iff]
  cases i
  cases j
  simp
section
variable {X : Cx} {a b c : Expr} {ta tb tc : TE} {pos : Pos}
theorem fin_bl {pins : List (Addr × Obj)} {σ : St} {H : Hp} {s : Shared} {Q : VK} {k k' : Bool} (I : Inv X pins σ H s) (q : Q (.bl k) H) (e : k = k') : EP X pins σ Q (.bool k') s := by
  subst e
  exact ⟨.bl k, H, I, rfl, q⟩
theorem op_eq : OpR X (compareOp .Eq) rEq := by
  intro pins s σ H x y v u Q I rx ry h
  obtain ⟨hs, q⟩ := h
  cases x with
  | non =>
    cases rx
    cases y with
    | non => cases ry; exact PySem.EqNone.eq_none_none (fin_bl I q (by simp))
    | bl j => cases ry; exact PySem.EqNone.eq_none_bool (fin_bl I q (by simp))
    | int j => obtain ⟨t', rfl⟩ := ry; exact PySem.EqNone.eq_none_int (fin_bl I q (by simp))
    | str j => obtain ⟨t', rfl⟩ := ry; exact PySem.EqNone.eq_none_str (fin_bl I q (by simp))
    | _ => exact absurd (show false = true from hs) Bool.false_ne_true
  | bl i =>
    cases rx
    cases y with
    | non => cases ry; exact PySem.EqNone.eq_bool_none (fin_bl I q (by simp))
    | bl j => cases ry; exact eq_bool (fin_bl I q dec_bl)
    | str j => obtain ⟨t', rfl⟩ := ry; exact PySem.EqMixed.eq_bool_str (fin_bl I q (by simp))
    | _ => exact absurd (show false = true from hs) Bool.false_ne_true
  | int i =>
    obtain ⟨t, rfl⟩ := rx
    cases y with
    | non => cases ry; exact PySem.EqNone.eq_int_none (fin_bl I q (by simp))
    | int j => obtain ⟨t', rfl⟩ := ry; exact eq_int (fin_bl I q dec_int)
    | str j => obtain ⟨t', rfl⟩ := ry; exact PySem.EqMixed.eq_int_str (fin_bl I q (by simp))
    | _ => exact absurd (show false = true from hs) Bool.false_ne_true
  | str i =>
    obtain ⟨t, rfl⟩ := rx
    cases y with
    | non => cases ry; exact PySem.EqNone.eq_str_none (fin_bl I q (by simp))
    | bl j => cases ry; exact PySem.EqMixed.eq_str_bool (fin_bl I q (by simp))
    | int j => obtain ⟨t', rfl⟩ := ry; exact PySem.EqMixed.eq_str_int (fin_bl I q (by simp))
    | str j => obtain ⟨t', rfl⟩ := ry; exact eq_str (fin_bl I q dec_str)
    | _ => exact absurd (show false = true from hs) Bool.false_ne_true
  | byt i =>
    obtain ⟨t, rfl⟩ := rx
    cases y with
    | byt j => obtain ⟨t', rfl⟩ := ry; exact PySem.W.eq_bytes (fin_bl I q dec_byt)
    | _ => exact absurd (show false = true from hs) Bool.false_ne_true
  | _ => cases y <;> exact absurd (show false = true from hs) Bool.false_ne_true
theorem op_ne : OpR X (compareOp .NotEq) rNe := by
  intro pins s σ H x y v u Q I rx ry h
  obtain ⟨hs, q⟩ := h
  cases x with
  | non =>
    cases rx
    cases y with
    | non => cases ry; exact PySem.EqNone.ne_none_none (fin_bl I q (by simp))
    | bl j => cases ry; exact PySem.EqNone.ne_none_bool (fin_bl I q (by simp))
    | int j => obtain ⟨t', rfl⟩ := ry; exact PySem.EqNone.ne_none_int (fin_bl I q (by simp))
    | str j => obtain ⟨t', rfl⟩ := ry; exact PySem.EqNone.ne_none_str (fin_bl I q (by simp))
    | _ => exact absurd (show false = true from hs) Bool.false_ne_true
  | bl i =>
    cases rx
    cases y with
    | non => cases ry; exact PySem.EqNone.ne_bool_none (fin_bl I q (by simp))
    | bl j => cases ry; exact ne_bool (fin_bl I q (congrArg not dec_bl))
    | str j => obtain ⟨t', rfl⟩ := ry; exact PySem.EqMixed.ne_bool_str (fin_bl I q (by simp))
    | _ => exact absurd (show false = true from hs) Bool.false_ne_true
  | int i =>
    obtain ⟨t, rfl⟩ := rx
    cases y with
    | non => cases ry; exact PySem.EqNone.ne_int_none (fin_bl I q (by simp))
    | int j => obtain ⟨t', rfl⟩ := ry; exact ne_int (fin_bl I q (congrArg not dec_int))
    | str j => obtain ⟨t', rfl⟩ := ry; exact PySem.EqMixed.ne_int_str (fin_bl I q (by simp))
    | _ => exact absurd (show false = true from hs) Bool.false_ne_true
  | str i =>
    obtain ⟨t, rfl⟩ := rx
    cases y with
    | non => cases ry; exact PySem.EqNone.ne_str_none (fin_bl I q (by simp))
    | bl j => cases ry; exact PySem.EqMixed.ne_str_bool (fin_bl I q (by simp))
    | int j => obtain ⟨t', rfl⟩ := ry; exact PySem.EqMixed.ne_str_int (fin_bl I q (by simp))
    | str j => obtain ⟨t', rfl⟩ := ry; exact ne_str (fin_bl I q (congrArg not dec_str))
    | _ => exact absurd (show false = true from hs) Bool.false_ne_true
  | byt i =>
    obtain ⟨t, rfl⟩ := rx
    cases y with
    | byt j => obtain ⟨t', rfl⟩ := ry; exact PySem.W.ne_bytes (fin_bl I q (congrArg not dec_byt))
    | _ => exact absurd (show false = true from hs) Bool.false_ne_true
  | _ => cases y <;> exact absurd (show false = true from hs) Bool.false_ne_true
theorem op_lt : OpR X (compareOp .Lt) (rI0 fun i j => .bl (decide (i < j))) := opB0 fun _ _ _ _ _ _ _ q => lt_int q
theorem op_gt : OpR X (compareOp .Gt) (rI0 fun i j => .bl (decide (j < i))) := opB0 fun _ _ _ _ _ _ _ q => gt_int q
theorem op_ge : OpR X (compareOp .GtE) (rI0 fun i j => .bl (decide (j ≤ i))) := opB0 fun _ _ _ _ _ _ _ q => ge_int q
theorem op_in_str : OpR X (compareOp .In) (fun x y H Q => ∃ i j, x = .str i ∧ y = .str j ∧ Q (.bl (!(Builtin.Str.occurrences j i 0 j.length 1).isEmpty)) H) := by
  intro pins s σ H x y v u Q I rx ry h
  obtain ⟨i, j, rfl, rfl, q⟩ := h
  obtain ⟨t, rfl⟩ := rx
  obtain ⟨t', rfl⟩ := ry
  exact in_str (fin_bl I q rfl)
theorem op_isN : OpR X (compareOp .Is) (fun x y H Q => y = .non ∧ Q (.bl (decide (x = .non))) H) := by
  intro pins s σ H x y v u Q I rx ry h
  obtain ⟨rfl, q⟩ := h
  cases ry
  refine is_none_gen (fin_bl I q ?_)
  cases x <;> first
    | (cases rx; rfl)
    | (obtain ⟨t, rfl⟩ := rx; rfl)
theorem nomark (b : Expr) {op : CmpOp} (h : op ≠ .In := by decide) (h2 : op ≠ .NotIn := by decide) : behindInMarks op b = false := by
  have e1 : (op == CmpOp.In) = false := by cases op <;> first | rfl | exact absurd rfl h
  have e2 : (op == CmpOp.NotIn) = false := by cases op <;> first | rfl | exact absurd rfl h2
  cases b <;> simp [behindInMarks, e1, e2]
theorem pe_cmpR {op : CmpOp} {r : R2} (ho : OpR X (compareOp op) r) (ha : PE X a ta) (hb : PE X b tb) (hm : behindInMarks op b = false) : PE X (.Compare a [op] [b] pos) (tOp r ta tb) := by
  intro pins s σ H Q I h
  exact wpAny_Compare1 (binT ha hb I h fun v u s2 x y H2 I2 rx ry q => ho pins s2 σ H2 x y v u Q I2 rx ry q) hm
def tTest (t : TE) : TT := fun σ H Q => t σ H fun x H' => ∃ k, x = .bl k ∧ Q k H'
theorem pt_cmpR {op : CmpOp} {r : R2} (ho : OpR X (compareOp op) r) (ha : PE X a ta) (hb : PE X b tb) (hm : behindInMarks op b = false) : PT X (.Compare a [op] [b] pos) (tTest (tOp r ta tb)) := by
  intro pins s σ H Q I h
  refine wpAny_isTrue_Compare1 (thn (ha pins s σ H _ I h) fun v s1 ⟨x, H1, I1, r1, q1⟩ => thn (hb pins s1 σ H1 _ I1 q1) fun u s2 ⟨y, H2, I2, r2, q2⟩ =>
    thn (ho pins s2 σ H2 x y v u _ I2 r1 r2 q2) fun c s3 ⟨z, H3, I3, r3, k, e, q3⟩ => ?_) hm
  subst e
  cases r3
  exact wpAny_truthy_bool ⟨H3, I3, q3⟩
theorem line63 : (sizeLine : Nat) < 2 ^ 63 := by rw [sizeLine_eq]; decide
theorem op_add_str : OpR X (binaryOp .Add) (fun x y H Q => ∃ i j, x = .str i ∧ y = .str j ∧ i.length + j.length ≤ sizeLine ∧ Q (.str (i ++ j)) H) := by
  intro pins s σ H x y v u Q I rx ry h
  obtain ⟨i, j, rfl, rfl, hz, q⟩ := h
  obtain ⟨t, rfl⟩ := rx
  obtain ⟨t', rfl⟩ := ry
  exact add_str (fun t' tk => ⟨.str (i ++ j), H, I.tok _, ⟨_, rfl⟩, q⟩) hz
theorem vals1 {x : V} {us : List Value} (r : Vals [x] us) : ∃ u, us = [u] ∧ RelV x u := by
  cases r with
  | cons r1 r2 => cases r2; exact ⟨_, rfl, r1⟩
theorem vals2 {x y : V} {us : List Value} (r : Vals [x, y] us) : ∃ u w', us = [u, w'] ∧ RelV x u ∧ RelV y w' := by
  cases r with
  | cons r1 r2 =>
    cases r2 with
    | cons r3 r4 => cases r4; exact ⟨_, _, rfl, r1, r3⟩
theorem call_int1 : CallR X (.type "int") (fun xs H Q => (∃ i, xs = [.int i] ∧ Q (.int i) H) ∨ ∃ k, xs = [.bl k] ∧ Q (.int (if k then 1 else 0)) H) := by
  intro pins s σ H xs us Q I r h
  rcases h with ⟨i, rfl, q⟩ | ⟨k, rfl, q⟩
  · obtain ⟨u, rfl, t, rfl⟩ := vals1 r
    exact call_int_int ⟨.int i, H, I, ⟨_, rfl⟩, q⟩
  · obtain ⟨u, rfl, r1⟩ := vals1 r
    cases r1
    exact call_int_bool ⟨.int (if k then 1 else 0), H, I.tok _, ⟨_, rfl⟩, q⟩
theorem call_str_int : CallR X (.type "str") (fun xs H Q => ∃ i, xs = [.int i] ∧ i.natAbs.log2 < 1920 ∧ Q (.str (toString i)) H) := by
  intro pins s σ H xs us Q I r h
  obtain ⟨i, rfl, hz, q⟩ := h
  obtain ⟨u, rfl, t, rfl⟩ := vals1 r
  exact PySem.P.str_of_int hz ⟨.str _, H, I.tok _, ⟨_, rfl⟩, q⟩
end
end L2
namespace L2
open PySem PySem.Spec PyProof.Rows
structure ObjM (h : Heap) (x dx C : Addr) (mA : Str → Option Value) : Prop where
  obj : h.get? x = some (PySem.W.instObj C dx)
  ns : h.Ns1 dx mA
  ne : dx ≠ x
theorem lookIn_ns {h : Heap} {dx : Addr} {mA : Str → Option Value} (n : h.Ns1 dx mA) : ∃ od, h.get? dx = some od ∧ ∀ name, PySem.W.lookIn name od = some (mA name) := by
  obtain ⟨o, es, ep, ho, hd, hk, _, hm⟩ := n
  refine ⟨o, ho, fun name => ?_⟩
  have e := hm name
  unfold nsFind findBy at e
  rw [← Array.find?_toList] at e
  unfold PySem.W.lookIn
  rw [hd]
  dsimp only
  split
  · rename_i y q
    rw [q] at e
    exact congrArg some e
  · rename_i q
    rw [q] at e
    have a : es.toList.any (·.refKey) = false := by
      rw [List.any_eq_false]
      intro y hy
      obtain ⟨z, t, hkey⟩ := hk y (Array.mem_toList_iff.mp hy)
      simp [DictEntry.refKey, hkey]
    have a' : ¬ es.toList.any (·.refKey) = true := by rw [a]; exact Bool.false_ne_true
    rw [if_neg a']
    exact congrArg some e
theorem ObjM.look {h : Heap} {x dx C : Addr} {mA : Str → Option Value} (I : ObjM h x dx C mA) : ∃ od, PySem.W.InstAt h x (PySem.W.instObj C dx) C (some od) ∧ ∀ name, PySem.W.lookIn name od = some (mA name) :=
  let ⟨od, ho, hl⟩ := lookIn_ns I.ns
  ⟨od, ⟨I.obj, rfl, rfl, ho⟩, hl⟩
section
variable {prog : Program} {w : World} {A : Around} {E : Value → Shared → Prop} {s : Shared} {K : PySem.W.Frag} {x dx C f : Addr} {mA : Str → Option Value} {name : Str} {v : Value}
theorem get_map {expr : Bool} {Q : Value → Shared → Prop} (X : K.In s.heap) (I : ObjM s.heap x dx C mA) (hg : PySem.W.plainGet K C name = true) (hh : PySem.W.hasDictIn K C = true)
    (ha : PySem.W.findIn K (.ref C) name = some none) (hv : mA name = some v) (hv' : PySem.W.handedIn v = true) (h : Q v { s with toks := s.toks + 1 }) :
    wpAny (model prog w) A (getAttr (.ref x) name expr) Q E s := by
  obtain ⟨od, J, hl⟩ := I.look
  exact PySem.W.get_value X J (PySem.W.plainGet_of hg).1 (PySem.W.findObj_own hh ha rfl (by rw [hl, hv])) hv' h
theorem get_meth {pl : Sem Bool} {Q : Value × List Value → Shared → Prop} (X : K.In s.heap) (I : ObjM s.heap x dx C mA) (hg : PySem.W.plainGet K C name = true)
    (hf : PySem.W.findIn K (.ref C) name = some (some (.ref f))) (ht : PySem.W.isFn K (.ref f) = true) (hv : mA name = none) (h : Q (.ref f, [.ref x]) s) :
    wpAny (model prog w) A (getMethod (.ref x) name pl) Q E s := by
  obtain ⟨od, J, hl⟩ := I.look
  exact PySem.W.method_fn X J (PySem.W.plainGet_of hg).1 (PySem.W.plainGet_of hg).2 hf (beq_iff_eq.mp ht) (by show (PySem.W.lookIn name od).map (·.isSome) = some false; rw [hl, hv]; rfl) h
theorem set_map {ns : List Str} {Q : Unit → Shared → Prop} (X : K.In s.heap) (I : ObjM s.heap x dx C mA)
    (hs : PySem.W.findIn K (.ref C) "__setattr__" = some (some (.builtin "object.__setattr__"))) (hp : PySem.W.plainOver K C = true) (ht : PySem.W.takerIn K C name = some none) (hh : PySem.W.hasDictIn K C = true)
    (hw : PySem.Within mA ns) (hsz : ns.length ≤ sizeLine)
    (h : ∀ h', ObjM h' x dx C (fun y => if y = name then some v else mA y) → Heap.SameBut dx s.heap h' → Q () { s with heap := h', toks := s.toks + 2 }) :
    wpAny (model prog w) A (setAttr (.ref x) name v) Q E s := by
  obtain ⟨od, J, hl⟩ := I.look
  refine PySem.W.set_plain X J hs (PySem.W.osa_open (s := { s with toks := s.toks + 1 }) (r := none) X J hp ht fun b => ?_)
  obtain ⟨cd, hc, hd'⟩ := PySem.W.any_some hh
  have hx : s.heap.get? x = some ⟨.ref C, some dx, .plain, #[]⟩ := I.obj
  refine wpAny_bind (wpAny_pure (wpAny_bind (wpAny_bind (wpAny_loadPart hx (wpAny_bind (PySem.W.Looks.here (s := { s with toks := s.toks + 1 }) (PySem.W.looks_clsIn X hc) ?_))))))
  rw [hd']
  refine wpAny_pure (a := some dx) (wpAny_bind (wpAny_pure (wpAny_bind ?_)))
  refine wpAny_nsSet1 (s := { s with toks := s.toks + 1 }) I.ns fun h' hn2 hs2 => ?_
  obtain ⟨oD, esD, epD, hoD, hdD, hcD⟩ := hn2.count (PySem.Within.cons name v hw)
  refine wpAny_bind (wpAny_lookBehind hoD (by rw [hdD]; exact pastItsLine_dict (Nat.le_trans hcD (by rw [List.length_cons]; omega))) ?_)
  exact wpAny_pure (h _ ⟨(hs2.2 _ (Ne.symm I.ne)).trans I.obj, hn2, I.ne⟩ hs2)
theorem make_map {R : Result → Shared → Prop} {vs : List Value} {kw : List (Str × Value)} (X : K.In s.heap) (hm : PySem.W.makesIn K C = true)
    (hi : PySem.W.findIn K (.ref C) "__init__" = some (some (.ref f))) (hf : PySem.W.typeIn K (.ref f) = some (.type "function"))
    (h : codeAny (model prog w) (A.under (.builtin "type.__call__" ⟨.ref C :: vs, kw⟩)) (.call (.ref f) ⟨.ref (s.heap.objs.size + 1) :: vs, kw⟩) (PySem.W.InitBack (s.heap.objs.size + 1) R)
      { s with heap := (s.heap.push PySem.W.emptyDict).push (PySem.W.instObj C s.heap.objs.size) }) :
    codeAny (model prog w) A (.call (.ref C) ⟨vs, kw⟩) R s := by
  obtain ⟨hh, g, d, t, os⟩ := s
  exact PySem.W.make_core (PySem.W.makes_of X hm) (PySem.W.looks_findIn X hi) (fun self => PySem.W.bind_fn X self hf) (.inl rfl) h
end
def putF (f : Str) (v : V) : List (Str × V) → List (Str × V)
  | [] => [(f, v)]
  | (g, x) :: r => if g = f then (g, v) :: r else (g, x) :: putF f v r
theorem lookup_putF (f g : Str) (v : V) : ∀ fs : List (Str × V), (putF f v fs).lookup g = if g = f then some v else fs.lookup g
  | [] => by
    show List.lookup g [(f, v)] = _
    by_cases h : g = f
    · have hb : (g == f) = true := beq_iff_eq.mpr h
      simp only [List.lookup, hb, if_pos h]
    · have hb : (g == f) = false := beq_eq_false_iff_ne.mpr h
      simp only [List.lookup, hb, if_neg h]
  | (k, x) :: r => by
    have ih := lookup_putF f g v r
    rw [show putF f v ((k, x) :: r) = (if k = f then (k, v) :: r else (k, x) :: putF f v r) from rfl]
    by_cases hk : k = f
    · rw [if_pos hk]
      by_cases h : g = k
      · have hb : (g == k) = true := beq_iff_eq.mpr h
        simp only [List.lookup, hb, if_pos (h.trans hk)]
      · have hb : (g == k) = false := beq_eq_false_iff_ne.mpr h
        simp only [List.lookup, hb, if_neg (fun e : g = f => h (e.trans hk.symm))]
    · rw [if_neg hk]
      by_cases h : g = k
      · have hb : (g == k) = true := beq_iff_eq.mpr h
        simp only [List.lookup, hb, if_neg (fun e : g = f => hk (h.symm.trans e))]
      · have hb : (g == k) = false := beq_eq_false_iff_ne.mpr h
        simp only [List.lookup, hb]
        exact ih
theorem keys_putF (f : Str) (v : V) : ∀ fs : List (Str × V), f ∈ (putF f v fs).map (·.1) ∧ ∀ g, g ∈ fs.map (·.1) → g ∈ (putF f v fs).map (·.1)
  | [] => ⟨by simp [putF], fun g h => by simp at h⟩
  | (k, x) :: r => by
    obtain ⟨i1, i2⟩ := keys_putF f v r
    rw [show putF f v ((k, x) :: r) = (if k = f then (k, v) :: r else (k, x) :: putF f v r) from rfl]
    by_cases hk : k = f
    · rw [if_pos hk]
      subst hk
      exact ⟨by simp, fun g h => by simpa using h⟩
    · rw [if_neg hk]
      refine ⟨?_, fun g h => ?_⟩
      · rw [List.map_cons]
        exact List.mem_cons_of_mem _ i1
      · rw [List.map_cons] at h ⊢
        rcases List.mem_cons.mp h with e | e
        · exact List.mem_cons.mpr (.inl e)
        · exact List.mem_cons_of_mem _ (i2 g e)
theorem length_putF (f : Str) (v : V) : ∀ fs : List (Str × V), (putF f v fs).length ≤ fs.length + 1
  | [] => by simp [putF]
  | (k, x) :: r => by
    have ih := length_putF f v r
    rw [show putF f v ((k, x) :: r) = (if k = f then (k, v) :: r else (k, x) :: putF f v r) from rfl]
    by_cases hk : k = f
    · rw [if_pos hk, List.length_cons, List.length_cons]; omega
    · rw [if_neg hk, List.length_cons, List.length_cons]; omega
theorem RelO.some_of {v : V} {o : Option Value} (r : RelO (some v) o) : ∃ u, o = some u ∧ RelV v u := by
  cases o with
  | none => exact (show False from r).elim
  | some u => exact ⟨u, rfl, r⟩
theorem RelO.none_of {o : Option Value} (r : RelO none o) : o = none := by
  cases o with
  | none => rfl
  | some u => exact (show False from r).elim
theorem handed_of {v : V} {u : Value} (r : RelV v u) : PySem.W.handedIn u = true := by
  cases v with
  | non => cases (show u = Value.none from r); rfl
  | bl b => cases (show u = Value.bool b from r); rfl
  | int i => obtain ⟨t, e⟩ := (show ∃ t, u = Value.int i t from r); cases e; rfl
  | str x => obtain ⟨t, e⟩ := (show ∃ t, u = Value.str x t from r); cases e; rfl
  | byt b => obtain ⟨t, e⟩ := (show ∃ t, u = Value.bytes b t from r); cases e; rfl
  | flt b => obtain ⟨t, e⟩ := (show ∃ t, u = Value.float b t from r); cases e; rfl
  | ref a => cases (show u = Value.ref a from r); rfl
  | ty n => cases (show u = Value.type n from r); rfl
section
variable {P : Program} {w : World} {H H' : Hp} {h h' : Heap} {a C dx : Addr} {fs fs' : List (Str × V)}
theorem ins_get (hok : HOk P w H h) (e : H a = some (.ins C dx fs)) : ∃ mA, ObjM h a dx C mA ∧ (∀ f, RelO (fs.lookup f) (mA f)) ∧ PySem.Within mA (fs.map (·.1)) ∧ fs.length ≤ 1000 ∧ H dx = some (.own a) := by
  obtain ⟨d, z, ne, ob, mA, n, r, q⟩ := (show ObjOk P w H h a (.ins C dx fs) from hok a _ e)
  exact ⟨mA, ⟨ob, n, ne⟩, r, q, z, d⟩
end
structure Cls (K : PySem.W.Frag) (C : Addr) : Prop where
  pg : PySem.W.plainGet K C Str.empty = true
  hd : PySem.W.hasDictIn K C = true
  po : PySem.W.plainOver K C = true
  sa : PySem.W.findIn K (.ref C) "__setattr__" = some (some (.builtin "object.__setattr__"))
theorem Cls.get {K : PySem.W.Frag} {C : Addr} (c : Cls K C) (f : Str) : PySem.W.plainGet K C f = true := c.pg
def NoAttr (K : PySem.W.Frag) (C : Addr) (f : Str) : Prop := PySem.W.findIn K (.ref C) f = some none
theorem NoAttr.taker {K : PySem.W.Frag} {C : Addr} {f : Str} (n : NoAttr K C f) : PySem.W.takerIn K C f = some none := by
  unfold PySem.W.takerIn
  rw [show PySem.W.findIn K (.ref C) f = some none from n]
  rfl
structure Meth (K : PySem.W.Frag) (C : Addr) (m : Str) (f : Addr) : Prop where
  at_ : PySem.W.findIn K (.ref C) m = some (some (.ref f))
  fn : PySem.W.isFn K (.ref f) = true
  kp : PySem.W.keepIn K (.ref f) = true
section
variable {X : Cx} {pins : List (Addr × Obj)} {σ : St} {H : Hp} {s : Shared} {a C dx : Addr} {fs : List (Str × V)} {f : Str} {v : V} {A : Around} {E : Value → Shared → Prop}
theorem getattr_ok {b : Bool} {Q : Value → Shared → Prop} (I : Inv X pins σ H s) (e : H a = some (.ins C dx fs)) (c : Cls X.K C) (n : NoAttr X.K C f) (l : fs.lookup f = some v)
    (h : ∀ u s', Inv X pins σ H s' → RelV v u → Q u s') : wpAny (model X.prog X.w) A (getAttr (.ref a) f b) Q E s := by
  obtain ⟨mA, O, r, _, _, _⟩ := ins_get I.hok e
  obtain ⟨u, hu, ru⟩ := RelO.some_of (v := v) (o := mA f) (by rw [← l]; exact r f)
  exact get_map I.kIn O (c.get f) c.hd n hu (handed_of ru) (h u _ (I.tok _) ru)
theorem getmeth_ok {m : Str} {g : Addr} {pl : Sem Bool} {Q : Value × List Value → Shared → Prop} (I : Inv X pins σ H s) (e : H a = some (.ins C dx fs)) (c : Cls X.K C) (k : Meth X.K C m g) (l : fs.lookup m = none)
    (h : Q (.ref g, [.ref a]) s) : wpAny (model X.prog X.w) A (getMethod (.ref a) m pl) Q E s := by
  obtain ⟨mA, O, r, _, _, _⟩ := ins_get I.hok e
  have hn : mA m = none := RelO.none_of (by rw [← l]; exact r m)
  exact get_meth I.kIn O (c.get m) k.at_ k.fn hn h
theorem setattr_ok {y : V} {u : Value} {Q : Unit → Shared → Prop} (I : Inv X pins σ H s) (e : H a = some (.ins C dx fs)) (c : Cls X.K C) (n : NoAttr X.K C f) (hl : fs.length < 1000) (ry : RelV y u)
    (h : ∀ s', Inv X pins σ (upd H a (.ins C dx (putF f y fs))) s' → Q () s') : wpAny (model X.prog X.w) A (setAttr (.ref a) f u) Q E s := by
  obtain ⟨mA, O, r, wi, _, ho⟩ := ins_get I.hok e
  have hz : (fs.map (·.1)).length ≤ sizeLine := by rw [List.length_map, sizeLine_eq]; omega
  refine set_map I.kIn O c.sa c.po n.taker c.hd wi hz fun h' O' sb => h _ ?_
  have hd : ∃ o, h'.get? dx = some o := let ⟨o, _, _, e', _⟩ := O'.ns; ⟨o, e'⟩
  refine I.write (x := a) (e := dx) (by rw [e]; exact True.intro) (.inr ho) (fun b q hb z => (sb.2 b hb).trans z) hd ?_
  refine ⟨by rw [upd_ne O.ne]; exact ho, ?_, O.ne, O'.obj, _, O'.ns, fun g => ?_, fun g hg => ?_⟩
  · have := length_putF f y fs; omega
  · show RelO ((putF f y fs).lookup g) (if g = f then some u else mA g)
    rw [lookup_putF]
    by_cases q : g = f
    · rw [if_pos q, if_pos q]; exact ry
    · rw [if_neg q, if_neg q]; exact r g
  · by_cases q : g = f
    · rw [q]; exact (keys_putF f y fs).1
    · refine (keys_putF f y fs).2 g (wi g fun z => hg ?_)
      show (if g = f then some u else mA g) = none
      rw [if_neg q]; exact z
theorem Inv.made (I : Inv X pins σ H s) : Inv X pins σ (upd (upd H s.heap.objs.size (.own (s.heap.objs.size + 1))) (s.heap.objs.size + 1) (.ins C s.heap.objs.size []))
    { s with heap := (s.heap.push PySem.W.emptyDict).push (PySem.W.instObj C s.heap.objs.size) } := by
  have e1 : (s.heap.push PySem.W.emptyDict).get? s.heap.objs.size = some PySem.W.emptyDict := Heap.get?_push_size s.heap rfl
  have e2 : ((s.heap.push PySem.W.emptyDict).push (PySem.W.instObj C s.heap.objs.size)).get? (s.heap.objs.size + 1) = some (PySem.W.instObj C s.heap.objs.size) := by
    have := Heap.get?_push_size (s.heap.push PySem.W.emptyDict) (o := PySem.W.instObj C s.heap.objs.size) rfl
    rwa [Heap.size_push] at this
  have e3 : (s.heap.push PySem.W.emptyDict).Ns s.heap.objs.size (fun _ => none) := ⟨PySem.W.emptyDict, #[], _, e1, rfl, (fun e he => absurd he (by simp)), fun _ => rfl⟩
  have I1 := I.laid (a := s.heap.objs.size) (o := .own (s.heap.objs.size + 1)) (h' := s.heap.push PySem.W.emptyDict) (t' := s.toks) (fun b u q => Heap.get?_push_of_some _ q) (Nat.le_refl _) ⟨_, e1⟩
  refine I1.laid (a := s.heap.objs.size + 1) (o := .ins C s.heap.objs.size []) (t' := s.toks) (fun b u q => Heap.get?_push_of_some _ q) (Nat.le_of_eq (Heap.size_push _ _)) ?_
  have ne : s.heap.objs.size ≠ s.heap.objs.size + 1 := Nat.ne_of_lt (Nat.lt_succ_self _)
  refine ⟨by rw [upd_ne ne, upd_same], Nat.zero_le _, ne, e2, fun _ => none, (Heap.Ns1.of_empty e3).at fun o q => Heap.get?_push_of_some _ q, fun _ => True.intro, fun y hy => absurd rfl hy⟩
theorem attr_of {prog : Program} {w : World} {env : Env} {e : Expr} {f : Str} {pos : Pos} {s : Shared} {Q : Value → Shared → Prop} (hb : attributeBase e f env (eval e env) = eval e env)
    (h : wpAny (model prog w) A (eval e env) (fun o s₁ => wpAny (model prog w) A (getAttr o f true) Q E s₁) E s) : wpAny (model prog w) A (eval (.Attribute e f pos) env) Q E s :=
  Attribute_any_ h (by rw [arm_eval_Attribute, hb])
end
def tFld (K : PySem.W.Frag) (ta : TE) (f : Str) : TE := fun σ H Q => ta σ H fun x H1 => ∃ a C dx fs v, x = .ref a ∧ H1 a = some (.ins C dx fs) ∧ Cls K C ∧ NoAttr K C f ∧ fs.lookup f = some v ∧ Q v H1
def sFld (K : PySem.W.Frag) (ta tv : TE) (f : Str) : TS := fun D σ H => tv σ H fun y H1 => ta σ H1 fun x H2 => ∃ a C dx fs, x = .ref a ∧ H2 a = some (.ins C dx fs) ∧ Cls K C ∧ NoAttr K C f ∧ fs.length < 1000 ∧
  D.nx σ (upd H2 a (.ins C dx (putF f y fs)))
section
variable {X : Cx} {o e value : Expr} {f : Str} {pos pos' tpos : Pos} {ta tv : TE}
theorem pe_fld (he : PE X e ta) (hb : attributeBase e f X.env (eval e X.env) = eval e X.env) : PE X (.Attribute e f pos) (tFld X.K ta f) := by
  intro pins s σ H Q I h
  refine attr_of hb (thn (he pins s σ H _ I h) fun u s1 ⟨x, H1, I1, rx, a, C, dx, fs, v, ex, ea, c, n, l, q⟩ => ?_)
  subst ex
  obtain rfl : u = Value.ref a := rx
  exact getattr_ok I1 ea c n l fun u' s2 I2 ru => ⟨v, H1, I2, ru, q⟩
theorem ps_fld (ha : PE X o ta) (hv : PE X value tv) (hs : swapsWith value (some (.Attribute o f pos')) pos.line X.env = pure false) : PS X (.Assign [.Attribute o f pos'] value pos) (sFld X.K ta tv f) := by
  intro pins s σ H D I h
  refine plainObj_wpAny_Assign_Attribute (thn (hv pins s σ H _ I h) fun u s1 ⟨y, H1, I1, ry, q⟩ => thn (ha pins s1 σ H1 _ I1 q) fun ov s2 ⟨x, H2, I2, rx, a, C, dx, fs, ex, ea, c, n, l, q2⟩ => ?_) hs
  subst ex
  obtain rfl : ov = Value.ref a := rx
  exact setattr_ok I2 ea c n l ry fun s3 I3 => ⟨σ, _, I3, q2⟩
theorem methcall_of {pl : Sem Bool} {m : Str} {apos : Pos} {args : List Expr} {pins : List (Addr × Obj)} {s : Shared} {σ : St} {H : Hp} {Q : Value → Shared → Prop} {te : TE} (he : PE X e te) (I : Inv X pins σ H s)
    (h : te σ H fun x H1 => ∃ a C dx fs g, x = .ref a ∧ H1 a = some (.ins C dx fs) ∧ Cls X.K C ∧ Meth X.K C m g ∧ fs.lookup m = none ∧
      ∀ s1, Inv X pins σ H1 s1 → wpAny (model X.prog X.w) X.A (callWith pos (.ref g) [.ref a] (backTo pos (starEach args X.env)) (backToKw pos (keywordEach [] X.env))) Q X.xe s1)
    (ht : eval (.Call (.Attribute e m apos) args [] pos) X.env = (do
      let ov ← eval e X.env
      standAt apos.atName
      let (f, first) ← holding [ov] (getMethod ov m pl)
      callWith pos f first (backTo pos (starEach args X.env)) (backToKw pos (keywordEach [] X.env)))) :
    wpAny (model X.prog X.w) X.A (eval (.Call (.Attribute e m apos) args [] pos) X.env) Q X.xe s := by
  refine PySem.W.methodCall_KW (pl := pl) (thn (he pins s σ H _ I h) fun u s1 ⟨x, H1, I1, rx, a, C, dx, fs, g, ex, ea, c, k, l, q⟩ => ?_) ht
  subst ex
  obtain rfl : u = Value.ref a := rx
  exact getmeth_ok I1 ea c k l (q s1 I1)
end
section
variable {X : Cx} {pins : List (Addr × Obj)} {σ : St} {H : Hp} {s : Shared} {A : Around} {E : Value → Shared → Prop} {Q : Value → Shared → Prop} {c : Value} {b : Bool}
end
end L2
namespace L2
open PySem PySem.Spec PyProof.Rows
structure Room (k : Nat) (A : Around) : Prop where
  hd : A.handled = none
  dp : A.depth + 3 * k + 5 < recursionLimit
  un : A.units + 16 * k + 200 < cLine
  gd : A.guards = some []
theorem Room.mono {j k : Nat} {A : Around} (r : Room k A) (h : j ≤ k) : Room j A := ⟨r.hd, by have := r.dp; omega, by have := r.un; omega, r.gd⟩
theorem Room.deeper {k : Nat} {A : Around} (r : Room (k + 1) A) (env : Env) : Room k (A.deeper env) :=
  ⟨r.hd, by have := r.dp; show A.depth + 1 + 3 * k + 5 < _; omega, by have := r.un; show A.units + 3 + 16 * k + 200 < _; omega, r.gd⟩
theorem make_depth {A : Around} {C : Addr} {us : List Value} {kw : List (Str × Value)} : (A.under (.builtin "type.__call__" ⟨.ref C :: us, kw⟩)).depth = A.depth + 1 := by
  first | rfl | simp [Around.under, Code.weight, Code.isCreation, Code.isGuard, Code.isCaller, Code.frames, Code.isFrame, guardIds]
theorem make_units {A : Around} {C : Addr} {us : List Value} {kw : List (Str × Value)} : (A.under (.builtin "type.__call__" ⟨.ref C :: us, kw⟩)).units = A.units + 1 := by
  first | rfl | simp [Around.under, Code.cUnits, Code.frames, Code.isFrame]
theorem Room.make {k : Nat} {A : Around} (r : Room (k + 1) A) (C : Addr) (us : List Value) (kw : List (Str × Value)) : Room k (A.under (.builtin "type.__call__" ⟨.ref C :: us, kw⟩)) :=
  ⟨r.hd, by have := r.dp; rw [make_depth]; omega, by have := r.un; rw [make_units]; omega, by first | exact r.gd | simpa [Around.under, Code.guards, Code.isGuard, pushGuards, guardIds] using r.gd⟩
theorem Room.depth {k : Nat} {A : Around} (r : Room k A) : A.depth < recursionLimit := by have := r.dp; omega
theorem Room.units {k : Nat} {A : Around} (r : Room k A) : A.units + 64 < cLine := by have := r.un; omega
def tNil : TA := fun _ H Q => Q [] H
def tCons (ta : TE) (tr : TA) : TA := fun σ H Q => ta σ H fun x H1 => tr σ H1 fun xs H2 => Q (x :: xs) H2
section
variable {X : Cx} {e : Expr} {es : List Expr} {te : TE} {t : TA} {pos : Pos}
theorem pa_nil : PA X [] tNil := fun _ _ _ _ H Q I h => Calls.spliced_nil ⟨[], H, I, .nil, h⟩
theorem pa_cons (ha : PE X e te) (hr : PA X es t) (hs : starEach (e :: es) X.env = (false, eval e X.env) :: starEach es X.env := by rfl) : PA X (e :: es) (tCons te t) := by
  intro pos pins s σ H Q I h
  rw [hs]
  show wpAny _ _ (spliced ((false, eval e X.env) :: backTo pos (starEach es X.env))) _ _ s
  refine Calls.spliced_cons (thn (ha pins s σ H _ I h) fun u s1 ⟨x, H1, I1, r1, q1⟩ => ?_)
  exact thn (hr pos pins s1 σ H1 _ I1 q1) fun us s2 ⟨xs, H2, I2, r2, q2⟩ => ⟨x :: xs, H2, I2, .cons r1 r2, q2⟩
def tTup (t : TA) : TE := fun σ H Q => t σ H fun xs H1 => xs.length ≤ sizeLine ∧ ∀ p, H1 p = none → Q (.ref p) (upd H1 p (.tup xs))
def tLst (t : TA) : TE := fun σ H Q => t σ H fun xs H1 => xs.length ≤ sizeLine ∧ ∀ p, H1 p = none → Q (.ref p) (upd H1 p (.lst xs))
theorem pe_tup {x1} (h : PA X es t) : PE X (.Tuple es x1 pos) (tTup t) := by
  intro pins s σ H Q I hq
  refine wpAny_Tuple_spliced (thn (h pos pins s σ H _ I hq) fun us s1 ⟨xs, H1, I1, r, z, q⟩ => ⟨by rw [← r.length]; exact z, ?_⟩)
  have hf : H1 s1.heap.objs.size = none := I1.hok.fresh (Nat.le_refl _)
  refine ⟨.ref s1.heap.objs.size, upd H1 s1.heap.objs.size (.tup xs), I1.laid (t' := s1.toks) (fun b u e => Heap.get?_push_of_some _ e) (Nat.le_refl _) ?_, rfl, q _ hf⟩
  exact ⟨z, us, r, ⟨_, Heap.get?_push_size _ rfl, rfl, _, rfl⟩⟩
theorem pe_lst (h : PA X es t) : PE X (.List es pos) (tLst t) := by
  intro pins s σ H Q I hq
  refine wpAny_List_spliced (thn (h pos pins s σ H _ I hq) fun us s1 ⟨xs, H1, I1, r, z, q⟩ => ⟨by rw [← r.length]; exact z, ?_⟩)
  have hf : H1 s1.heap.objs.size = none := I1.hok.fresh (Nat.le_refl _)
  refine ⟨.ref s1.heap.objs.size, upd H1 s1.heap.objs.size (.lst xs), I1.laid (t' := s1.toks) (fun b u e => Heap.get?_push_of_some _ e) (Nat.le_refl _) ?_, rfl, q _ hf⟩
  exact ⟨z, us, 0, r, Heap.get?_push_size _ rfl⟩
end
abbrev Sp := List V → Hp → VK → XK → Prop
abbrev CXT := List Env → Hp → Shared → XK → Value → Shared → Prop
structure Env0 (P : Program) (w : World) (K : PySem.W.Frag) (mg : Str → Option Value) (base : Heap) (A : Around) (outer : List Env) (s : Shared) (H : Hp) : Prop where
  frames : A.frames = some outer
  mod : Mod K mg base
  bs : ∀ b o, base.get? b = some o → s.heap.get? b = some o ∧ H b = none
  bsz : base.objs.size ≤ s.heap.objs.size
  funs : s.heap.FunFrames base outer
  frf : ∀ b ∈ frs outer, H b = none
  hok : HOk P w H s.heap
  bare : AllBare s.gens
def CE (outer : List Env) (P : Program) (w : World) (H : Hp) (s : Shared) (Q : VK) (u : Value) (s' : Shared) : Prop :=
  ∃ v H', s'.os = s.os ∧ AllBare s'.gens ∧ Un (frs outer) [] H H' s.heap s'.heap ∧ HOk P w H' s'.heap ∧ RelV v u ∧ Q v H'
def CR (CX : CXT) (outer : List Env) (P : Program) (w : World) (H : Hp) (s : Shared) (Q : VK) (E : XK) (r : Result) (s' : Shared) : Prop :=
  match r with
  | .ok (.ret u) => CE outer P w H s Q u s'
  | .ok _ => False
  | .error e => CX outer H s E e s'
structure FnOk (P : Program) (w : World) (K : PySem.W.Frag) (mg : Str → Option Value) (base : Heap) (CX : CXT) (k : Nat) (f : Addr) (fd : FuncData) (ps : List Str) (sp : Sp) : Prop where
  len : ∀ vs H Q E, sp vs H Q E → vs.length = ps.length
  run : ∀ (A : Around) (outer : List Env) (s : Shared) (H : Hp) (args : Args) (us : List Value) (vs : List V) (Q : VK) (E : XK), Room k A → Env0 P w K mg base A outer s H → BindsTo s fd args (ps.zip us) → Vals vs us → sp vs H Q E →
    codeAny (model P w) A (.call (.ref f) args) (CR CX outer P w H s Q E) s
theorem Env0.make {P : Program} {w : World} {K : PySem.W.Frag} {mg : Str → Option Value} {base : Heap} {A : Around} {outer : List Env} {s : Shared} {H : Hp} (e : Env0 P w K mg base A outer s H) (C : Addr) (us : List Value) (kw : List (Str × Value)) :
    Env0 P w K mg base (A.under (.builtin "type.__call__" ⟨.ref C :: us, kw⟩)) outer s H := ⟨by first | exact e.frames | (simpa [Around.under, Code.envs, Code.isFrame, pushEnvs] using e.frames), e.mod, e.bs, e.bsz, e.funs, e.frf, e.hok, e.bare⟩
section
variable {X : Cx} {pins : List (Addr × Obj)} {σ : St} {H : Hp} {s s' : Shared}
theorem Inv.env0 (I : Inv X pins σ H s) : Env0 X.prog X.w X.K X.mg X.base X.A X.stack s H :=
  ⟨I.ok.frames, I.ok.mod, I.bs, Nat.le_trans I.ok.bsz I.sz, I.stack, I.stkFree, I.hok, I.bare⟩
theorem Inv.after {Q : VK} {u : Value} (I : Inv X pins σ H s) (h : CE X.stack X.prog X.w H s Q u s') : EP X pins σ Q u s' := by
  obtain ⟨v, H', os, bare, un, hok, r, q⟩ := h
  obtain ⟨hh, g, d, t, os'⟩ := s'
  obtain rfl : os' = s.os := os
  exact ⟨v, H', I.call (h' := hh) (g' := g) (d' := d) (t' := t) (ch := []) un hok bare (fun b z => absurd z (by simp)), r, q⟩
end
def tCall (sp : Sp) (dvs : List V) (E : XK) (t : TA) : TE := fun σ H Q => t σ H fun vs H1 => sp (vs ++ dvs) H1 Q E
def tMeth (C : Addr) (m : Str) (sp : Sp) (dvs : List V) (E : XK) (ta : TE) (t : TA) : TE := fun σ H Q => ta σ H fun x H1 => ∃ a dx fs, x = .ref a ∧ H1 a = some (.ins C dx fs) ∧ fs.lookup m = none ∧
  t σ H1 fun vs H2 => sp (x :: (vs ++ dvs)) H2 Q E
def tMake (C : Addr) (sp : Sp) (dvs : List V) (E : XK) (t : TA) : TE := fun σ H Q => t σ H fun vs H1 => ∀ x dx, H1 x = none → H1 dx = none → dx ≠ x →
  sp (.ref x :: (vs ++ dvs)) (upd (upd H1 dx (.own x)) x (.ins C dx [])) (fun v H2 => v = .non ∧ Q (.ref x) H2) E
def Binds (K : PySem.W.Frag) (fd : FuncData) (ps : List Str) (ds : List Value) : Prop :=
  ∀ (s : Shared) (us : List Value), K.In s.heap → (us ++ ds).length = ps.length → BindsTo s fd ⟨us, []⟩ (ps.zip (us ++ ds))
theorem Binds.all {K : PySem.W.Frag} {fd : FuncData} {ps : List Str} (h : ∀ us : List Value, us.length = ps.length → bindArgs fd ⟨us, []⟩ = pure (ps.zip us)) : Binds K fd ps [] := fun s us _ hl => by
  rw [List.append_nil] at hl ⊢
  exact .of_eq (h us hl)
def Passes (CX : CXT) (X : Cx) (E : XK) : Prop := ∀ (pins : List (Addr × Obj)) (σ : St) (H : Hp) (s : Shared) (e : Value) (s' : Shared), Inv X pins σ H s → CX X.stack H s E e s' → X.xe e s'
section
variable {X : Cx} {CX : CXT} {k : Nat} {f C : Addr} {fd : FuncData} {ps : List Str} {sp : Sp} {dvs : List V} {ds : List Value} {E : XK} {x m : Str} {p pos apos : Pos} {e o : Expr} {es : List Expr} {ta : TE} {t : TA}
theorem run_fn {pins : List (Addr × Obj)} {σ : St} {H : Hp} {s : Shared} {Q : VK} {us : List Value} {vs : List V} (F : FnOk X.prog X.w X.K X.mg X.base CX k f fd ps sp) (hr : Room k X.A) (hb : Binds X.K fd ps ds) (hd : Vals dvs ds) (hx : Passes CX X E)
    (I : Inv X pins σ H s) (r : Vals vs us) (h : sp (vs ++ dvs) H Q E) : wpAny (model X.prog X.w) X.A (call (.ref f) us) (EP X pins σ Q) X.xe s := by
  have r2 : Vals (vs ++ dvs) (us ++ ds) := r.append hd
  have hl : (us ++ ds).length = ps.length := by rw [← r2.length]; exact F.len _ _ _ _ h
  refine wpAny_call (codeAny_mono (F.run X.A X.stack s H ⟨us, []⟩ (us ++ ds) (vs ++ dvs) Q E hr I.env0 (hb s us I.kIn hl) r2 h) fun r s' hq => ?_)
  cases r with
  | error e => exact hx pins σ H s e s' I hq
  | ok fl =>
    cases fl with
    | ret u => exact I.after hq
    | next => exact False.elim hq
    | brk => exact False.elim hq
    | cont => exact False.elim hq
theorem pe_call (F : FnOk X.prog X.w X.K X.mg X.base CX k f fd ps sp) (hr : Room k X.A) (hg : Gl X x) (hm : X.mg x = some (.ref f)) (hk : PySem.W.keepIn X.K (.ref f) = true) (hb : Binds X.K fd ps ds) (hd : Vals dvs ds) (hx : Passes CX X E)
    (ha : PA X (e :: es) t) (hdb : (x == ("__debug__" : Str)) = false := by decide) (he : starEach (e :: es) X.env = (false, eval e X.env) :: starEach es X.env := by rfl) (hpl : (backTo pos (starEach es X.env)).any (·.1) = false := by rfl) :
    PE X (.Call (.Name x p) (e :: es) [] pos) (tCall sp dvs E t) := by
  intro pins s σ H Q I h
  refine wpAny_Call_Name_kw (ld_glob I hg hm ?_ hdb)
  refine PySem.W.callWith_K (h₀ := X.base) I.ok.mod.kin hk (thn (ha pos pins s σ H _ I h) fun us s1 ⟨vs, H1, I1, r, q⟩ => ⟨I1.kIn, ?_⟩) he hpl
  exact run_fn F hr hb hd hx I1 r q
theorem pe_call0 (F : FnOk X.prog X.w X.K X.mg X.base CX k f fd ps sp) (hr : Room k X.A) (hg : Gl X x) (hm : X.mg x = some (.ref f)) (hk : PySem.W.keepIn X.K (.ref f) = true) (hb : Binds X.K fd ps ds) (hd : Vals dvs ds) (hx : Passes CX X E)
    (hdb : (x == ("__debug__" : Str)) = false := by decide) : PE X (.Call (.Name x p) [] [] pos) (tCall sp dvs E tNil) := by
  intro pins s σ H Q I h
  refine wpAny_Call_Name_kw (ld_glob I hg hm ?_ hdb)
  exact PySem.W.callWith_K0 I.kIn hk (run_fn (us := []) F hr hb hd hx I .nil h)
theorem pe_meth {pl : Sem Bool} (he : PE X o ta) (c : Cls X.K C) (hm : Meth X.K C m f) (F : FnOk X.prog X.w X.K X.mg X.base CX k f fd ps sp) (hr : Room k X.A) (hb : Binds X.K fd ps ds) (hd : Vals dvs ds) (hx : Passes CX X E) (ha : PA X (e :: es) t)
    (hst : starEach (e :: es) X.env = (false, eval e X.env) :: starEach es X.env := by rfl) (hpl : (backTo pos (starEach es X.env)).any (·.1) = false := by rfl)
    (ht : eval (.Call (.Attribute o m apos) (e :: es) [] pos) X.env = (do
      let ov ← eval o X.env
      standAt apos.atName
      let (f, first) ← holding [ov] (getMethod ov m pl)
      callWith pos f first (backTo pos (starEach (e :: es) X.env)) (backToKw pos (keywordEach [] X.env))) := by rfl) :
    PE X (.Call (.Attribute o m apos) (e :: es) [] pos) (tMeth C m sp dvs E ta t) := by
  intro pins s σ H Q I h
  refine PySem.W.methodCall_KW (pl := pl) (thn (he pins s σ H _ I h) fun u s1 ⟨x, H1, I1, rx, a, dx, fs, ex, ea, l, q⟩ => ?_) ht
  subst ex
  obtain rfl : u = Value.ref a := rx
  refine getmeth_ok I1 ea c hm l ?_
  refine PySem.W.callWith_K (first := [.ref a]) (h₀ := X.base) I.ok.mod.kin hm.kp (thn (ha pos pins s1 σ H1 _ I1 q) fun us s2 ⟨vs, H2, I2, r, q2⟩ => ⟨I2.kIn, ?_⟩) hst hpl
  exact run_fn (us := .ref a :: us) (vs := .ref a :: vs) F hr hb hd hx I2 (.cons rfl r) q2
theorem pe_meth0 {pl : Sem Bool} (he : PE X o ta) (c : Cls X.K C) (hm : Meth X.K C m f) (F : FnOk X.prog X.w X.K X.mg X.base CX k f fd ps sp) (hr : Room k X.A) (hb : Binds X.K fd ps ds) (hd : Vals dvs ds) (hx : Passes CX X E)
    (ht : eval (.Call (.Attribute o m apos) [] [] pos) X.env = (do
      let ov ← eval o X.env
      standAt apos.atName
      let (f, first) ← holding [ov] (getMethod ov m pl)
      callWith pos f first (backTo pos (starEach [] X.env)) (backToKw pos (keywordEach [] X.env))) := by rfl) :
    PE X (.Call (.Attribute o m apos) [] [] pos) (tMeth C m sp dvs E ta tNil) := by
  intro pins s σ H Q I h
  refine PySem.W.methodCall_KW (pl := pl) (thn (he pins s σ H _ I h) fun u s1 ⟨x, H1, I1, rx, a, dx, fs, ex, ea, l, q⟩ => ?_) ht
  subst ex
  obtain rfl : u = Value.ref a := rx
  refine getmeth_ok I1 ea c hm l ?_
  exact PySem.W.callWith_K0 (first := [.ref a]) I1.kIn hm.kp (run_fn (us := [.ref a]) (vs := [.ref a]) F hr hb hd hx I1 (.cons rfl .nil) q)
structure Mk (K : PySem.W.Frag) (C f : Addr) : Prop where
  makes : PySem.W.makesIn K C = true
  init : PySem.W.findIn K (.ref C) "__init__" = some (some (.ref f))
  fn : PySem.W.isFn K (.ref f) = true
  kp : PySem.W.keepIn K (.ref C) = true
theorem run_make {pins : List (Addr × Obj)} {σ : St} {H : Hp} {s : Shared} {Q : VK} {us : List Value} {vs : List V} (M : Mk X.K C f) (F : FnOk X.prog X.w X.K X.mg X.base CX k f fd ps sp) (hr : Room (k + 1) X.A) (hb : Binds X.K fd ps ds) (hd : Vals dvs ds)
    (hx : Passes CX X E) (I : Inv X pins σ H s) (r : Vals vs us)
    (h : ∀ x dx, H x = none → H dx = none → dx ≠ x → sp (.ref x :: (vs ++ dvs)) (upd (upd H dx (.own x)) x (.ins C dx [])) (fun v H2 => v = .non ∧ Q (.ref x) H2) E) :
    wpAny (model X.prog X.w) X.A (call (.ref C) us) (EP X pins σ Q) X.xe s := by
  have hq := h (s.heap.objs.size + 1) s.heap.objs.size (I.hok.fresh (Nat.le_succ _)) (I.hok.fresh (Nat.le_refl _)) (Nat.ne_of_lt (Nat.lt_succ_self _))
  have I2 := Inv.made (C := C) I
  have r2 : Vals (V.ref (s.heap.objs.size + 1) :: (vs ++ dvs)) (Value.ref (s.heap.objs.size + 1) :: (us ++ ds)) := .cons rfl (r.append hd)
  have hl : (Value.ref (s.heap.objs.size + 1) :: us ++ ds).length = ps.length := by
    have e := r2.length
    rw [F.len _ _ _ _ hq] at e
    exact e.symm
  refine wpAny_call (make_map (f := f) I.kIn M.makes M.init (beq_iff_eq.mp M.fn) (codeAny_mono (F.run _ X.stack _ _ ⟨Value.ref (s.heap.objs.size + 1) :: us, []⟩ (Value.ref (s.heap.objs.size + 1) :: (us ++ ds)) _ _ E (hr.make C us [])
    (I2.env0.make C us []) (hb _ (Value.ref (s.heap.objs.size + 1) :: us) I2.kIn hl) r2 hq) fun r s' hq' => ?_))
  cases r with
  | error e => exact hx pins σ _ _ e s' I2 hq'
  | ok fl =>
    cases fl with
    | ret u =>
      obtain ⟨v, H', I3, rv, ev, q3⟩ := I2.after hq'
      subst ev
      exact ⟨rv, ⟨V.ref (s.heap.objs.size + 1), H', I3, rfl, q3⟩⟩
    | next => exact False.elim hq'
    | brk => exact False.elim hq'
    | cont => exact False.elim hq'
theorem pe_make (M : Mk X.K C f) (F : FnOk X.prog X.w X.K X.mg X.base CX k f fd ps sp) (hr : Room (k + 1) X.A) (hg : Gl X x) (hm : X.mg x = some (.ref C)) (hb : Binds X.K fd ps ds) (hd : Vals dvs ds) (hx : Passes CX X E)
    (ha : PA X (e :: es) t) (hdb : (x == ("__debug__" : Str)) = false := by decide) (he : starEach (e :: es) X.env = (false, eval e X.env) :: starEach es X.env := by rfl) (hpl : (backTo pos (starEach es X.env)).any (·.1) = false := by rfl) :
    PE X (.Call (.Name x p) (e :: es) [] pos) (tMake C sp dvs E t) := by
  intro pins s σ H Q I h
  refine wpAny_Call_Name_kw (ld_glob I hg hm ?_ hdb)
  refine PySem.W.callWith_K (h₀ := X.base) I.ok.mod.kin M.kp (thn (ha pos pins s σ H _ I h) fun us s1 ⟨vs, H1, I1, r, q⟩ => ⟨I1.kIn, ?_⟩) he hpl
  exact run_make M F hr hb hd hx I1 r q
end
section
variable {X : Cx} {CX : CXT} {k : Nat} {f C : Addr} {fd : FuncData} {ps ks : List Str} {sp : Sp} {E : XK} {x m : Str} {p pos apos kpos : Pos} {e o : Expr} {es : List Expr} {kws : List Keyword} {te ta : TE} {t tk : TA} {nm : Option Str}
variable {g : List Value → List Value → List Value} {gV : List V → List V → List V}
end
structure FnScope (N P : List Str) (sc : Scope) : Prop where
  kind : sc.kind = .function
  co : sc.isCoroutine = false
  gen : sc.isGenerator = false
  nd : N.Nodup
  pre : N.take P.length = P
  par : ∀ x ∈ P, sc.names.lookup x = some .local ∨ sc.names.lookup x = some .cell
  nofree : ∀ y ∈ sc.names, y.2 ≠ .free
theorem bindL_out {kindOf : Str → Option NameKind} {x : Str} : ∀ {binds : List (Str × Value)} {m : Str → Option Value}, (∀ v, (x, v) ∉ binds) → bindL kindOf binds m x = m x
  | [], _, _ => rfl
  | (n, v) :: r, m, h => by
    unfold bindL
    rw [bindL_out fun w hw => h w (List.mem_cons_of_mem _ hw)]
    split
    · have : x ≠ n := by rintro rfl; exact h v List.mem_cons_self
      simp [this]
    · rfl
theorem bindC_out {kindOf : Str → Option NameKind} {x : Str} : ∀ {binds : List (Str × Value)} {m : Str → Option Value}, (∀ v, (x, v) ∉ binds) → bindC kindOf binds m x = m x
  | [], _, _ => rfl
  | (n, v) :: r, m, h => by
    unfold bindC
    rw [bindC_out fun w hw => h w (List.mem_cons_of_mem _ hw)]
    split
    · rfl
    · have : x ≠ n := by rintro rfl; exact h v List.mem_cons_self
      simp [this]
theorem bindL_get {kindOf : Str → Option NameKind} {x : Str} {v : Value} : ∀ {P : List Str} {vs : List Value} {i : Nat} {m : Str → Option Value}, P.Nodup → P[i]? = some x → vs[i]? = some v → kindOf x = some .local →
    bindL kindOf (P.zip vs) m x = some v
  | [], _, _, _, _, h, _, _ => by simp at h
  | _ :: _, [], _, _, _, _, h, _ => by simp at h
  | p :: P, w :: vs, 0, m, nd, h1, h2, hk => by
    simp at h1 h2; subst h1; subst h2
    show bindL kindOf ((p, w) :: P.zip vs) m p = _
    unfold bindL
    rw [bindL_out fun v hv => (List.nodup_cons.mp nd).1 (List.of_mem_zip hv).1, if_pos hk]
    simp
  | p :: P, w :: vs, i + 1, m, nd, h1, h2, hk => by
    show bindL kindOf ((p, w) :: P.zip vs) m x = _
    unfold bindL
    exact bindL_get (i := i) (List.nodup_cons.mp nd).2 (by simpa using h1) (by simpa using h2) hk
theorem bindC_get {kindOf : Str → Option NameKind} {x : Str} {v : Value} : ∀ {P : List Str} {vs : List Value} {i : Nat} {m : Str → Option Value}, P.Nodup → P[i]? = some x → vs[i]? = some v → kindOf x ≠ some .local →
    bindC kindOf (P.zip vs) m x = some v
  | [], _, _, _, _, h, _, _ => by simp at h
  | _ :: _, [], _, _, _, _, h, _ => by simp at h
  | p :: P, w :: vs, 0, m, nd, h1, h2, hk => by
    simp at h1 h2; subst h1; subst h2
    show bindC kindOf ((p, w) :: P.zip vs) m p = _
    unfold bindC
    rw [bindC_out fun v hv => (List.nodup_cons.mp nd).1 (List.of_mem_zip hv).1, if_neg hk]
    simp
  | p :: P, w :: vs, i + 1, m, nd, h1, h2, hk => by
    show bindC kindOf ((p, w) :: P.zip vs) m x = _
    unfold bindC
    exact bindC_get (i := i) (List.nodup_cons.mp nd).2 (by simpa using h1) (by simpa using h2) hk
def start (N : List Str) (vs : List V) : St := vs.map some ++ List.replicate (N.length - vs.length) none
def cxOf (CX : CXT) (P : Program) (w : World) (K : PySem.W.Frag) (mg : Str → Option Value) (base : Heap) (N : List Str) (qual : Str) (scope : Scope) (f : Addr) (cd : Value) (A : Around) (outer : List Env) (s : Shared) (H : Hp) (E : XK) : Cx where
  prog := P
  w := w
  K := K
  mg := mg
  base := base
  A := A.deeper (envOfC qual scope s.heap.objs.size f cd)
  N := N
  s₀ := s
  H₀ := H
  env := envOfC qual scope s.heap.objs.size f cd
  outer := outer
  stack := envOfC qual scope s.heap.objs.size f cd :: outer
  ex := []
  calm := true
  fn := fun _ => true
  pn := []
  xe := fun e s' => wpAny (model P w) (A.deeper (envOfC qual scope s.heap.objs.size f cd)) (leaving (envOfC qual scope s.heap.objs.size f cd) e) (fun _ s'' => CX outer H s E e s'') (fun e' s'' => CX outer H s E e' s'') s'
theorem cell_has {sc : Scope} {n : Nat} {x : Str} (h : sc.names.lookup x = some .cell) : ∃ c, (cellsFrom n sc.names []).lookup x = some c := by
  have q := PySem.W.cellsFrom_some sc.names n [] (.inl h)
  exact Option.isSome_iff_exists.mp q
theorem inv_start {CX : CXT} {P : Program} {w : World} {K : PySem.W.Frag} {mg : Str → Option Value} {base : Heap} {N ps : List Str} {qual : Str} {scope : Scope} {f : Addr} {cd : Value} {A : Around} {outer : List Env} {s s1 : Shared} {H : Hp} {E : XK} {us : List Value} {vs : List V}
    (S : FnScope N ps scope) (hd : A.handled = none) (e0 : Env0 P w K mg base A outer s H) (hl : vs.length = ps.length) (r : Vals vs us)
    (x : InCallC s s.heap.objs.size (bindL (envOfC qual scope s.heap.objs.size f cd).kindOf (ps.zip us) fun _ => none) (cellsFrom (s.heap.objs.size + 1) scope.names []) (bindC (envOfC qual scope s.heap.objs.size f cd).kindOf (ps.zip us) fun _ => none) s1) :
    Inv (cxOf CX P w K mg base N qual scope f cd A outer s H E) [] (start N vs) H s1 := by
  have hpl : ps.length ≤ N.length := by have := congrArg List.length S.pre; rw [List.length_take] at this; omega
  obtain ⟨h1, tk, rfl, hk⟩ := x.done
  have noA : ∀ b : Addr, b ∉ (cxOf CX P w K mg base N qual scope f cd A outer s H E).ex := fun b z => absurd (show b ∈ ([] : List Addr) from z) (by simp)
  refine ⟨⟨e0.mod, S.kind, rfl, rfl, Nat.le_refl _, fun y z c h1 h2 => ?_, fun y hy => ?_, fun y c _ h => ?_, fun _ => hd, Around.frames_deeper e0.frames, .inr ⟨rfl, rfl⟩, fun b z => absurd z (noA b), e0.bs, e0.bsz, fun b _ _ => noA b, fun b z => absurd z (noA b), e0.funs, e0.frf⟩,
    rfl, e0.bare, Un.kept hk, ⟨_, x.toInCall.ns, fun i y v h1 h2 h3 => ?_⟩, fun y c h => ⟨_, x.cell y c h⟩, e0.hok.fresh (Nat.le_refl _), fun y c h => ?_, fun p hp => absurd (show p ∈ ([] : List (Addr × Obj)) from hp) (by simp), e0.hok.kept hk, ?_⟩
  · exact name_of_addr x.apart (PySem.mem_of_lookup h1) (PySem.mem_of_lookup h2)
  · have hy : scope.names.lookup y = some .cell ∨ scope.names.lookup y = some .free := hy
    rcases hy with hy | hy
    · exact cell_has hy
    · exact absurd rfl (S.nofree _ (PySem.mem_of_lookup hy))
  · exact Nat.le_of_lt (x.above y c (PySem.mem_of_lookup h))
  · have hi : i < vs.length := by
      unfold start at h2
      by_cases hi : i < vs.length
      · exact hi
      · rw [List.getElem?_append_right (by simpa using hi)] at h2
        rw [List.getElem?_replicate] at h2
        split at h2 <;> cases h2
    have ha : vs[i]? = some v := by
      unfold start at h2
      rw [List.getElem?_append_left (by simpa using hi), List.getElem?_map] at h2
      cases e : vs[i]? with
      | none => rw [e] at h2; cases h2
      | some a => rw [e] at h2; cases h2; rfl
    obtain ⟨u, hu, rv⟩ := r.get ha
    have hp : ps[i]? = some y := by
      rw [← S.pre, List.getElem?_take_of_lt (by omega)]; exact h1
    have ndP : ps.Nodup := by rw [← S.pre]; exact S.nd.sublist (List.take_sublist _ _)
    refine ⟨u, rv, ?_⟩
    rcases S.par y (List.mem_of_getElem? hp) with k | k
    · exact .inl ⟨k, bindL_get ndP hp hu k⟩
    · obtain ⟨c, e⟩ := cell_has (n := s.heap.objs.size + 1) k
      refine .inr ⟨.inl k, c, e, ?_⟩
      have q := x.cell y c e
      rw [bindC_get ndP hp hu (by show scope.names.lookup y ≠ _; rw [k]; decide)] at q
      exact q
  · exact e0.hok.fresh (Nat.le_of_lt (x.above y c (PySem.mem_of_lookup h)))
  · unfold start
    show _ = N.length
    rw [List.length_append, List.length_map, List.length_replicate]
    omega
theorem fn_of {CX : CXT} {P : Program} {w : World} {K : PySem.W.Frag} {mg : Str → Option Value} {base : Heap} {k : Nat} {f : Addr} {name qual : Str} {params : Arguments} {body : List Stmt} {scope : Scope} {dV kV doc pm cdv ct oc : Value} {an od : Option Addr}
    {osl : Array (Option Value)} {N ps : List Str} {sp : Sp} (lk : K.lookup f = some ⟨oc, od, .func (PySem.W.fnOf name qual params body scope dV kV doc pm an cdv ct), osl⟩) (hcd : PySem.W.codeIn K cdv qual = true) (S : FnScope N ps scope)
    (len : ∀ vs H Q E, sp vs H Q E → vs.length = ps.length)
    (hbody : ∀ (A : Around) (outer : List Env) (s : Shared) (H : Hp) (vs : List V) (Q : VK) (E : XK), Room k (A.deeper (envOfC qual scope s.heap.objs.size f cdv)) → sp vs H Q E →
      ∃ t, PSs (cxOf CX P w K mg base N qual scope f cdv A outer s H E) body t ∧ t { nx := fun _ H' => Q .non H', rt := Q } (start N vs) H) :
    FnOk P w K mg base CX (k + 1) f (PySem.W.fnOf name qual params body scope dV kV doc pm an cdv ct) ps sp := by
  refine ⟨len, fun A outer s H args us vs Q E hr e0 hb r hsp => ?_⟩
  have hl := len _ _ _ _ hsp
  have KX : K.In s.heap := e0.mod.kin.keeps fun b o e => (e0.bs b o e).1
  have lim : s.heap.NoLimit := e0.mod.nolimit.keeps fun b o e => (e0.bs b o e).1
  have hkind : ∀ y ∈ ps.zip us, scope.names.lookup y.1 = some .local ∨ (scope.names.lookup y.1 = some .cell ∧ ((cellsFrom (s.heap.objs.size + 1) scope.names []).lookup y.1).isSome = true) := fun ⟨n, v⟩ hy => by
    rcases S.par n (List.of_mem_zip hy).1 with q | q
    · exact .inl q
    · exact .inr ⟨q, PySem.W.cellsFrom_some _ _ _ (.inl q)⟩
  refine codeAny_call_function hr.depth (KX _ _ lk) rfl S.co S.gen rfl (PySem.W.codeRec_of KX hcd) (hb _ _ _ _ ?_)
  refine wpAny_newFunctionEnv_cells S.kind hkind fun env he s1 x => ?_
  subst he
  refine ⟨lim.keeps x.toInCall.keep, codeAny_func ?_⟩
  obtain ⟨t, ht, hq⟩ := hbody A outer s H vs Q E (hr.deeper _) hsp
  have I : Inv (cxOf CX P w K mg base N qual scope f cdv A outer s H E) [] (start N vs) H s1 := inv_start S hr.hd e0 hl r x
  refine wpAny_mono (ht [] s1 (start N vs) H _ I hq) (fun fl s' hs => ?_) fun e s' hs => hs
  have fin : ∀ {σ' : St} {H' : Hp} {v : V} {u : Value}, Inv (cxOf CX P w K mg base N qual scope f cdv A outer s H E) [] σ' H' s' → RelV v u → Q v H' → CE outer P w H s Q u s' :=
    fun {σ' H' v u} J rv q => ⟨v, H', J.os, J.bare, J.base, J.hok, rv, q⟩
  cases fl with
  | ret u =>
    obtain ⟨v, σ', H', J, rv, q⟩ := hs
    exact fin J rv q
  | next =>
    obtain ⟨σ', H', J, q⟩ := hs
    exact fin (v := V.non) (u := Value.none) J rfl q
  | brk =>
    obtain ⟨_, _, _, q⟩ := hs
    exact False.elim q
  | cont =>
    obtain ⟨_, _, _, q⟩ := hs
    exact False.elim q
end L2
namespace L2
open PySem PySem.Spec PyProof.Rows
section
variable {X : Cx} {x : Str} {p pos : Pos} {e : Expr} {es : List Expr} {t : TA} {id T : String} {r : List V → Hp → VK → Prop}
def tCB (r : List V → Hp → VK → Prop) (t : TA) : TE := fun σ H Q => t σ H fun vs H1 => r vs H1 Q
theorem pe_callB (hc : CallR X (.builtin id) r) (hg : Gl X x) (hm : X.mg x = none) (hv : bootBuiltins x = some (.builtin id)) (ha : PA X (e :: es) t) (hn : x ≠ "__name__" := by decide) (hdb : (x == ("__debug__" : Str)) = false := by decide)
    (he : starEach (e :: es) X.env = (false, eval e X.env) :: starEach es X.env := by rfl) (hpl : (backTo pos (starEach es X.env)).any (·.1) = false := by rfl) : PE X (.Call (.Name x p) (e :: es) [] pos) (tCB r t) := by
  intro pins s σ H Q I h
  refine wpAny_Call_Name_kw (ld_blt I hg hm hv ?_ hn hdb)
  exact PyProof.Rows.callWith_builtin1 (thn (ha pos pins s σ H _ I h) fun us s1 ⟨vs, H1, I1, r1, q1⟩ => hc pins s1 σ H1 vs us Q I1 r1 q1) he hpl
theorem pe_callTy (hc : CallR X (.type T) r) (hg : Gl X x) (hm : X.mg x = none) (hv : bootBuiltins x = some (.type T)) (ha : PA X (e :: es) t) (hn : x ≠ "__name__" := by decide) (hdb : (x == ("__debug__" : Str)) = false := by decide)
    (he : starEach (e :: es) X.env = (false, eval e X.env) :: starEach es X.env := by rfl) (hpl : (backTo pos (starEach es X.env)).any (·.1) = false := by rfl) : PE X (.Call (.Name x p) (e :: es) [] pos) (tCB r t) := by
  intro pins s σ H Q I h
  refine wpAny_Call_Name_kw (ld_blt I hg hm hv ?_ hn hdb)
  exact PyProof.Rows.callWith_type1 (thn (ha pos pins s σ H _ I h) fun us s1 ⟨vs, H1, I1, r1, q1⟩ => hc pins s1 σ H1 vs us Q I1 r1 q1) he hpl
end
end L2
namespace HT
open PySem PyProof.Rows
section
open PySem.SeqAt
open PySem.AutoSeq1 (wpAny_loadPart')
open PySem.MeetsSeq PySem.MeetsSeq2 PySem.MeetsSeq3
end
section
variable {prog : Program} {w : World} {A : Around} {E : Value → Shared → Prop} {s : Shared}
def sIx (n d : Nat) : Option Int → Nat
  | none => d
  | some v => if v < 0 then (v + (n : Int)).toNat else min v.toNat n
end
end HT
namespace L2
open PySem PySem.Spec PyProof.Rows
abbrev TO := St → Hp → (Option Int → Hp → Prop) → Prop
def PO (X : Cx) (e : Option Expr) (t : TO) : Prop :=
  ∀ (pins : List (Addr × Obj)) (s : Shared) (σ : St) (H : Hp) (Q : Option Int → Hp → Prop), Inv X pins σ H s → t σ H Q →
    wpAny (model X.prog X.w) X.A (evalPart e X.env) (fun u s' => ∃ o H', Inv X pins σ H' s' ∧ IsPart u o ∧ Q o H') X.xe s
def tNoPart : TO := fun _ H Q => Q none H
def tPart (t : TE) : TO := fun σ H Q => t σ H fun x H1 => ∃ i, x = .int i ∧ Q (some i) H1
section
variable {X : Cx} {e : Expr} {te : TE} {lo hi : Option Expr} {tl th : TO} {pos p2 : Pos}
theorem po_none : PO X none tNoPart := by
  intro pins s σ H Q I h
  rw [evalPart_none]
  exact wpAny_pure ⟨none, H, I, .none, h⟩
theorem po_some (h : PE X e te) : PO X (some e) (tPart te) := by
  intro pins s σ H Q I hw
  rw [evalPart_some]
  refine thn (h pins s σ H _ I hw) fun u s1 ⟨x, H1, I1, r1, q1⟩ => ?_
  obtain ⟨i, rfl, q⟩ := q1
  obtain ⟨t, rfl⟩ := r1
  exact ⟨some i, H1, I1, .int i t, q⟩
def SlR (X : Cx) (r : V → Option Int → Option Int → Hp → VK → Prop) : Prop :=
  ∀ (pins : List (Addr × Obj)) (s : Shared) (σ : St) (H : Hp) (x : V) (v vl vu : Value) (lo hi : Option Int) (sl : Addr) (Q : VK), Inv X pins σ H s → RelV x v → s.heap.IsSliceOf sl vl vu .none → IsPart vl lo → IsPart vu hi → r x lo hi H Q →
    ∃ T id, typeLookup (.type T) "__getitem__" = pure (some (.builtin id)) ∧ s.TypeIs v T ∧ wpAny (model X.prog X.w) X.A (getItem v (.ref sl)) (EP X pins σ Q) X.xe s
def tSl (r : V → Option Int → Option Int → Hp → VK → Prop) (te : TE) (tl th : TO) : TE := fun σ H Q => te σ H fun x H1 => tl σ H1 fun l H2 => th σ H2 fun u H3 => r x l u H3 Q
theorem pe_slice {r : V → Option Int → Option Int → Hp → VK → Prop} (hr : SlR X r) (he : PE X e te) (hl : PO X lo tl) (hu : PO X hi th) : PE X (.Subscript e (.Slice lo hi none p2) pos) (tSl r te tl th) := by
  intro pins s σ H Q I h
  refine Subscript_ (thn (he pins s σ H _ I h) fun v s1 ⟨x, H1, I1, r1, q1⟩ => ?_)
  refine wpAny_Slice (thn (hl pins s1 σ H1 _ I1 q1) fun vl s2 ⟨l, H2, I2, pl, q2⟩ => thn (hu pins s2 σ H2 _ I2 q2) fun vu s3 ⟨u, H3, I3, pu, q3⟩ => ?_)
  rw [evalPart_none]
  refine wpAny_pure ?_
  have I4 : Inv X pins σ H3 { s3 with heap := s3.heap.push { cls := .type "slice", data := .fields #[vl, vu, .none] } } := I3.kept (t' := s3.toks) fun b ob q => Heap.get?_push_of_some _ q
  obtain ⟨T, id, hT, ht, hg⟩ := hr pins { s3 with heap := s3.heap.push { cls := .type "slice", data := .fields #[vl, vu, .none] } } σ H3 x v vl vu l u s3.heap.objs.size Q I4 r1 (Heap.IsSliceOf.new ..) pl pu q3
  show wpAny (model X.prog X.w) X.A (subscriptTail e (.Slice lo hi none p2) v (.ref s3.heap.objs.size)) (EP X pins σ Q) X.xe { s3 with heap := s3.heap.push { cls := .type "slice", data := .fields #[vl, vu, .none] } }
  exact tail_any (ops := [.ref s3.heap.objs.size, v]) ht hT hg (by with_unfolding_all rfl)
def cutV (xs : List V) (lo hi : Option Int) : List V := (xs.drop (HT.sIx xs.length 0 lo)).take (HT.sIx xs.length xs.length hi - HT.sIx xs.length 0 lo)
theorem cutV_length (xs : List V) (lo hi : Option Int) : (cutV xs lo hi).length ≤ xs.length := by
  unfold cutV
  rw [List.length_take, List.length_drop]
  omega
end
end L2
namespace L2
open PySem PySem.Spec PyProof.Rows
def ixN (n : Nat) (i : Int) : Option Nat := if 0 ≤ i then (if i < n then some i.toNat else none) else if -(n : Int) ≤ i then some (i + n).toNat else none
def atI {α : Type} (xs : List α) (i : Int) : Option α := (ixN xs.length i).bind fun j => xs[j]?
theorem ixN_seq {n : Nat} {i : Int} {j : Nat} (h : ixN n i = some j) : seqIndex? i n = some j ∧ j < n ∧ -(n : Int) ≤ i ∧ i < n := by
  unfold ixN at h
  by_cases h0 : 0 ≤ i
  · rw [if_pos h0] at h
    by_cases h1 : i < n
    · rw [if_pos h1] at h
      have e : i.toNat = j := Option.some.inj h
      exact ⟨by rw [seqIndex_of h0 h1, e], by omega, by omega, h1⟩
    · rw [if_neg h1] at h; cases h
  · rw [if_neg h0] at h
    by_cases h1 : -(n : Int) ≤ i
    · rw [if_pos h1] at h
      have e : (i + n).toNat = j := Option.some.inj h
      exact ⟨by rw [seqIndex_neg (by omega) h1, e], by omega, h1, by omega⟩
    · rw [if_neg h1] at h; cases h
theorem atI_get {α : Type} {xs : List α} {i : Int} {v : α} (h : atI xs i = some v) : ∃ j, seqIndex? i xs.length = some j ∧ xs[j]? = some v ∧ j < xs.length ∧ -(xs.length : Int) ≤ i ∧ i < xs.length := by
  unfold atI at h
  cases e : ixN xs.length i with
  | none => rw [e] at h; cases h
  | some j =>
    rw [e] at h
    obtain ⟨h1, h2, h3, h4⟩ := ixN_seq e
    exact ⟨j, h1, h, h2, h3, h4⟩
theorem atI_nat {α : Type} {xs : List α} {j : Nat} {v : α} (h : xs[j]? = some v) : atI xs (j : Int) = some v := by
  have hj : j < xs.length := (List.getElem?_eq_some_iff.mp h).1
  have e : ixN xs.length (j : Int) = some j := by
    unfold ixN
    rw [if_pos (by omega), if_pos (by omega)]; simp
  unfold atI; rw [e]; exact h
def PlainIx (b : Expr) : Prop := ∀ o i, subscripted b false o i = operate [o, i] (getItem o i)
def IxR (X : Cx) (r : R2) : Prop :=
  ∀ (value slice : Expr) (pins : List (Addr × Obj)) (s : Shared) (σ : St) (H : Hp) (x y : V) (v u : Value) (Q : VK), Inv X pins σ H s → RelV x v → RelV y u → r x y H Q →
    subscripted slice false v u = operate [v, u] (getItem v u) → wpAny (model X.prog X.w) X.A (subscriptTail value slice v u) (EP X pins σ Q) X.xe s
def MtR (X : Cx) (id : String) (r : V → List V → Hp → VK → Prop) : Prop :=
  ∀ (pins : List (Addr × Obj)) (s : Shared) (σ : St) (H : Hp) (x : V) (xs : List V) (v : Value) (us : List Value) (Q : VK), Inv X pins σ H s → RelV x v → Vals xs us → r x xs H Q →
    wpAny (model X.prog X.w) X.A (call (.builtin id) (v :: us)) (EP X pins σ Q) X.xe s
section
variable {X : Cx} {a b : Expr} {ta tb : TE} {pos : Pos}
theorem pe_ix {r : R2} (hr : IxR X r) (ha : PE X a ta) (hb : PE X b tb) (hs : PlainIx b) : PE X (.Subscript a b pos) (tOp r ta tb) := by
  intro pins s σ H Q I h
  exact Subscript_ (binT ha hb I h fun v u s2 x y H2 I2 rx ry q => hr a b pins s2 σ H2 x y v u Q I2 rx ry q (hs _ _))
def rIxL (K : PySem.W.Frag) : R2 := fun x y H Q => ∃ p xs i v, x = .ref p ∧ y = .int i ∧ SqL K H p xs ∧ atI xs i = some v ∧ Q v H
def rIxT (K : PySem.W.Frag) : R2 := fun x y H Q => ∃ p xs i v, x = .ref p ∧ y = .int i ∧ SqT K H p xs ∧ atI xs i = some v ∧ Q v H
def rIxS : R2 := fun x y H Q => ∃ z i c, x = .str z ∧ y = .int i ∧ z.length ≤ sizeLine ∧ atI z.cps.toList i = some c ∧ Q (.str ⟨#[c]⟩) H
theorem ix_list : IxR X (rIxL X.K) := by
  intro value slice pins s σ H x y v u Q I rx ry h hs
  obtain ⟨p, xs, i, z, rfl, rfl, hq, he, q⟩ := h
  cases rx
  obtain ⟨t, rfl⟩ := ry
  obtain ⟨its, r, pl, hz⟩ := I.list hq
  obtain ⟨j, h1, h2, h3, h4, h5⟩ := atI_get he
  obtain ⟨w, ew, rw'⟩ := r.get h2
  have hl := r.length
  have hn := line63
  have fin : EP X pins σ Q w s := ⟨z, H, I, rw', q⟩
  by_cases h0 : 0 ≤ i
  · have hj : i.toNat = j := by
      rw [seqIndex_of h0 h5] at h1
      exact Option.some.inj h1
    exact item_listR pl.isList h0 (by omega) (by rw [hj]; simpa using ew) fin hs
  · have hj : (i + (its.toArray.size : Int)).toNat = j := by
      rw [seqIndex_neg (by omega) h4] at h1
      rw [List.size_toArray, ← hl]
      exact Option.some.inj h1
    exact subscriptTail_builtinR (x := w) pl.isList.typeIs slot_list_getitem.lookup
      (wpAny_getItem_list_neg (Q := fun r s' => r = w ∧ EP X pins σ Q r s') pl.isList (by omega) (by rw [List.size_toArray] <;> omega) (by omega) (by rw [hj]; simpa using ew) ⟨rfl, fin⟩) hs
theorem ix_tup : IxR X (rIxT X.K) := by
  intro value slice pins s σ H x y v u Q I rx ry h hs
  obtain ⟨p, xs, i, z, rfl, rfl, hq, he, q⟩ := h
  cases rx
  obtain ⟨t, rfl⟩ := ry
  obtain ⟨its, r, pl, hz⟩ := I.tuple hq
  obtain ⟨j, h1, h2, h3, h4, h5⟩ := atI_get he
  obtain ⟨w, ew, rw'⟩ := r.get h2
  have hl := r.length
  have hn := line63
  have fin : EP X pins σ Q w s := ⟨z, H, I, rw', q⟩
  exact subscriptTail_builtinR (x := w) pl.typeIs slot_tuple_getitem.lookup
    (getItem_tuple (j := j) (Q := fun r s' => r = w ∧ EP X pins σ Q r s') pl (by omega) (by omega) (by rw [List.size_toArray, ← hl]; exact h1) (by simpa using ew) ⟨rfl, fin⟩) hs
theorem ix_str : IxR X rIxS := by
  intro value slice pins s σ H x y v u Q I rx ry h hs
  obtain ⟨z, i, c, rfl, rfl, hz, he, q⟩ := h
  obtain ⟨t, rfl⟩ := rx
  obtain ⟨t', rfl⟩ := ry
  obtain ⟨j, h1, h2, h3, h4, h5⟩ := atI_get he
  have hl : z.cps.toList.length = z.length := by simp [Str.length]
  rw [hl] at h1 h4 h5
  have hn := line63
  exact tail_any (typeIs_str s z t) slot_str_getitem.lookup (getItem_str (c := c) (by
    have e1 : decide (i < -(2 ^ 63 : Int)) = false := decide_eq_false (by omega)
    have e2 : decide (i ≥ 2 ^ 63) = false := decide_eq_false (by omega)
    rw [e1, e2, Bool.or_false]) (by rw [h1]; simpa using h2) ⟨.str ⟨#[c]⟩, H, I.tok _, ⟨_, rfl⟩, q⟩) hs
theorem mapSeq_set (its : List Value) (n j : Nat) (u : Value) : Obj.mapSeq (·.setIfInBounds j u) { cls := .type "list", data := .seq its.toArray n } = { cls := .type "list", data := .seq (its.set j u).toArray n } := by
  simp [Obj.mapSeq]
theorem Inv.lst {pins : List (Addr × Obj)} {σ : St} {H : Hp} {s : Shared} {p : Addr} {xs : List V} (I : Inv X pins σ H s) (h : H p = some (.lst xs)) :
    ∃ (its : List Value) (n : Nat), Vals xs its ∧ s.heap.get? p = some { cls := .type "list", data := .seq its.toArray n } ∧ xs.length ≤ sizeLine := by
  obtain ⟨z, its, n, r, e⟩ := I.hok p _ h
  exact ⟨its, n, r, e, z⟩
theorem Inv.lstUpd {pins : List (Addr × Obj)} {σ : St} {H : Hp} {s : Shared} {p : Addr} {xs ys : List V} {its its' : List Value} {n n' : Nat} {f : Obj → Obj} (I : Inv X pins σ H s) (h : H p = some (.lst xs))
    (ho : s.heap.get? p = some { cls := .type "list", data := .seq its.toArray n }) (hf : f { cls := .type "list", data := .seq its.toArray n } = { cls := .type "list", data := .seq its'.toArray n' }) (r : Vals ys its') (hz : ys.length ≤ sizeLine) (t : Nat) :
    Inv X pins σ (upd H p (.lst ys)) { s with heap := s.heap.update p f, toks := t } := by
  have e : (s.heap.update p f).get? p = some { cls := .type "list", data := .seq its'.toArray n' } := by
    rw [Heap.get?_update_self f ho (by rw [hf] <;> rfl), hf]
  refine I.write (x := p) (e := p) (by rw [h]; trivial) (.inl rfl) (fun b u hb q => (Heap.get?_update_other _ _ (Ne.symm hb)).trans q) ⟨_, e⟩ ?_
  exact ⟨hz, its', n', r, e⟩
def rSetL : V → V → V → Hp → (Hp → Prop) → Prop := fun o i v H Q => ∃ p xs k j, o = .ref p ∧ i = .int k ∧ H p = some (.lst xs) ∧ ixN xs.length k = some j ∧ Q (upd H p (.lst (xs.set j v)))
theorem set_list : PSet X rSetL := by
  intro pins s σ H o i v ov iv u Q I ro ri rv h
  obtain ⟨p, xs, k, j, rfl, rfl, hp, hj, q⟩ := h
  cases ro
  obtain ⟨t, rfl⟩ := ri
  obtain ⟨its, n, r, ho, hz⟩ := I.lst hp
  obtain ⟨h1, h2, h3, h4⟩ := ixN_seq hj
  have hl := r.length
  have hn := line63
  have I' : Inv X pins σ (upd H p (.lst (xs.set j v))) { s with heap := s.heap.update p (Obj.mapSeq (·.setIfInBounds j u)) } :=
    I.lstUpd hp ho (mapSeq_set its n j u) (r.set rv j) (by rw [List.length_set]; exact hz) s.toks
  by_cases h0 : 0 ≤ k
  · have hk : k.toNat = j := by
      rw [seqIndex_of h0 h4] at h1
      exact Option.some.inj h1
    exact PySem.W.ki_setAt ho h0 (by omega) (by rw [List.size_toArray, ← hl]; exact h4) (by rw [hk]; exact ⟨_, I', q⟩)
  · have hk : (k + (its.toArray.size : Int)).toNat = j := by
      rw [seqIndex_neg (by omega) h3] at h1
      rw [List.size_toArray, ← hl]
      exact Option.some.inj h1
    exact PySem.W.ki_setBack ho (by omega) (by rw [List.size_toArray, ← hl]; exact h3) (by omega) (by rw [hk]; exact ⟨_, I', q⟩)
theorem slice_bounds (lo hi : Option Int) (n : Nat) : (sliceBounds lo hi none n).1 = ((HT.sIx n 0 lo : Nat) : Int) ∧ (sliceBounds lo hi none n).2.1 = ((HT.sIx n n hi : Nat) : Int) ∧ (sliceBounds lo hi none n).2.2 = 1 := by
  refine ⟨?_, ?_, rfl⟩
  · cases lo with
    | none => simp [sliceBounds, HT.sIx]
    | some i =>
      simp only [sliceBounds, HT.sIx, Option.getD_none, show (1 : Int) > 0 by decide, if_true]
      by_cases h : i < 0
      · simp only [h, if_true] <;> omega
      · simp only [h, if_false] <;> omega
  · cases hi with
    | none => simp [sliceBounds, HT.sIx]
    | some i =>
      simp only [sliceBounds, HT.sIx, Option.getD_none, show (1 : Int) > 0 by decide, if_true]
      by_cases h : i < 0
      · simp only [h, if_true] <;> omega
      · simp only [h, if_false] <;> omega
theorem slicePick_cut (its : List Value) (lo hi : Option Int) : slicePick its.toArray lo hi none = ((its.drop (HT.sIx its.length 0 lo)).take (HT.sIx its.length its.length hi - HT.sIx its.length 0 lo)).toArray := by
  obtain ⟨h1, h2, h3⟩ := slice_bounds lo hi its.toArray.size
  unfold slicePick
  rw [h1, h2, h3]
  simp only [sliceRange_one, pick_run, List.size_toArray] <;> rfl
def rSlL (K : PySem.W.Frag) : V → Option Int → Option Int → Hp → VK → Prop := fun x lo hi H Q => ∃ a xs, x = .ref a ∧ SqL K H a xs ∧ ∀ p, H p = none → Q (.ref p) (upd H p (.lst (cutV xs lo hi)))
theorem sl_list : SlR X (rSlL X.K) := by
  intro pins s σ H x v vl vu lo hi sl Q I rx hs pl pu h
  obtain ⟨a, xs, rfl, hx, q⟩ := h
  cases rx
  obtain ⟨its, r, ht, hz⟩ := I.list hx
  have hlen := r.length
  refine ⟨"list", _, slot_list_getitem.lookup, ht.isList.typeIs, ?_⟩
  refine wpAny_getItem_list_slice ht.isList hs pl pu .none (by simp) ?_ (by rw [List.size_toArray] <;> omega)
  rw [slicePick_cut, ← hlen]
  refine ⟨.ref s.heap.objs.size, _, I.laid (t' := s.toks) (o := .lst (cutV xs lo hi)) (fun b ob q => Heap.get?_push_of_some _ q) (Nat.le_refl _) ?_, rfl, q _ (I.hok.fresh (Nat.le_refl _))⟩
  exact ⟨Nat.le_trans (cutV_length xs lo hi) hz, _, 0, (r.drop (HT.sIx xs.length 0 lo)).take (HT.sIx xs.length xs.length hi - HT.sIx xs.length 0 lo), Heap.get?_push_size _ rfl⟩
def flatV : V → Bool
  | .non => true
  | .bl _ => true
  | .int _ => true
  | .str _ => true
  | _ => false
def eqV : V → V → Bool
  | .non, .non => true
  | .bl a, .bl b => a == b
  | .bl a, .int b => (if a then 1 else 0) == b
  | .int a, .bl b => a == (if b then 1 else 0)
  | .int a, .int b => a == b
  | .str a, .str b => a == b
  | _, _ => false
theorem eqAt_V {A : Around} {s : Shared} {y x : V} {u v : Value} (ry : RelV y u) (rx : RelV x v) (fy : flatV y = true) (fx : flatV x = true) : SeqAt.EqAt A s u v (eqV y x) := by
  cases y with
  | non =>
    cases ry
    cases x with
    | non => cases rx; exact SeqAt.EqAt.same _
    | bl b => cases rx; exact SeqAt.EqAt.none_bool b
    | int b => obtain ⟨t, rfl⟩ := rx; exact SeqAt.EqAt.none_int b t
    | str b => obtain ⟨t, rfl⟩ := rx; exact SeqAt.EqAt.none_str b t
    | _ => exact absurd (show false = true from fx) Bool.false_ne_true
  | bl a =>
    cases ry
    cases x with
    | non => cases rx; exact SeqAt.EqAt.bool_none a
    | bl b => cases rx; exact SeqAt.EqAt.bool_bool a b
    | int b => obtain ⟨t, rfl⟩ := rx; exact SeqAt.EqAt.bool_int a b t
    | str b => obtain ⟨t, rfl⟩ := rx; exact SeqAt.EqAt.bool_str a b t
    | _ => exact absurd (show false = true from fx) Bool.false_ne_true
  | int a =>
    obtain ⟨t', rfl⟩ := ry
    cases x with
    | non => cases rx; exact SeqAt.EqAt.int_none a t'
    | bl b => cases rx; exact SeqAt.EqAt.int_bool a t' b
    | int b => obtain ⟨t, rfl⟩ := rx; exact SeqAt.EqAt.int_int a t' b t
    | str b => obtain ⟨t, rfl⟩ := rx; exact SeqAt.EqAt.int_str a t' b t
    | _ => exact absurd (show false = true from fx) Bool.false_ne_true
  | str a =>
    obtain ⟨t', rfl⟩ := ry
    cases x with
    | non => cases rx; exact SeqAt.EqAt.str_none a t'
    | bl b => cases rx; exact SeqAt.EqAt.str_bool a t' b
    | int b => obtain ⟨t, rfl⟩ := rx; exact SeqAt.EqAt.str_int a t' b t
    | str b => obtain ⟨t, rfl⟩ := rx; exact SeqAt.EqAt.str_str a t' b t
    | _ => exact absurd (show false = true from fx) Bool.false_ne_true
  | _ => exact absurd (show false = true from fy) Bool.false_ne_true
def eqU (x : V) (u : Value) : Bool := match u with
  | .none => eqV .non x
  | .bool b => eqV (.bl b) x
  | .int i _ => eqV (.int i) x
  | .str z _ => eqV (.str z) x
  | _ => false
theorem eqU_of {x y : V} {u : Value} (r : RelV y u) (f : flatV y = true) : eqU x u = eqV y x := by
  cases y with
  | non => cases r; rfl
  | bl b => cases r; rfl
  | int i => obtain ⟨t, rfl⟩ := r; rfl
  | str z => obtain ⟨t, rfl⟩ := r; rfl
  | _ => exact absurd (show false = true from f) Bool.false_ne_true
theorem any_eqU {x : V} : ∀ {xs : List V} {us : List Value}, Vals xs us → xs.all flatV = true → us.any (eqU x) = xs.any fun y => eqV y x
  | _, _, .nil, _ => rfl
  | y :: xs, u :: us, .cons r t, f => by
    rw [List.all_cons, Bool.and_eq_true] at f
    rw [List.any_cons, List.any_cons, eqU_of r f.1, any_eqU t f.2]
theorem mem_eqAt {A : Around} {s : Shared} {x : V} {v : Value} (rx : RelV x v) (fx : flatV x = true) : ∀ {xs : List V} {us : List Value}, Vals xs us → xs.all flatV = true → ∀ u ∈ us, SeqAt.EqAt A s u v (eqU x u)
  | _, _, .nil, _ => fun u hu => by cases hu
  | y :: xs, u :: us, .cons r t, f => fun u' hu => by
    rw [List.all_cons, Bool.and_eq_true] at f
    rcases List.mem_cons.mp hu with rfl | hu
    · rw [eqU_of r f.1]; exact eqAt_V r rx f.1 fx
    · exact mem_eqAt rx fx t f.2 u' hu
def inV (x : V) (xs : List V) : Bool := xs.any fun y => eqV y x
def rIn (K : PySem.W.Frag) (neg : Bool) : R2 := fun x y H Q => ∃ p xs, y = .ref p ∧ (SqL K H p xs ∨ SqT K H p xs) ∧ flatV x = true ∧ xs.all flatV = true ∧ Q (.bl (if neg then !inV x xs else inV x xs)) H
theorem op_in_seq : OpR X (compareOp .In) (rIn X.K false) := by
  intro pins s σ H x y v u Q I rx ry h
  obtain ⟨p, xs, rfl, hq, fx, fs, q⟩ := h
  cases ry
  rcases hq with hq | hq
  · obtain ⟨its, r, pl, hz⟩ := I.list hq
    refine SeqAt.in_listAt (eqU x) pl.isList (fun w hw => mem_eqAt rx fx r fs w (by simpa using hw)) ⟨.bl _, H, I, rfl, ?_⟩
    rw [show its.toArray.any (eqU x) = its.any (eqU x) by simp, any_eqU r fs]
    exact q
  · obtain ⟨its, r, pl, hz⟩ := I.tuple hq
    refine SeqAt.in_tupleAt (eqU x) pl (fun w hw => mem_eqAt rx fx r fs w (by simpa using hw)) ⟨.bl _, H, I, rfl, ?_⟩
    rw [show its.toArray.any (eqU x) = its.any (eqU x) by simp, any_eqU r fs]
    exact q
theorem op_notIn_str : OpR X (compareOp .NotIn) (fun x y H Q => ∃ i j, x = .str i ∧ y = .str j ∧ Q (.bl (!(!(Builtin.Str.occurrences j i 0 j.length 1).isEmpty))) H) := by
  intro pins s σ H x y v u Q I rx ry h
  obtain ⟨i, j, rfl, rfl, q⟩ := h
  obtain ⟨t, rfl⟩ := rx
  obtain ⟨t', rfl⟩ := ry
  exact notIn_str ⟨.bl _, H, I, rfl, q⟩
theorem call_len_seq : CallR X (.builtin "len") (fun xs H Q => ∃ p ys, xs = [.ref p] ∧ (SqL X.K H p ys ∨ SqT X.K H p ys) ∧ Q (.int ys.length) H) := by
  intro pins s σ H xs us Q I r h
  obtain ⟨p, ys, rfl, hq, q⟩ := h
  obtain ⟨u, rfl, rx⟩ := vals1 r
  cases rx
  have hn := line63
  rcases hq with hq | hq
  · obtain ⟨its, r', pl, hz⟩ := I.list hq
    have hlen := r'.length
    exact Calls.call_len_list pl.isList (by simp only [List.size_toArray] <;> omega) ⟨.int ys.length, H, I.tok _, ⟨s.toks + 1, by rw [List.size_toArray, hlen]⟩, q⟩
  · obtain ⟨its, r', pl, hz⟩ := I.tuple hq
    have hlen := r'.length
    exact len_tuple pl (by simp only [List.size_toArray] <;> omega) ⟨.int ys.length, H, I.tok _, ⟨s.toks + 1, by rw [List.size_toArray, hlen]⟩, q⟩
theorem call_len_str : CallR X (.builtin "len") (fun xs H Q => ∃ z, xs = [.str z] ∧ z.length ≤ sizeLine ∧ Q (.int z.length) H) := by
  intro pins s σ H xs us Q I r h
  obtain ⟨z, rfl, hz, q⟩ := h
  obtain ⟨u, rfl, t, rfl⟩ := vals1 r
  have hn := line63
  exact len_str (by omega) ⟨.int z.length, H, I.tok _, ⟨_, rfl⟩, q⟩
def tyV (K : PySem.W.Frag) (T : String) (x : V) (H : Hp) : Prop := match x with
  | .str _ => T = "str"
  | .int _ => T = "int"
  | .ref p => (T = "list" ∧ ∃ xs, SqL K H p xs) ∨ (T = "tuple" ∧ ∃ o, K.lookup p = some o ∧ o.cls = .type "tuple" ∧ o.dict = none) ∨
      (T = "dict" ∧ ((∃ kvs, H p = some (.dK kvs)) ∨ ∃ kvs, H p = some (.dT kvs))) ∨ (T = "set" ∧ ∃ S n, H p = some (.set S n))
  | _ => False
theorem tyV_is {pins : List (Addr × Obj)} {σ : St} {H : Hp} {s : Shared} {T : String} {x : V} {v : Value} (I : Inv X pins σ H s) (r : RelV x v) (ty : tyV X.K T x H) :
    s.TypeIs v T ∧ ∀ a, v = .ref a → ∃ ob, s.heap.get? a = some ob ∧ ob.dict = none := by
  cases x with
  | str z =>
    obtain ⟨t, rfl⟩ := r
    cases (show T = "str" from ty)
    exact ⟨typeIs_str s z t, fun _ e => nomatch e⟩
  | int i =>
    obtain ⟨t, rfl⟩ := r
    cases (show T = "int" from ty)
    exact ⟨typeIs_int s i t, fun _ e => nomatch e⟩
  | ref p =>
    cases r
    rcases ty with ⟨rfl, xs, hq⟩ | ⟨rfl, o, hk, hc, hd⟩ | ⟨rfl, hk⟩ | ⟨rfl, S, n, hk⟩
    · obtain ⟨its, _, pl, _⟩ := I.list hq
      refine ⟨pl.isList.typeIs, fun a e => ?_⟩
      cases e
      obtain ⟨o, n, e, c, hd, _⟩ := pl
      exact ⟨o, e, hd⟩
    · refine ⟨⟨o, I.kIn p o hk, hc⟩, fun a e => ?_⟩
      cases e
      exact ⟨o, I.kIn _ o hk, hd⟩
    · have z : ∃ o, s.heap.get? p = some o ∧ o.ExactDict := by
        rcases hk with ⟨kvs, hk⟩ | ⟨kvs, hk⟩
        · obtain ⟨_, _, _, _, o, _, _, e, ex, _⟩ := I.hok p _ hk
          exact ⟨o, e, ex⟩
        · obtain ⟨_, _, _, _, o, _, _, e, ex, _⟩ := I.hok p _ hk
          exact ⟨o, e, ex⟩
      obtain ⟨o, e, ex⟩ := z
      refine ⟨⟨o, e, ex.1⟩, fun a e2 => ?_⟩
      cases e2
      exact ⟨o, e, ex.2.1⟩
    · obtain ⟨o, _, _, _, e, ex, _⟩ := I.hok p _ hk
      refine ⟨⟨o, e, ex.1⟩, fun a e2 => ?_⟩
      cases e2
      exact ⟨o, e, ex.2.1⟩
  | _ => exact False.elim ty
def tBM (K : PySem.W.Frag) (T : String) (r : V → List V → Hp → VK → Prop) (to : TE) (t : TA) : TE := fun σ H Q => to σ H fun x H1 => tyV K T x H1 ∧ t σ H1 fun xs H2 => r x xs H2 Q
variable {o e : Expr} {es : List Expr} {to : TE} {t : TA} {name : Str} {apos cpos : Pos} {T id : String} {r : V → List V → Hp → VK → Prop}
theorem pe_bm (pa : PlainAttrs T) (slot : Slot T name id) (hty : typeOf (.builtin id) = pure (.type "method_descriptor")) (hm : MtR X id r) (ho : PE X o to) (ha : PA X (e :: es) t)
    (hbase : attributeBase o name X.env (eval o X.env) = eval o X.env := by rfl)
    (hfew : ((backTo cpos (starEach (e :: es) X.env)).all (fun x => !x.1) && (backToKw cpos (keywordEach [] X.env)).all (fun x => x.1.isSome)
      && decide ((e :: es).length + ([] : List Keyword).length + (if ([] : List Keyword).isEmpty then 0 else 1) < 30)) = true := by rfl)
    (hline : (apos.endLine == cpos.line) = true := by rfl) (hs : starEach (e :: es) X.env = (false, eval e X.env) :: starEach es X.env := by rfl) (hplain : (backTo cpos (starEach es X.env)).any (·.1) = false := by rfl) :
    PE X (.Call (.Attribute o name apos) (e :: es) [] cpos) (tBM X.K T r to t) := by
  intro pins s σ H Q I h
  refine wpAny_Call_method_late hbase hfew hline rfl (thn (ho pins s σ H _ I h) fun v s1 ⟨x, H1, I1, r1, ty, q1⟩ => ?_)
  obtain ⟨h1, h2⟩ := tyV_is I1 r1 ty
  refine ⟨T, id, pa, slot, hty, h1, h2, ?_⟩
  have hA := ha cpos pins s1 σ H1 _ I1 q1
  rw [hs] at hA ⊢
  refine Calls.callWith_builtin (by show (false || (backTo cpos (starEach es X.env)).any (·.1)) = false; rw [hplain] <;> rfl) (Calls.evalArgs_plain ?_)
  exact thn hA fun us s2 ⟨vs, H2, I2, r2, q2⟩ => hm pins s2 σ H2 x vs v us Q I2 r1 r2 q2
end
end L2
namespace L2
open PySem PySem.Spec PyProof.Rows
def MtM (X : Cx) (id : String) (r : V → List V → Hp → VK → Prop) : Prop :=
  ∀ (pins : List (Addr × Obj)) (s : Shared) (σ : St) (H : Hp) (x : V) (xs : List V) (v : Value) (us : List Value) (Q : VK), Inv X pins σ H s → RelV x v → Vals xs us → r x xs H Q →
    wpAny (model X.prog X.w) X.A (call (.builtin id) (v :: us)) (EP X pins σ Q) X.xe s
theorem Vals.one : ∀ {x : V} {us : List Value}, Vals [x] us → ∃ u, us = [u] ∧ RelV x u
  | _, _, .cons r .nil => ⟨_, rfl, r⟩
theorem Vals.two : ∀ {x y : V} {us : List Value}, Vals [x, y] us → ∃ u v, us = [u, v] ∧ RelV x u ∧ RelV y v
  | _, _, _, .cons r (.cons q .nil) => ⟨_, _, rfl, r, q⟩
theorem Vals.eraseIdx : ∀ {xs : List V} {us : List Value} (i : Nat), Vals xs us → Vals (xs.eraseIdx i) (us.eraseIdx i)
  | _, _, _, .nil => .nil
  | _, _, 0, .cons _ t => t
  | _, _, i + 1, .cons r t => .cons r (Vals.eraseIdx i t)
theorem Vals.rep {xs : List V} {us : List Value} (h : Vals xs us) : ∀ k : Nat, Vals (List.replicate k xs).flatten (List.replicate k us).flatten
  | 0 => .nil
  | k + 1 => by
    rw [List.replicate_succ, List.replicate_succ, List.flatten_cons, List.flatten_cons]
    exact Vals.append h (Vals.rep h k)
theorem len_erase {α : Type} : ∀ (l : List α) (i : Nat), (l.eraseIdx i).length ≤ l.length
  | [], _ => Nat.le_refl _
  | _ :: _, 0 => Nat.le_succ _
  | _ :: r, i + 1 => Nat.succ_le_succ (len_erase r i)
theorem foldl_rep (its : List Value) : ∀ (k : Nat) (acc : List Value),
    List.foldl (fun x1 x2 => x1 ++ x2) acc.toArray (List.replicate k its.toArray) = (acc ++ (List.replicate k its).flatten).toArray
  | 0, acc => by simp
  | k + 1, acc => by
    have e : acc.toArray ++ its.toArray = (acc ++ its).toArray := by simp
    have e2 : (acc ++ its) ++ (List.replicate k its).flatten = acc ++ (List.replicate (k + 1) its).flatten := by
      rw [List.replicate_succ, List.flatten_cons, List.append_assoc]
    rw [← e2, ← foldl_rep its k (acc ++ its), ← e, List.replicate_succ, List.foldl_cons]
section
variable {X : Cx} {pins : List (Addr × Obj)} {σ : St} {H : Hp} {s : Shared} {l b : Addr} {xs ys zs : List V}
theorem Inv.lset {its its' : List Value} {n : Nat} {f : Array Value → Array Value} {t' : Nat} (I : Inv X pins σ H s) (hH : H l = some (.lst xs))
    (e : s.heap.get? l = some { cls := .type "list", data := .seq its.toArray n }) (hf : f its.toArray = its'.toArray) (hv : Vals ys its') (hz : ys.length ≤ sizeLine) :
    Inv X pins σ (upd H l (.lst ys)) { s with heap := s.heap.update l (Obj.mapSeq f), toks := t' } := by
  have q := PySem.IsL.update e f
  rw [hf] at q
  refine I.write (x := l) (e := l) (by rw [hH]; exact trivial) (.inl rfl) (fun b' u hb hu => (Heap.get?_update_other s.heap (Obj.mapSeq f) (Ne.symm hb)).trans hu) ⟨_, q⟩ ?_
  exact ⟨hz, its', _, hv, q⟩
theorem Inv.lnew {its : List Value} {t' : Nat} (I : Inv X pins σ H s) (hv : Vals ys its) (hz : ys.length ≤ sizeLine) :
    Inv X pins σ (upd H s.heap.objs.size (.lst ys)) { s with heap := s.heap.push { cls := .type "list", data := .seq its.toArray }, toks := t' } :=
  I.laid (fun _ _ q => Heap.get?_push_of_some _ q) (Nat.le_refl _) ⟨hz, its, 0, hv, Heap.get?_push_size _ rfl⟩
theorem Inv.fresh (I : Inv X pins σ H s) : H s.heap.objs.size = none := I.hok.fresh (Nat.le_refl _)
theorem Inv.lstM (I : Inv X pins σ H s) (hH : H l = some (.lst xs)) : xs.length ≤ sizeLine ∧ ∃ (its : List Value) (n : Nat), Vals xs its ∧ xs.length = its.length ∧ s.heap.get? l = some { cls := .type "list", data := .seq its.toArray n } := by
  obtain ⟨z, its, n, r, e⟩ := I.hok l _ hH
  exact ⟨z, its, n, r, r.length, e⟩
theorem notLongL {n : Nat} (h : n ≤ sizeLine) : Builtin.List.listTooLong n = false := by
  unfold Builtin.List.listTooLong
  exact decide_eq_false (by omega)
end
section
variable {X : Cx}
def rAppend : V → List V → Hp → VK → Prop := fun x vs H Q => ∃ l xs y, x = .ref l ∧ vs = [y] ∧ H l = some (.lst xs) ∧ xs.length < sizeLine ∧ Q .non (upd H l (.lst (xs ++ [y])))
theorem mt_append : MtM X "list.append" rAppend := by
  intro pins s σ H x vs v us Q I rx rv h
  obtain ⟨l, xs, y, rfl, rfl, hH, hz, q⟩ := h
  cases rx
  obtain ⟨u, rfl, ru⟩ := rv.one
  obtain ⟨z, its, n, r, hl, e⟩ := I.lstM hH
  refine call_meets F.slot_list_append ⟨_, e, rfl⟩ F.entry_list_append (F.args_list_append_2 _ _) (PySem.list_append l its.toArray n u (by rw [List.size_toArray]; omega)) ⟨e, ?_⟩
  refine ⟨.non, _, I.lset (its' := its ++ [u]) hH e (by simp) (r.append (.cons ru .nil)) ?_, rfl, q⟩
  rw [List.length_append, List.length_singleton]
  omega
def rPopAt : V → List V → Hp → VK → Prop := fun x vs H Q => ∃ l xs i k y, x = .ref l ∧ vs = [.int i] ∧ H l = some (.lst xs) ∧ -(2 ^ 63) ≤ i ∧ i < 2 ^ 63 ∧ seqIndex? i xs.length = some k ∧ xs[k]? = some y ∧ Q y (upd H l (.lst (xs.eraseIdx k)))
theorem mt_popAt : MtM X "list.pop" rPopAt := by
  intro pins s σ H x vs v us Q I rx rv h
  obtain ⟨l, xs, i, k, y, rfl, rfl, hH, h1, h2, hk, hy, q⟩ := h
  cases rx
  obtain ⟨u, rfl, ru⟩ := rv.one
  obtain ⟨t, rfl⟩ := ru
  obtain ⟨z, its, n, r, hl, e⟩ := I.lstM hH
  obtain ⟨w, hw, rw'⟩ := r.get hy
  refine call_meets F.slot_list_pop ⟨_, e, rfl⟩ F.entry_list_pop (F.args_list_pop_2 _ _)
    (MeetsSeq.list_pop_at l its.toArray n i t k w (fitsIndex_both h1 h2) (by rw [List.size_toArray, ← hl]; exact hk) (by rw [← Array.getElem?_toList]; exact hw) (by rw [List.size_toArray]; omega)) ⟨e, ?_⟩
  refine ⟨y, _, I.lset (its' := its.eraseIdx k) hH e ?_ (r.eraseIdx k) ?_, rw', q⟩
  · show its.toArray.eraseIdxIfInBounds k = (its.eraseIdx k).toArray
    rw [List.eraseIdxIfInBounds_toArray]
  · have := len_erase xs k
    omega
def rCat : R2 := fun x y H Q => ∃ l b xs zs, x = .ref l ∧ y = .ref b ∧ H l = some (.lst xs) ∧ H b = some (.lst zs) ∧ xs.length + zs.length ≤ sizeLine ∧ ∀ p, H p = none → Q (.ref p) (upd H p (.lst (xs ++ zs)))
theorem op_cat : OpR X (binaryOp .Add) rCat := by
  intro pins s σ H x y v u Q I rx ry h
  obtain ⟨l, b, xs, zs, rfl, rfl, hH, hB, hz, q⟩ := h
  cases rx
  cases ry
  obtain ⟨z, its, n, r, hl, e⟩ := I.lstM hH
  obtain ⟨z2, its2, n2, r2, hl2, e2⟩ := I.lstM hB
  refine PySem.P.add_list e e2 ?_ (by rw [List.size_toArray, List.size_toArray]; omega)
  have ea : its.toArray ++ its2.toArray = (its ++ its2).toArray := by simp
  rw [ea]
  exact ⟨.ref _, _, I.lnew (t' := s.toks) (r.append r2) (by rw [List.length_append]; omega), rfl, q _ I.fresh⟩
def rRep : R2 := fun x y H Q => ∃ l k xs, x = .ref l ∧ y = .int k ∧ H l = some (.lst xs) ∧ -(2 ^ 63) ≤ k ∧ k < 2 ^ 63 ∧ xs.length * k.toNat ≤ sizeLine ∧
  ∀ p, H p = none → Q (.ref p) (upd H p (.lst (List.replicate k.toNat xs).flatten))
theorem len_rep {α : Type} (xs : List α) (k : Nat) : (List.replicate k xs).flatten.length = k * xs.length := by
  induction k with
  | zero => simp
  | succ k ih => rw [List.replicate_succ, List.flatten_cons, List.length_append, ih, Nat.succ_mul, Nat.add_comm]
theorem op_rep : OpR X (binaryOp .Mult) rRep := by
  intro pins s σ H x y v u Q I rx ry h
  obtain ⟨l, k, xs, rfl, rfl, hH, h1, h2, hz, q⟩ := h
  cases rx
  obtain ⟨t, rfl⟩ := ry
  obtain ⟨z, its, n, r, hl, e⟩ := I.lstM hH
  have hlen : its.toArray.size * k.toNat ≤ sizeLine := by rw [List.size_toArray, ← hl]; exact hz
  have hcap : ¬ its.toArray.size * k.toNat > (2 ^ 63 - 1) / 8 := by
    have : (sizeLine : Nat) ≤ (2 ^ 63 - 1) / 8 := by decide
    omega
  have hfit : ¬ (!Builtin.List.listFitsIndex k) = true := by
    rw [fitsIndex_both h1 h2]
    exact Bool.false_ne_true
  have hlong : ¬ Builtin.List.listTooLong (its.toArray.size * k.toNat) = true := by
    rw [notLongL hlen]
    exact Bool.false_ne_true
  have hnew : List.foldl (fun x1 x2 => x1 ++ x2) #[] (List.replicate (if its.toArray.isEmpty = true then 0 else k.toNat) its.toArray) = (List.replicate k.toNat its).flatten.toArray := by
    have f0 : ∀ m : Nat, List.foldl (fun x1 x2 => x1 ++ x2) #[] (List.replicate m its.toArray) = (List.replicate m its).flatten.toArray := fun m => by
      have := foldl_rep its m []
      rw [List.nil_append] at this
      exact this
    rw [f0]
    cases its with
    | nil => simp
    | cons a r' => rw [if_neg (by simp)]
  refine wpAny_binaryOp_repeat_ref (T := "list") (U := "int") (by decide) ⟨_, e, rfl⟩ (fun s' => typeIs_int s' k t) noFill_list_mul F.fills_int_mul F.slot_int_rmul repeat_list F.slot_int_index.lookup
    (call_meets F.slot_int_rmul (typeIs_int s k t) F.entry_int_rmul (F.args_int_rmul_2 _ _) (int___rmul___int_list k t l its.toArray n)
      ⟨e, rfl, ⟨_, e, rfl⟩, call_meets F.slot_list_mul ⟨_, e, rfl⟩ F.entry_list_mul (F.args_list_mul_2 _ _) (AutoListH.list___mul___list_int_3 l its.toArray n k t hfit hcap hlong) ⟨e, ?_⟩⟩)
  rw [hnew]
  exact ⟨.ref _, _, I.lnew (t' := s.toks) (r.rep k.toNat) (by rw [len_rep, Nat.mul_comm]; exact hz), rfl, q _ I.fresh⟩
end
section
variable {prog : Program} {w : World} {A : Around} {E : Value → Shared → Prop} {s : Shared}
end
section
variable {X : Cx}
end
end L2
namespace Att
open PySem PySem.W PySem.Calls PyProof.Rows
theorem ints_of_wellAll {P : Params} {h : Heap} : ∀ (ns : List Int) (vs : List Value), WellAll P h vs (ns.map WData.int) → IntsAre vs ns := by
  intro ns
  induction ns with
  | nil =>
    intro vs w
    rw [List.map_nil] at w
    cases w
    exact .nil
  | cons n ns ih =>
    intro vs w
    rw [List.map_cons] at w
    cases w with
    | cons a b =>
      cases a
      exact .cons _ _ (ih _ b)
theorem script_of {l : OpenLaw} {n : Nat} (hn : l.most = some n) {P : Params} {h : Heap} {args : List WData} {vals : List Value}
    (hpre : l.row.toRowW.claim.pre args = true) (hwl : WellAll P h vals args) :
    ∃ a vs ns, vals = [Value.ref a] ∧ args = [WData.list (ns.map WData.int)] ∧ h.get? a = some { cls := .type "list", data := .seq vs.toArray } ∧ IntsAre vs ns ∧ ns.length ≤ n := by
  have hsh : WShape.hasAll [] args [.list .int] = true := (pre_splitW hpre).1
  have hc : l.pre.holds [] { args := args } = true := (pre_splitW hpre).2
  obtain ⟨d, r, rfl, h1, h2⟩ := hasAllW_cons hsh
  obtain rfl := hasAllW_nil h2
  obtain ⟨xs, rfl, h3⟩ := hasW_list h1
  obtain ⟨ns, rfl⟩ := items_int h3
  have hlen : ns.length ≤ n := by
    unfold OpenLaw.pre at hc
    have h4 : (WTm.not (.lt (.lit (.int (n : Int))) (.len (.arg 0)))).holds [] { args := [.list (ns.map .int)] } = true := by
      have h4 := (holds_andW hc).1
      rw [hn] at h4
      exact h4
    have h5 := condW_of h4 (w_not (w_lt w_lit (w_len_list (w_arg rfl))))
    rw [List.length_map] at h5
    refine Nat.le_of_not_lt fun q => ?_
    have q' : (n : Int) < ((ns.length : Nat) : Int) := by omega
    first
      | (rw [decide_eq_true q'] at h5; exact absurd h5 (by decide))
      | (simp at h5; omega)
  cases hwl with
  | cons w1 w2 =>
    cases w2
    cases w1 with
    | list ho hall => exact ⟨_, _, ns, rfl, rfl, ho, ints_of_wellAll ns _ hall, hlen⟩
theorem post_true (l : OpenLaw) (args : List WData) : l.row.toRowW.claim.post args (.bool true) args = true :=
  postW_of (r := l.row.toRowW) (X := (true == true))
    (show WShape.has [] (.bool true) .bool = true by first | rfl | decide | simp [WShape.has, WShape.arms, WShape.armsAll])
    (show (WTm.eq .res (.lit (.bool true))).value [] { args := args, res := some (.bool true), after := args } = some (.bool (true == true)) from w_eq_bool (w_res rfl) w_lit) rfl
theorem attach_call {l : OpenLaw} {n : Nat} {q : Program} {loose : List Str} {XP : (Str → Option Value) → Heap → Prop} {YP : World → Heap → Prop} {d : DefRec}
    (hn : l.most = some n) (hdf : d.params.defaults = [])
    (call : ∀ (w : World) (s₀ s₁ : Shared) (mg mb : Str → Option Value) (fa : Addr) (o : Obj) (pm cd doc : Value) (a : Addr) (vs : List Value) (ns : List Int),
      Ground q loose [] XP w s₀ mg mb s₁.heap → YP w s₁.heap →
      s₁.heap.get? fa = some o → o.data = .func (docDef d.name d.params d.body d.scope pm cd doc) → s₁.heap.CodeRec cd d.name → mg d.name = some (.ref fa) →
      s₁.heap.get? a = some { cls := .type "list", data := .seq vs.toArray } → IntsAre vs ns → ns.length ≤ n → s₁.gens = #[] →
      codeAny (model l.prog w) callerA (.call (.ref fa) ⟨[.ref a], []⟩) (fun r s' => r = .ok (.ret (.bool true)) ∧ OldK s₁.heap s'.heap ∧ s'.os = s₁.os ∧ AllBare s'.gens) s₁) :
    WalkO q loose XP YP l.row.toRowW d [] (fun f vs => PySem.call f vs) := by
  intro w s₀ s₁ mg mb G Y fa o pm cd doc dV kV ho hd hcd hD hmg hg args vals as hpre hlay hrd hwl hlo
  obtain rfl : dV = .none := Dflts.none hD hdf
  obtain rfl : kV = .none := Dflts.noKw hD
  obtain ⟨a, vs, ns, rfl, rfl, hobj, hints, hlen⟩ := script_of hn hpre hwl
  refine enter_call (codeAny_mono (call w s₀ s₁ mg mb fa o pm cd doc a vs ns G Y ho (fd_plain hd) hcd hmg hobj hints hlen hg) fun r s' hq => ?_)
  obtain ⟨rfl, h2, h3, h4⟩ := hq
  exact ⟨.inl ⟨.bool true, .bool true, [], rfl, fun _ => rfl, .bool true, post_true l _, fun _ => ⟨List.Pairwise.nil, fun _ hm => (nomatch hm)⟩⟩, h2, h3, h4⟩
section
variable {prog : Program} {w : World} {A : Around} {E : Value → Shared → Prop} {s : Shared} {K : Frag}
end
end Att
namespace L2
open PySem PySem.Spec PyProof.Rows
theorem vals_ints : ∀ {vs : List Value} {ns : List Int}, IntsAre vs ns → Vals (ns.map V.int) vs
  | _, _, .nil => .nil
  | _, _, .cons n t h => .cons ⟨t, rfl⟩ (vals_ints h)
def Only (H : Hp) : Prop := ∀ b, H b = none ∨ ∃ o xs, H b = some (.frz o (.lst xs))
theorem law_call {P : Program} {w : World} {K : PySem.W.Frag} {mg mb : Str → Option Value} {CX : CXT} {k : Nat} {fa a : Addr} {fd : FuncData} {x : Str} {sp : Sp} {s₁ : Shared} {vs : List Value} {ns : List Int}
    (KX : K.In s₁.heap) (hns : s₁.heap.Ns mainGlobals mg) (hb : s₁.heap.Ns builtinsNs mb) (hbb : ∀ x : Str, x ≠ "__name__" → mb x = bootBuiltins x) (hlim : s₁.heap.NoLimit) (hg : s₁.gens = #[])
    (ha : s₁.heap.get? a = some { cls := .type "list", data := .seq vs.toArray }) (hi : IntsAre vs ns) (hl : ns.length ≤ sizeLine) (hr : Room k callerA)
    (F : ∀ base : Heap, K.In base → base.Ns mainGlobals mg → FnOk P w K mg base CX k fa fd [x] sp) (hbind : ∀ (s : Shared) (u : Value), BindsTo s fd ⟨[u], []⟩ [(x, u)])
    (hsp : ∀ H : Hp, Only H → SqL K H a (ns.map V.int) → sp [.ref a] H (fun v _ => v = .bl true) fun _ _ _ => False)
    (hCX : ∀ H e s', CX [] H s₁ (fun _ _ _ => False) e s' → False) :
    codeAny (model P w) callerA (.call (.ref fa) ⟨[.ref a], []⟩) (fun r s' => r = .ok (.ret (.bool true)) ∧ OldK s₁.heap s'.heap ∧ s'.os = s₁.os ∧ AllBare s'.gens) s₁ := by
  have rv := vals_ints hi
  have lenV := hi.length
  have core : ∀ H : Hp, Only H → SqL K H a (ns.map V.int) → HOk P w H s₁.heap → (∀ b, H b ≠ none → b = a) → (H a ≠ none → K.lookup a = none) →
      codeAny (model P w) callerA (.call (.ref fa) ⟨[.ref a], []⟩) (fun r s' => r = .ok (.ret (.bool true)) ∧ OldK s₁.heap s'.heap ∧ s'.os = s₁.os ∧ AllBare s'.gens) s₁ := by
    intro H hO hS hok hA hK
    have base_of : ∀ {b : Addr} {o : Obj}, s₁.heap.get? b = some o → H b = none → (hidT s₁.heap H).get? b = some o := fun e n => hidT_get e n
    have noA : ∀ {b : Addr} {o : Obj} {es : Array DictEntry} {ep : Nat}, s₁.heap.get? b = some o → o.data = .dict es ep → H b = none := fun {b o es ep} e d => by
      cases q : H b with
      | none => rfl
      | some u =>
        have e' : b = a := hA b (by rw [q]; simp)
        subst e'
        rw [ha] at e; cases e
        have d' : Data.seq vs.toArray _ = Data.dict es ep := d
        cases d'
    have nsK : ∀ {b : Addr} {m : Str → Option Value}, s₁.heap.Ns b m → (hidT s₁.heap H).Ns b m := fun {b m} ⟨o, es, ep, e, d, r⟩ => ⟨o, es, ep, base_of e (noA e d), d, r⟩
    have hKb : K.In (hidT s₁.heap H) := fun b o e => base_of (KX b o e) (by
      cases q : H b with
      | none => rfl
      | some u =>
        have e' : b = a := hA b (by rw [q]; simp)
        subst e'
        rw [hK (by rw [q]; simp)] at e; cases e)
    have hM : Mod K mg (hidT s₁.heap H) := ⟨hKb, nsK hns, ⟨mb, nsK hb, hbb⟩, let ⟨mc, h1, h2⟩ := hlim; ⟨mc, nsK h1, h2⟩⟩
    have e0 : Env0 P w K mg (hidT s₁.heap H) callerA [] s₁ H := ⟨rfl, hM, fun b o e => of_hidT e, Nat.le_of_eq (hidT_size _ _), trivial, fun b hb => absurd (show b ∈ ([] : List Addr) from hb) (by simp), hok, .of_eq hg⟩
    refine codeAny_mono ((F _ hKb (nsK hns)).run callerA [] s₁ H ⟨[.ref a], []⟩ [.ref a] [.ref a] _ _ hr e0 (hbind s₁ (.ref a)) (.cons rfl .nil) (hsp H hO hS)) fun r s' h => ?_
    cases r with
    | error e => exact (hCX H e s' h).elim
    | ok fl =>
      cases fl with
      | next => exact False.elim h
      | brk => exact False.elim h
      | cont => exact False.elim h
      | ret u =>
        obtain ⟨v, H', os, bare, un, hok', r', q⟩ := h
        have q' : v = .bl true := q
        subst q'
        obtain rfl : u = Value.bool true := r'
        refine ⟨rfl, OldK.of_keep fun b o e => ?_, os, bare⟩
        cases q : H b with
        | none => exact un.keep b o e q (by intro z; exact absurd (show b ∈ ([] : List Addr) from z) (by simp)) (by simp)
        | some u =>
          rcases hO b with z | ⟨ob, xs, z⟩
          · rw [q] at z; cases z
          · have z2 := un.frzs b ob _ z
            obtain ⟨e1, _⟩ := hok b _ z
            obtain ⟨e2, _⟩ := hok' b _ z2
            rw [e] at e1; cases e1
            exact e2
  cases hk : K.lookup a with
  | some o =>
    have e := KX a o hk
    rw [ha] at e
    cases e
    refine core (fun _ => none) (fun _ => .inl rfl) (.inr ⟨_, vs.toArray, _, hk, rfl, rfl, rfl, by rw [List.size_toArray, lenV]; exact hl, by simpa using rv⟩) (fun b u z => by have z' : (none : Option HO) = some u := z; cases z') (fun b z => absurd rfl z) fun z => absurd rfl z
  | none =>
    refine core (fun b => if b = a then some (.frz { cls := .type "list", data := .seq vs.toArray } (.lst (ns.map V.int))) else none) (fun b => ?_) (.inl (.inr ⟨{ cls := .type "list", data := .seq vs.toArray }, if_pos rfl⟩)) (fun b u z => ?_) (fun b z => ?_) fun _ => hk
    · by_cases hb : b = a
      · exact .inr ⟨_, _, if_pos hb⟩
      · exact .inl (if_neg hb)
    · by_cases hb : b = a
      · have z' := (if_pos hb).symm.trans z
        cases z'
        subst hb
        exact ⟨ha, by rw [List.length_map]; exact hl, vs, _, rv, ha⟩
      · have z' := (if_neg hb).symm.trans z
        cases z'
    · by_cases hb : b = a
      · exact hb
      · exact absurd (if_neg hb) z
end L2
namespace L2
open PySem PySem.Spec PyProof.Rows
theorem walk_of {l : PySem.W.OpenLaw} {n k : Nat} {q : Program} {loose : List Str} {XP : (Str → Option Value) → Heap → Prop} {YP : World → Heap → Prop} {d : DefRec} {K : Params → PySem.W.Frag} {CX : World → CXT} {sp : World → Sp} {x : Str}
    (hn : l.most = some n) (hn2 : n ≤ sizeLine) (hdf : d.params.defaults = []) (hr : Room k callerA)
    (hY : ∀ (w : World) (h : Heap), YP w h → (K w.params).In h)
    (F : ∀ (w : World) (mg : Str → Option Value) (fa : Addr) (h : Heap), (K w.params).In h → h.Ns mainGlobals mg → mg d.name = some (.ref fa) →
      ∃ fd : FuncData, (∀ (s : Shared) (u : Value), BindsTo s fd ⟨[u], []⟩ [(x, u)]) ∧
        ∀ base : Heap, (K w.params).In base → base.Ns mainGlobals mg → FnOk l.prog w (K w.params) mg base (CX w) k fa fd [x] (sp w))
    (hsp : ∀ (w : World) (H : Hp) (a : Addr) (ns : List Int), ns.length ≤ n → Only H → SqL (K w.params) H a (ns.map V.int) → sp w [.ref a] H (fun v _ => v = .bl true) fun _ _ _ => False)
    (hCX : ∀ (w : World) (H : Hp) (s : Shared) (e : Value) (s' : Shared), CX w [] H s (fun _ _ _ => False) e s' → False) :
    PySem.W.WalkO q loose XP YP l.row.toRowW d [] (fun f vs => PySem.call f vs) := by
  refine Att.attach_call hn hdf fun w s₀ s₁ mg mb fa o pm cd doc a vs ns G Y ho hd hcd hmg hobj hints hlen hg => ?_
  have KX := hY w _ Y
  obtain ⟨fd, hb, hF⟩ := F w mg fa _ KX G.T.g hmg
  exact law_call KX G.T.g G.T.b G.T.builtins G.T.nolimit hg hobj hints (Nat.le_trans hlen hn2) hr hF hb (fun H hO hS => hsp w H a ns hlen hO hS) fun H e s' => hCX w H s₁ e s'
end L2
namespace L2
open PySem PySem.Spec PyProof.Rows
def defArgs (s : Stmt) : Arguments := match s with
  | .FunctionDef _ a _ _ _ _ _ _ _ _ => a
  | _ => { posonlyargs := [], args := [], vararg := none, kwonlyargs := [], kw_defaults := [], kwarg := none, defaults := [] }
def defBody (s : Stmt) : List Stmt := match s with
  | .FunctionDef _ _ b _ _ _ _ _ _ _ => b
  | _ => []
def defScope (s : Stmt) : Scope := match s with
  | .FunctionDef _ _ _ _ _ _ sc _ _ _ => sc
  | _ => { kind := .function, names := [], isGenerator := false, isCoroutine := false }
abbrev CX0 : CXT := fun _ _ _ _ _ _ => False
abbrev E0 : XK := fun _ _ _ => False
theorem pass0 {X : Cx} : Passes CX0 X E0 := fun _ _ _ _ _ _ _ h => h.elim
structure Fun (K : PySem.W.Frag) (x qual : Str) (st : Stmt) (f : Addr) (fd : FuncData) : Prop where
  ex : ∃ (oc : Value) (od : Option Addr) (kV doc pm : Value) (an : Option Addr) (cdv ct : Value) (osl : Array (Option Value)),
    fd = PySem.W.fnOf x qual (defArgs st) (defBody st) (defScope st) .none kV doc pm an cdv ct ∧ K.lookup f = some ⟨oc, od, .func fd, osl⟩ ∧ PySem.W.codeIn K cdv qual = true
  kp : PySem.W.keepIn K (.ref f) = true
section
variable {P : Program} {w : World} {K : PySem.W.Frag} {mg : Str → Option Value} {base : Heap}
theorem Fun.ok {x qual : Str} {st : Stmt} {f : Addr} {fd : FuncData} {N ps : List Str} {k : Nat} {sp : Sp} (F : Fun K x qual st f fd) (S : FnScope N ps (defScope st)) (len : ∀ vs H Q E, sp vs H Q E → vs.length = ps.length)
    (hbody : ∀ (cdv : Value) (A : Around) (outer : List Env) (s : Shared) (H : Hp) (vs : List V) (Q : VK) (E : XK), Room k (A.deeper (envOfC qual (defScope st) s.heap.objs.size f cdv)) → sp vs H Q E →
      ∃ t, PSs (cxOf CX0 P w K mg base N qual (defScope st) f cdv A outer s H E).nox (defBody st) t ∧ t { nx := fun _ H' => Q .non H', rt := Q } (start N vs) H) : FnOk P w K mg base CX0 (k + 1) f fd ps sp := by
  obtain ⟨oc, od, kV, doc, pm, an, cdv, ct, osl, rfl, lk, hcd⟩ := F.ex
  refine fn_of lk hcd S len fun A outer s H vs Q E hr hsp => ?_
  obtain ⟨t, h, q⟩ := hbody cdv A outer s H vs Q E hr hsp
  exact ⟨t, h.nox, q⟩
theorem Fun.binds {x qual : Str} {st : Stmt} {f : Addr} {fd : FuncData} {ps : List Str} (F : Fun K x qual st f fd)
    (h : ∀ (kV doc pm : Value) (an : Option Addr) (cdv ct : Value) (us : List Value), us.length = ps.length → bindArgs (PySem.W.fnOf x qual (defArgs st) (defBody st) (defScope st) .none kV doc pm an cdv ct) ⟨us, []⟩ = pure (ps.zip us)) : Binds K fd ps [] := by
  obtain ⟨oc, od, kV, doc, pm, an, cdv, ct, osl, rfl, lk, hcd⟩ := F.ex
  exact .all (h kV doc pm an cdv ct)
theorem fun_mk {x qual : Str} {st : Stmt} {f : Addr} {oc : Value} {od an : Option Addr} {osl : Array (Option Value)} {kV doc pm cdv ct : Value} (l : K.lookup f = some ⟨oc, od, .func (PySem.W.fnOf x qual (defArgs st) (defBody st) (defScope st) .none kV doc pm an cdv ct), osl⟩)
    (c : PySem.W.codeIn K cdv qual = true) (k : PySem.W.keepIn K (.ref f) = true) : Fun K x qual st f (PySem.W.fnOf x qual (defArgs st) (defBody st) (defScope st) .none kV doc pm an cdv ct) := ⟨⟨oc, od, kV, doc, pm, an, cdv, ct, osl, rfl, l, c⟩, k⟩
end
theorem small1000 {n : Nat} (h : n ≤ 1000) : n < sizeLine := Nat.lt_of_le_of_lt h (by decide)
section
variable {X : Cx}
theorem pv (i : Nat) {x : Str} {pos : Pos} (hN : X.N[i]? = some x := by rfl) (hv : Vis X.env.scope x := by first | exact Or.inl rfl | exact Or.inr (Or.inl rfl) | exact Or.inr (Or.inr rfl)) (hd : (x == ("__debug__" : Str)) = false := by decide)
    (hcd : (x == ("__classdict__" : Str)) = false := by decide) : PE X (.Name x pos) (tVar i) := pe_var hN hv hd hcd
end
theorem iteF {A B : Prop} (h : B) : if false = true then A else B := by
  rw [if_neg Bool.false_ne_true]
  exact h
theorem iteT {A B : Prop} (h : A) : if true = true then A else B := by
  rw [if_pos rfl]
  exact h
theorem ite2 {c A B : Prop} [Decidable c] (h1 : c → A) (h2 : ¬ c → B) : if c then A else B := by
  by_cases h : c
  · rw [if_pos h]
    exact h1 h
  · rw [if_neg h]
    exact h2 h
theorem iteNS {c A B : Prop} [Decidable c] (hc : c) (h : B) : if (!decide c) = true then A else B := by
  rw [decide_eq_true hc]
  exact iteF h
def Same (H H' : Hp) : Prop := ∀ b o, H b = some o → H' b = some o
theorem Same.refl (H : Hp) : Same H H := fun _ _ h => h
theorem Same.trans {H H1 H2 : Hp} (a : Same H H1) (b : Same H1 H2) : Same H H2 := fun c o h => b c o (a c o h)
end L2
set_option maxHeartbeats 4000000
set_option exponentiation.threshold 2000
namespace L2
open PySem PySem.Spec PyProof.Rows
section
variable {X : Cx}
mutual
inductive DA (K : PySem.W.Frag) (ok : Addr → Prop) (H : Hp) : V → PyData → Prop
  | non : DA K ok H .non .none
  | bl (b : Bool) : DA K ok H (.bl b) (.bool b)
  | int (i : Int) : DA K ok H (.int i) (.int i)
  | str (x : Str) : DA K ok H (.str x) (.str x)
  | lst {a : Addr} {vs : List V} {ds : List PyData} : ok a → SqL K H a vs → DAs K ok H vs ds → DA K ok H (.ref a) (.list ds)
  | tup {a : Addr} {vs : List V} {ds : List PyData} : ok a → SqT K H a vs → DAs K ok H vs ds → DA K ok H (.ref a) (.tuple ds)
inductive DAs (K : PySem.W.Frag) (ok : Addr → Prop) (H : Hp) : List V → List PyData → Prop
  | nil : DAs K ok H [] []
  | cons {v : V} {d : PyData} {vs : List V} {ds : List PyData} : DA K ok H v d → DAs K ok H vs ds → DAs K ok H (v :: vs) (d :: ds)
end
abbrev any (_ : Addr) : Prop := True
def Keep (ok : Addr → Prop) (H H' : Hp) : Prop := ∀ b o, ok b → H b = some o → H' b = some o
theorem Same.keep {ok : Addr → Prop} {H H' : Hp} (e : Same H H') : Keep ok H H' := fun b o _ h => e b o h
theorem Keep.seq {K : PySem.W.Frag} {ok : Addr → Prop} {H H' : Hp} {a : Addr} {xs : List V} (e : Keep ok H H') (n : ok a) (h : SqL K H a xs) : SqL K H' a xs := by
  rcases h with (h | ⟨o, h⟩) | h
  · exact .inl (.inl (e _ _ n h))
  · exact .inl (.inr ⟨o, e _ _ n h⟩)
  · exact .inr h
theorem Keep.seqT {K : PySem.W.Frag} {ok : Addr → Prop} {H H' : Hp} {a : Addr} {xs : List V} (e : Keep ok H H') (n : ok a) (h : SqT K H a xs) : SqT K H' a xs := by
  rcases h with (h | ⟨o, h⟩) | h
  · exact .inl (.inl (e _ _ n h))
  · exact .inl (.inr ⟨o, e _ _ n h⟩)
  · exact .inr h
theorem Same.upd {H : Hp} {p : Addr} {o : HO} (h : H p = none) : Same H (upd H p o) := fun b u e => by rw [upd_ne (ne_of_none e h)]; exact e
mutual
theorem DA.mono {K : PySem.W.Frag} {ok ok' : Addr → Prop} {H H' : Hp} (e : Keep ok H H') (m : ∀ a, ok a → ok' a) : ∀ {v : V} {d : PyData}, DA K ok H v d → DA K ok' H' v d
  | _, _, .non => .non
  | _, _, .bl b => .bl b
  | _, _, .int i => .int i
  | _, _, .str x => .str x
  | _, _, .lst n s r => .lst (m _ n) (e.seq n s) (DAs.mono e m r)
  | _, _, .tup n s r => .tup (m _ n) (e.seqT n s) (DAs.mono e m r)
theorem DAs.mono {K : PySem.W.Frag} {ok ok' : Addr → Prop} {H H' : Hp} (e : Keep ok H H') (m : ∀ a, ok a → ok' a) : ∀ {v : List V} {d : List PyData}, DAs K ok H v d → DAs K ok' H' v d
  | _, _, .nil => .nil
  | _, _, .cons a r => .cons (DA.mono e m a) (DAs.mono e m r)
end
mutual
theorem DA.reads {ok : Addr → Prop} {pins : List (Addr × Obj)} {σ : St} {H : Hp} {s : Shared} (I : Inv X pins σ H s) : ∀ {v : V} {d : PyData} {u : Value}, DA X.K ok H v d → RelV v u → ∃ as, Reads s.heap u d as
  | _, _, _, .non, r => by cases r; exact ⟨_, .none⟩
  | _, _, _, .bl b, r => by cases r; exact ⟨_, .bool b⟩
  | _, _, _, .int i, r => by obtain ⟨t, rfl⟩ := r; exact ⟨_, .int i t⟩
  | _, _, _, .str x, r => by obtain ⟨t, rfl⟩ := r; exact ⟨_, .str x t⟩
  | _, _, _, .lst _ h q, r => by
    cases r
    obtain ⟨its, rv, ⟨o, n, e, c, _, d⟩, _⟩ := I.list h
    obtain ⟨as, p⟩ := DAs.reads I q rv
    exact ⟨_, .list e c d (by simpa using p)⟩
  | _, _, _, .tup _ h q, r => by
    cases r
    obtain ⟨its, rv, ⟨o, e, c, n, d⟩, _⟩ := I.tuple h
    obtain ⟨as, p⟩ := DAs.reads I q rv
    exact ⟨_, .tuple e c d (by simpa using p)⟩
theorem DAs.reads {ok : Addr → Prop} {pins : List (Addr × Obj)} {σ : St} {H : Hp} {s : Shared} (I : Inv X pins σ H s) : ∀ {v : List V} {d : List PyData} {u : List Value}, DAs X.K ok H v d → Vals v u → ∃ as, ReadsAll s.heap u d as
  | _, _, _, .nil, r => by cases r; exact ⟨_, .nil⟩
  | _, _, _, .cons a q, r => by
    cases r with
    | cons r1 r2 =>
      obtain ⟨as, p⟩ := DA.reads I a r1
      obtain ⟨bs, p'⟩ := DAs.reads I q r2
      exact ⟨_, .cons p p'⟩
end
def rEqD (K : PySem.W.Frag) : R2 := fun x y H Q => ∃ d e, DA K any H x d ∧ DA K any H y e ∧ (d.canLay0 = true ∧ e.canLay0 = true ∧ d.depth ≤ 64) ∧ Q (.bl (PyData.eqv d e)) H
def rNeD (K : PySem.W.Frag) : R2 := fun x y H Q => ∃ d e, DA K any H x d ∧ DA K any H y e ∧ (d.canLay0 = true ∧ e.canLay0 = true ∧ d.depth ≤ 64) ∧ Q (.bl (!PyData.eqv d e)) H
theorem op_eqD (hu : X.A.units + 64 < cLine) : OpR X (compareOp .Eq) (rEqD X.K) := by
  intro pins s σ H x y v u Q I rx ry h
  obtain ⟨d, e, hd, he, ⟨l1, l2, l3⟩, q⟩ := h
  obtain ⟨as, p1⟩ := hd.reads I rx
  obtain ⟨bs, p2⟩ := he.reads I ry
  exact PySem.SeqAt.compareEq_reads p1 p2 l1 l2 (by omega) ⟨.bl _, H, I, rfl, q⟩
theorem op_neD (hu : X.A.units + 64 < cLine) : OpR X (compareOp .NotEq) (rNeD X.K) := by
  intro pins s σ H x y v u Q I rx ry h
  obtain ⟨d, e, hd, he, ⟨l1, l2, l3⟩, q⟩ := h
  obtain ⟨as, p1⟩ := hd.reads I rx
  obtain ⟨bs, p2⟩ := he.reads I ry
  exact PySem.SeqAt.compareNe_reads p1 p2 l1 l2 (by omega) ⟨.bl _, H, I, rfl, q⟩
end
theorem iteNP {c A B : Prop} [Decidable c] (hc : ¬ c) (h : A) : if (!decide c) = true then A else B := by
  rw [decide_eq_false hc]
  exact iteT h
theorem itDP {c A B : Prop} [Decidable c] (hc : c) (h : A) : if decide c = true then A else B := by
  rw [decide_eq_true hc]
  exact iteT h
theorem itDN {c A B : Prop} [Decidable c] (hc : ¬ c) (h : B) : if decide c = true then A else B := by
  rw [decide_eq_false hc]
  exact iteF h
structure Dn (K : PySem.W.Frag) (mg : Str → Option Value) (x : Str) (st : Stmt) (ps : List Str) (f : Addr) (fd : FuncData) : Prop where
  fn : Fun K x x st f fd
  gl : mg x = some (.ref f)
  bd : Binds K fd ps []
section
variable {X : Cx} {k : Nat} {f : Addr} {fd : FuncData} {x : Str} {st : Stmt} {ps : List Str} {sp : Sp} {e : Expr} {es : List Expr} {p pos : Pos} {t : TA}
theorem pe_fn (D : Dn X.K X.mg x st ps f fd) (G : FnOk X.prog X.w X.K X.mg X.base CX0 k f fd ps sp) (hr : Room k X.A) (hg : Gl X x) (ha : PA X (e :: es) t) (hdb : (x == ("__debug__" : Str)) = false := by decide)
    (hs : starEach (e :: es) X.env = (false, eval e X.env) :: starEach es X.env := by rfl) (hpl : (backTo pos (starEach es X.env)).any (·.1) = false := by rfl) : PE X (.Call (.Name x p) (e :: es) [] pos) (tCall sp [] E0 t) :=
  pe_call G hr hg D.gl D.fn.kp D.bd .nil pass0 ha hdb hs hpl
end
end L2
namespace L2
open PySem PySem.Spec PyProof.Rows
def clOf (cells : List (Str × Addr)) : List (Str × NameKind) → List (Str × Addr) → List (Str × Addr)
  | [], acc => acc
  | (n, k) :: r, acc => clOf cells r (if (k == .free) = true then (match cells.lookup n with | some c => (n, c) :: acc | none => acc) else acc)
theorem lookup_relab {c : Str → NameKind → Bool} {y : Str} : ∀ (names : List (Str × NameKind)), (names.map fun (n, k) => if c n k = true then (n, NameKind.cell) else (n, k)).lookup y = (names.lookup y).map fun k => if c y k = true then NameKind.cell else k
  | [] => rfl
  | (n, k) :: r => by
    have ih := lookup_relab (c := c) (y := y) r
    show List.lookup y ((if c n k = true then (n, NameKind.cell) else (n, k)) :: _) = _
    cases hx : y == n with
    | true =>
      have e : y = n := by simpa using hx
      subst e
      by_cases hc : c y k = true
      · rw [if_pos hc]; simp [List.lookup_cons, hc]
      · rw [if_neg hc]; simp [List.lookup_cons, hc]
    | false =>
      by_cases hc : c n k = true
      · rw [if_pos hc]; simp only [List.lookup_cons, hx]; exact ih
      · rw [if_neg hc]; simp only [List.lookup_cons, hx]; exact ih
theorem relab_lookup {sc : Scope} {env : Env} {y : Str} {k : NameKind} (h : (relabel sc env).names.lookup y = some k) : ∃ k0, (y, k0) ∈ sc.names ∧ (k = k0 ∨ (k = .cell ∧ k0 = .free)) := by
  have e := lookup_relab (c := fun n k => k == NameKind.free && env.scope.kind == .function && env.kindOf n == some .cell) (y := y) sc.names
  have h' : (sc.names.map fun (n, k) => if (k == NameKind.free && env.scope.kind == .function && env.kindOf n == some .cell) = true then (n, NameKind.cell) else (n, k)).lookup y = some k := h
  rw [e] at h'
  cases q : sc.names.lookup y with
  | none => rw [q] at h'; cases h'
  | some k0 =>
    rw [q] at h'
    refine ⟨k0, PySem.mem_of_lookup q, ?_⟩
    have h'' : (if (k0 == NameKind.free && env.scope.kind == .function && env.kindOf y == some .cell) = true then NameKind.cell else k0) = k := Option.some.inj h'
    by_cases hc : (k0 == NameKind.free && env.scope.kind == .function && env.kindOf y == some .cell) = true
    · rw [if_pos hc] at h''
      refine .inr ⟨h''.symm, ?_⟩
      have := (Bool.and_eq_true_iff.mp (Bool.and_eq_true_iff.mp hc).1).1
      simpa using this
    · rw [if_neg hc] at h''
      exact .inl h''.symm
theorem clOf_sub {cells : List (Str × Addr)} : ∀ (names : List (Str × NameKind)) (acc : List (Str × Addr)), (∀ y c, acc.lookup y = some c → cells.lookup y = some c) → ∀ y c, (clOf cells names acc).lookup y = some c → cells.lookup y = some c
  | [], _, h => h
  | (n, k) :: r, acc, h => by
    refine clOf_sub r _ fun y c => ?_
    by_cases hk : (k == NameKind.free) = true
    · rw [if_pos hk]
      cases q : cells.lookup n with
      | none => exact h y c
      | some d =>
        intro e
        show cells.lookup y = some c
        have e' : List.lookup y ((n, d) :: acc) = some c := e
        rw [List.lookup_cons] at e'
        cases hx : y == n with
        | true =>
          rw [hx] at e'
          have : y = n := by simpa using hx
          subst this
          rw [q]; exact e'
        | false =>
          rw [hx] at e'
          exact h y c e'
    · rw [if_neg hk]
      exact h y c
theorem clOf_acc {cells : List (Str × Addr)} {y : Str} : ∀ (names : List (Str × NameKind)) (acc : List (Str × Addr)), (acc.lookup y).isSome = true → ((clOf cells names acc).lookup y).isSome = true
  | [], _, h => h
  | (n, k) :: r, acc, h => by
    refine clOf_acc r _ ?_
    by_cases hk : (k == NameKind.free) = true
    · rw [if_pos hk]
      cases q : cells.lookup n with
      | none => exact h
      | some d =>
        show (List.lookup y ((n, d) :: acc)).isSome = true
        rw [List.lookup_cons]
        cases hx : y == n with
        | true => rfl
        | false => exact h
    · rw [if_neg hk]; exact h
theorem clOf_has {cells : List (Str × Addr)} {y : Str} (hc : (cells.lookup y).isSome = true) : ∀ (names : List (Str × NameKind)) (acc : List (Str × Addr)), (y, NameKind.free) ∈ names → ((clOf cells names acc).lookup y).isSome = true
  | (n, k) :: r, acc, h => by
    rcases List.mem_cons.mp h with e | h
    · cases e
      refine clOf_acc r _ ?_
      rw [if_pos (by rfl)]
      obtain ⟨c, q⟩ := Option.isSome_iff_exists.mp hc
      rw [q]
      show (List.lookup y ((y, c) :: acc)).isSome = true
      rw [List.lookup_cons, beq_self_eq_true]
      rfl
    · exact clOf_has hc r _ h
theorem cellOf_some {env : Env} {y : Str} {c : Addr} (h : env.cells.lookup y = some c) : cellOf env y = pure c := by
  unfold cellOf
  rw [h]
theorem closure_of {sc : Scope} {env : Env} (h : ∀ y ∈ sc.names, y.2 = .free → (env.cells.lookup y.1).isSome = true) : closureFor sc env = pure (clOf env.cells sc.names []) := by
  have all : ∀ (names : List (Str × NameKind)) (acc : List (Str × Addr)), (∀ y ∈ names, y.2 = .free → (env.cells.lookup y.1).isSome = true) →
      (forIn names acc fun (x : Str × NameKind) (cs : List (Str × Addr)) => (do
        let (name, kind) := x
        if (kind == .free) = true then let c ← cellOf env name; pure (ForInStep.yield ((name, c) :: cs)) else pure (ForInStep.yield cs) : Sem (ForInStep (List (Str × Addr))))) = pure (clOf env.cells names acc) := by
    intro names
    induction names with
    | nil => intro acc _; rfl
    | cons a r ih =>
      intro acc hh
      obtain ⟨n, k⟩ := a
      rw [List.forIn_cons]
      by_cases hk : (k == NameKind.free) = true
      · obtain ⟨c, q⟩ := Option.isSome_iff_exists.mp (hh (n, k) List.mem_cons_self (by simpa using hk))
        simp only [hk, if_true, cellOf_some q, pure_bind]
        rw [ih _ fun y hy => hh y (List.mem_cons_of_mem _ hy)]
        show pure (clOf env.cells r ((n, c) :: acc)) = pure (clOf env.cells r (if (k == NameKind.free) = true then _ else acc))
        rw [if_pos hk, q]
      · simp only [hk, Bool.false_eq_true, if_false, pure_bind]
        rw [ih _ fun y hy => hh y (List.mem_cons_of_mem _ hy)]
        show pure (clOf env.cells r acc) = pure (clOf env.cells r (if (k == NameKind.free) = true then _ else acc))
        rw [if_neg hk]
  unfold closureFor
  first
    | exact (congrArg (fun z => z >>= pure) (all sc.names [] h)).trans (by simp)
    | (have e := all sc.names [] h
       simp only [bind_pure] at e ⊢
       exact e)
theorem cellsFrom_none {acc : List (Str × Addr)} : ∀ {names : List (Str × NameKind)} {n : Nat}, (∀ y ∈ names, y.2 ≠ .cell) → cellsFrom n names acc = acc
  | [], _, _ => rfl
  | (y, k) :: r, n, h => by
    unfold cellsFrom
    rw [if_neg (by simpa using h (y, k) List.mem_cons_self)]
    exact cellsFrom_none fun z hz => h z (List.mem_cons_of_mem _ hz)
theorem pushCells_none : ∀ {names : List (Str × NameKind)} {h : Heap}, (∀ y ∈ names, y.2 ≠ .cell) → pushCells h names = h
  | [], _, _ => rfl
  | (y, k) :: r, h, hn => by
    unfold pushCells
    rw [if_neg (by simpa using hn (y, k) List.mem_cons_self)]
    exact pushCells_none fun z hz => hn z (List.mem_cons_of_mem _ hz)
theorem newEnv_lc {M : Model} {A : Around} {E : Value → Shared → Prop} {s : Shared} {scope : Scope} {globals : Addr} {closure : List (Str × Addr)} {qual : Str} {func : Option Addr} {code : Value} {outer : Env} {builtins : Addr} {Q : Env → Shared → Prop}
    (hQ : Q (newEnv scope s.heap.objs.size globals (cellsFrom (s.heap.objs.size + 1) scope.names closure) qual func code (some outer) builtins) { s with heap := pushCells (s.heap.push { cls := .type "dict", data := .dict #[] }) scope.names }) :
    wpAny M A (newFunctionEnv scope globals closure [] qual func code (some outer) builtins) Q E s := by
  simp only [newFunctionEnv, Option.isSome_some, if_true]
  refine wpAny_bind (wpAny_alloc ?_)
  refine wpAny_bind (wpAny_layCells _ (fun name kind cells => by cases hkc : kind == NameKind.cell <;> simp [hkc]) _ _ _ _ ?_)
  rw [show ({ s with heap := s.heap.push { cls := .type "dict", data := .dict #[] } } : Shared).heap.objs.size = s.heap.objs.size + 1 from Heap.size_push ..]
  exact wpAny_bind (wpAny_pure (wpAny_pure hQ))
section
variable {X : Cx} {pins : List (Addr × Obj)} {σ : St} {H : Hp} {s : Shared} {sc : Scope} {x : Str} {fp : List Addr}
def tLc (ti : TI) (te : TE) : TE := fun σ H Q => ti σ H fun J H1 => ∀ D, H1 D = none → ∃ W : Nat → Nat → List V → Hp → Prop, (∃ m, W 0 m [] (upd H1 D (.lst []))) ∧
  ∀ i m ys H', W i m ys H' → H' D = some (.lst ys) ∧ ((J.stop i H' ∧ Q (.ref D) H') ∨ (J.go i H' ∧ ∀ z H2, J.yld i H' z H2 → te (σ ++ [some z]) H2 fun v H3 => H3 D = some (.lst ys) ∧ ys.length < sizeLine ∧ ∃ m', m' < m ∧ W (i + 1) m' (ys ++ [v]) (upd H3 D (.lst (ys ++ [v])))))
end
end L2
namespace L2
open PySem PySem.Spec PyProof.Rows
section
variable {X : Cx}
end
end L2
namespace L2
open PySem PySem.Spec PyProof.Rows
theorem lc_list {K : PySem.W.Frag} {a : Addr} {xs : List V} {te : TE} {Q : Hp → Prop} {σ : St} {H1 : Hp} {D : Addr} (Pv : Nat → List V → Hp → Prop) (h0 : Pv 0 [] (upd H1 D (.lst []))) (hl : ∀ i ys H', i ≤ xs.length → Pv i ys H' → SqL K H' a xs ∧ H' D = some (.lst ys))
    (hs : ∀ i x ys H', xs[i]? = some x → Pv i ys H' → te (σ ++ [some x]) H' fun v H3 => H3 D = some (.lst ys) ∧ ys.length < sizeLine ∧ Pv (i + 1) (ys ++ [v]) (upd H3 D (.lst (ys ++ [v])))) (hd : ∀ ys H', Pv xs.length ys H' → Q H')
    (mono : ∀ σ H Q Q', (∀ v H1, Q v H1 → Q' v H1) → te σ H Q → te σ H Q') :
    ∃ W : Nat → Nat → List V → Hp → Prop, (∃ m, W 0 m [] (upd H1 D (.lst []))) ∧
      ∀ i m ys H', W i m ys H' → H' D = some (.lst ys) ∧ (((Itl K a).stop i H' ∧ Q H') ∨ ((Itl K a).go i H' ∧ ∀ z H2, (Itl K a).yld i H' z H2 → te (σ ++ [some z]) H2 fun v H3 => H3 D = some (.lst ys) ∧ ys.length < sizeLine ∧ ∃ m', m' < m ∧ W (i + 1) m' (ys ++ [v]) (upd H3 D (.lst (ys ++ [v]))))) := by
  refine ⟨fun i m ys H' => m = xs.length - i ∧ i ≤ xs.length ∧ Pv i ys H', ⟨xs.length, by simp, Nat.zero_le _, h0⟩, ?_⟩
  rintro i m ys H' ⟨rfl, hi, p⟩
  obtain ⟨q, eD⟩ := hl i ys H' hi p
  refine ⟨eD, ?_⟩
  by_cases hlt : i < xs.length
  · refine .inr ⟨⟨xs, xs[i], q, by simp [hlt]⟩, fun z H2 y => ?_⟩
    obtain ⟨e, y⟩ := y
    subst e
    refine mono _ _ _ _ (fun v H3 ⟨z1, z2, z3⟩ => ⟨z1, z2, xs.length - (i + 1), by omega, rfl, hlt, z3⟩) (hs i z ys _ (y xs q) p)
  · have e : i = xs.length := by omega
    subst e
    exact .inl ⟨⟨xs, q, Nat.le_refl _⟩, hd ys H' p⟩
theorem lc_range {lo : Int} {n : Nat} {te : TE} {Q : Hp → Prop} {σ : St} {H1 : Hp} {D : Addr} (Pv : Nat → List V → Hp → Prop) (h0 : Pv 0 [] (upd H1 D (.lst []))) (hl : ∀ i ys H', i ≤ n → Pv i ys H' → H' D = some (.lst ys))
    (hs : ∀ i ys H', i < n → Pv i ys H' → te (σ ++ [some (.int (lo + (i : Nat)))]) H' fun v H3 => H3 D = some (.lst ys) ∧ ys.length < sizeLine ∧ Pv (i + 1) (ys ++ [v]) (upd H3 D (.lst (ys ++ [v])))) (hd : ∀ ys H', Pv n ys H' → Q H')
    (mono : ∀ σ H Q Q', (∀ v H1, Q v H1 → Q' v H1) → te σ H Q → te σ H Q') :
    ∃ W : Nat → Nat → List V → Hp → Prop, (∃ m, W 0 m [] (upd H1 D (.lst []))) ∧
      ∀ i m ys H', W i m ys H' → H' D = some (.lst ys) ∧ (((Itr lo n).stop i H' ∧ Q H') ∨ ((Itr lo n).go i H' ∧ ∀ z H2, (Itr lo n).yld i H' z H2 → te (σ ++ [some z]) H2 fun v H3 => H3 D = some (.lst ys) ∧ ys.length < sizeLine ∧ ∃ m', m' < m ∧ W (i + 1) m' (ys ++ [v]) (upd H3 D (.lst (ys ++ [v]))))) := by
  refine ⟨fun i m ys H' => m = n - i ∧ i ≤ n ∧ Pv i ys H', ⟨n, by simp, Nat.zero_le _, h0⟩, ?_⟩
  rintro i m ys H' ⟨rfl, hi, p⟩
  refine ⟨hl i ys H' hi p, ?_⟩
  by_cases hlt : i < n
  · refine .inr ⟨hlt, fun z H2 y => ?_⟩
    obtain ⟨e, y⟩ := y
    subst e y
    refine mono _ _ _ _ (fun v H3 ⟨z1, z2, z3⟩ => ⟨z1, z2, n - (i + 1), by omega, rfl, hlt, z3⟩) (hs i ys _ hlt p)
  · have e : i = n := by omega
    subst e
    exact .inl ⟨Nat.le_refl _, hd ys H' p⟩
end L2
namespace L2
open PySem PySem.Spec PyProof.Rows
section
variable {X : Cx}
end
end L2
namespace L2
open PySem PySem.Spec PyProof.Rows
section
variable {X : Cx} {pins : List (Addr × Obj)} {σ : List (Option V)} {H : Hp} {s : Shared} {h' : Heap}
end
section
variable {X : Cx}
end
end L2
namespace L2
open PySem PySem.Spec PyProof.Rows
def hid (y : Str) : Str := "." ++ y
def blkNs (N xs : List Str) : List Str := N.map (fun y => if y ∈ xs then hid y else y) ++ xs
structure LcScopes (S : Scope) (N : List Str) (sc : Scope) (xs : List Str) : Prop where
  uniq : (sc.names.map (·.1)).Nodup
  kind : sc.kind = .function
  names : ∀ y ∈ sc.names, y.2 = .local → sc.names.lookup y.1 = some .local
  loc : ∀ x ∈ xs, sc.names.lookup x = some .local
  free : ∀ y ∈ sc.names, y.2 = .free → S.names.lookup y.1 = some .cell ∨ S.names.lookup y.1 = some .free
  only : ∀ y ∈ sc.names, y.2 = .local → y.1 ∈ xs ∨ y.1 = ".0"
  noC : ∀ y ∈ sc.names, y.2 ≠ .cell
  ne : ∀ y ∈ sc.names, ∀ x ∈ xs, y.1 ≠ hid x
  dot : ∀ y ∈ N, y ≠ ".0"
  nd : (blkNs N xs).Nodup
def Cx.blks (X : Cx) (N' : List Str) (sc : Scope) (s₀ : Shared) (H₀ : Hp) (fp : List Addr) : Cx :=
  { X with N := N', s₀ := s₀, H₀ := H₀, env := compEnvC sc (clOf X.env.cells sc.names []) s₀.heap.objs.size X.env, outer := X.stack, stack := X.stack, ex := fp, fn := fun _ => false, pn := [], xe := fun _ _ => False }
section
variable {X : Cx} {pins : List (Addr × Obj)} {σ : St} {H : Hp} {s : Shared} {sc : Scope} {xs : List Str} {fp : List Addr}
theorem blkNs_len (N xs : List Str) : (blkNs N xs).length = N.length + xs.length := by simp [blkNs]
theorem blkNs_at {N xs : List Str} {i : Nat} {y : Str} (h : (blkNs N xs)[i]? = some y) (hi : i < N.length) : ∃ y0, N[i]? = some y0 ∧ ((y0 ∈ xs ∧ y = hid y0) ∨ (y0 ∉ xs ∧ y = y0)) := by
  unfold blkNs at h
  rw [List.getElem?_append_left (by simpa using hi), List.getElem?_map] at h
  cases q : N[i]? with
  | none => rw [q] at h; cases h
  | some y0 =>
    rw [q] at h
    refine ⟨y0, rfl, ?_⟩
    have h' : (if y0 ∈ xs then hid y0 else y0) = y := Option.some.inj h
    by_cases e : y0 ∈ xs
    · rw [if_pos e] at h'; exact .inl ⟨e, h'.symm⟩
    · rw [if_neg e] at h'; exact .inr ⟨e, h'.symm⟩
theorem Inv.has_cells (I : Inv X pins σ H s) {S : Scope} (L : LcScopes S X.N sc xs) (hS : X.env.scope = S) : ∀ y ∈ sc.names, y.2 = .free → (X.env.cells.lookup y.1).isSome = true := fun y hy hf => by
  have k : X.env.kindOf y.1 = some .cell ∨ X.env.kindOf y.1 = some .free := by
    show X.env.scope.names.lookup y.1 = _ ∨ X.env.scope.names.lookup y.1 = _
    rw [hS]
    exact L.free y hy hf
  obtain ⟨c, e⟩ := I.ok.has y.1 k
  rw [e]; rfl
theorem Inv.blks (I : Inv X pins σ H s) {S : Scope} (L : LcScopes S X.N sc xs) (hS : X.env.scope = S) (hf : ∀ b ∈ fp, FpOk X pins H b) (hb : ∀ b ∈ fp, b < s.heap.objs.size) {h1 : Heap} {tk : Nat} {m : Str → Option Value} (hn : h1.Ns s.heap.objs.size m)
    (hk : ∀ b o, s.heap.get? b = some o → h1.get? b = some o) : Inv (X.blks (blkNs X.N xs) sc s H fp) [] (σ ++ xs.map fun _ => none) H { s with heap := h1, toks := tk } := by
  have sub : ∀ y c, (clOf X.env.cells sc.names []).lookup y = some c → X.env.cells.lookup y = some c := clOf_sub sc.names [] fun _ _ z => by cases z
  have hasC : ∀ y, (y, NameKind.free) ∈ sc.names → ∃ c, (clOf X.env.cells sc.names []).lookup y = some c := fun y hy =>
    Option.isSome_iff_exists.mp (clOf_has (I.has_cells L hS (y, .free) hy rfl) sc.names [] hy)
  have kinds : ∀ y k, (relabel sc X.env).names.lookup y = some k → (k = .cell ∨ k = .free) → (y, NameKind.free) ∈ sc.names := fun y k e hk => by
    obtain ⟨k0, hm, q⟩ := relab_lookup e
    rcases q with rfl | ⟨_, rfl⟩
    · rcases hk with rfl | rfl
      · exact absurd rfl (L.noC _ hm)
      · exact hm
    · exact hm
  have stk := I.stkSub
  refine ⟨⟨I.ok.mod, L.kind, I.ok.glob, I.ok.blt, Nat.le_refl _, fun y z c e1 e2 => ?_, fun y hy => ?_, fun y c z e => ?_, I.ok.hd, I.ok.frames, .inl rfl, fun b hb' => ?_, I.bs, Nat.le_trans I.ok.bsz I.sz, fun b o e hb' => ?_, fun b hb' z => ?_, I.stack, I.stkFree⟩,
    rfl, I.bare, Un.kept hk, ⟨m, hn, fun i y v e1 e2 e3 => ?_⟩, fun y c e => ?_, I.hok.fresh (Nat.le_refl _), fun y c e => ?_, fun p hp => absurd (show p ∈ ([] : List (Addr × Obj)) from hp) (by simp), I.hok.kept hk, ?_⟩
  · exact I.ok.inj y z c (sub y c e1) (sub z c e2)
  · have hy' : (relabel sc X.env).names.lookup y = some .cell ∨ (relabel sc X.env).names.lookup y = some .free := hy
    rcases hy' with e | e
    · exact hasC y (kinds y _ e (.inl rfl))
    · exact hasC y (kinds y _ e (.inr rfl))
  · exact absurd (show false = true from z) (by decide)
  · obtain ⟨f0, f1, f2, f3, f4, f5⟩ := hf b hb'
    exact ⟨Nat.ne_of_lt (hb b hb'), fun y c e z => f4 y c (sub y c e) z⟩
  · obtain ⟨f0, f1, f2, f3, f4, f5⟩ := hf b hb'
    rcases f3 with z | z
    · exact I.ok.noex b o e z
    · exact absurd (Nat.lt_of_lt_of_le (Heap.lt_size (I.ok.bs b o e).1) z) (Nat.lt_irrefl _)
  · obtain ⟨f0, f1, f2, f3, f4, f5⟩ := hf b hb'
    rcases List.mem_cons.mp (stk b z) with q | q
    · exact f1 q
    · exact f2 q
  · have hl : σ.length = X.N.length := I.len
    have hi : i < X.N.length := by
      by_cases hi : i < σ.length
      · omega
      · rw [List.getElem?_append_right (by omega), List.getElem?_map] at e2
        cases q : xs[i - σ.length]? with
        | none => rw [q] at e2; cases e2
        | some n => rw [q] at e2; cases e2
    rw [List.getElem?_append_left (by omega)] at e2
    obtain ⟨y0, g1, g2⟩ := blkNs_at e1 hi
    have vis : ∃ k, (relabel sc X.env).names.lookup y = some k ∧ (k = .local ∨ k = .cell ∨ k = .free) := by
      rcases e3 with q | q | q
      · exact ⟨_, q, .inl rfl⟩
      · exact ⟨_, q, .inr (.inl rfl)⟩
      · exact ⟨_, q, .inr (.inr rfl)⟩
    obtain ⟨k, q, hk'⟩ := vis
    obtain ⟨k0, hm, q0⟩ := relab_lookup q
    rcases g2 with ⟨g2, rfl⟩ | ⟨g2, rfl⟩
    · exact absurd rfl (L.ne _ hm _ g2)
    · have hkc : k = .cell ∨ k = .free := by
        rcases hk' with rfl | z
        · exfalso
          rcases q0 with rfl | ⟨z, _⟩
          · rcases L.only _ hm rfl with z | z
            · exact g2 z
            · exact L.dot y (List.mem_of_getElem? g1) z
          · cases z
        · exact z
      have hfr : (y, NameKind.free) ∈ sc.names := kinds y k q hkc
      have visX : X.env.scope.names.lookup y = some .cell ∨ X.env.scope.names.lookup y = some .free := by rw [hS]; exact L.free _ hfr rfl
      obtain ⟨m0, _, hl0⟩ := I.loc
      obtain ⟨u, r, lk⟩ := hl0 i y v g1 e2 (.inr visX)
      refine ⟨u, r, ?_⟩
      rcases lk with ⟨z, _⟩ | ⟨_, c, ec, hc⟩
      · exfalso
        have z' : X.env.scope.names.lookup y = some .local := z
        rcases visX with w' | w' <;> rw [z'] at w' <;> cases w'
      · obtain ⟨c', ec'⟩ := hasC y hfr
        have : c' = c := Option.some.inj ((sub y c' ec').symm.trans ec)
        subst this
        refine .inr ⟨?_, c', ec', ?_⟩
        · rcases hkc with rfl | rfl
          · exact .inl q
          · exact .inr q
        · obtain ⟨o, ho, hd⟩ := hc
          exact ⟨o, hk _ _ ho, hd⟩
  · obtain ⟨v, o, ho, hd⟩ := I.cell y c (sub y c e)
    exact ⟨v, o, hk _ _ ho, hd⟩
  · exact I.freeC y c (sub y c e)
  · rw [List.length_append, List.length_map, I.len]
    exact (blkNs_len X.N xs).symm
def PTs (X : Cx) (ifs : List Expr) (t : TT) : Prop :=
  ∀ (pins : List (Addr × Obj)) (s : Shared) (σ : St) (H : Hp) (Q : Bool → Hp → Prop), Inv X pins σ H s → t σ H Q →
    wpAny (model X.prog X.w) X.A (forIn ifs true fun c r => if r = true then do let ok ← isTrue c X.env (eval c X.env); pure (ForInStep.yield ok) else pure (ForInStep.yield r)) (TP X pins σ Q) X.xe s
def tYes : TT := fun _ H Q => Q true H
theorem pts_nil : PTs X [] tYes := fun _ _ _ H _ I h => wpAny_tests_nil ⟨H, I, h⟩
theorem pts_one {c : Expr} {t : TT} (h : PT X c t) : PTs X [c] t := fun pins s σ H Q I q => wpAny_tests_one (h pins s σ H Q I q)
theorem compLoopT {prog : Program} {w : World} {A : Around} {R : Result → Shared → Prop} {elt target iter : Expr} {ifs : List Expr} {scope : Scope} {pos : Pos} {it acc : Value} {env : Env} (I : Nat → Shared → Prop)
    (turn : ∀ n s, I n s → wpAny (model prog w) A (pyNext it) (fun r s₁ => match r with
      | none => R (.ok .next) s₁
      | some v => wpAny (model prog w) A (letOwnedTupleGo target it v) (fun _ s₁' => wpAny (model prog w) A (assign target env v) (fun _ s₂ =>
          wpAny (model prog w) A (forIn ifs true fun c r => if r = true then do let ok ← isTrue c env (eval c env); pure (ForInStep.yield ok) else pure (ForInStep.yield r)) (fun ok s₃ =>
            if ok = true then wpAny (model prog w) A (eval elt env) (fun x s₄ =>
              wpAny (model prog w) A (call (.builtin "list.append") [acc, x]) (fun _ s₅ => ∃ m, m < n ∧ I m s₅) (fun _ _ => False) s₄) (fun _ _ => False) s₃
            else ∃ m, m < n ∧ I m s₃) (fun _ _ => False) s₂) (fun _ _ => False) s₁') (fun _ _ => False) s₁) (fun _ _ => False) s)
    (n : Nat) (h : I n s) : codeAny (model prog w) A (.compLoop (.ListComp elt [⟨target, iter, ifs, 0⟩] scope pos) 0 it acc env) R s := by
  refine codeAny_loop rfl I (fun n s hI => ?_) n h
  show wpAny _ A ((compTurn (.ListComp elt [⟨target, iter, ifs, 0⟩] scope pos) 0 it acc env).onRaise (fun x => do noteFrame x env; theTreesLotGoes x)) _ _ s
  refine wpAny_noted ?_
  rw [compTurn_list]
  refine wpAny_bind (wpAny_standAt (wpAny_bind (wpAny_mono (turn n s hI) (fun r s₁ h₁ => ?_) fun _ _ z => z.elim)))
  cases r with
  | none => exact wpAny_pure h₁
  | some v =>
    refine wpAny_bind (wpAny_mono h₁ (fun _ s₁' h₁' => ?_) fun _ _ z => z.elim)
    refine wpAny_bind (wpAny_mono h₁' (fun _ s₂ h₂ => wpAny_bind (wpAny_mono h₂ (fun ok s₃ h₃ => ?_) fun _ _ z => z.elim)) fun _ _ z => z.elim)
    cases ok with
    | false => exact wpAny_pure ⟨rfl, h₃⟩
    | true =>
      exact wpAny_bind (wpAny_bind (wpAny_mono h₃ (fun x s₄ h₄ => wpAny_bind (wpAny_mono h₄ (fun _ s₅ h₅ => wpAny_pure (wpAny_pure ⟨rfl, h₅⟩)) fun _ _ z => z.elim)) fun _ _ z => z.elim))
def LcW (n : Nat) (J : It) (g : TG) (tt : TT) (te : TE) (σ : St) (H1 : Hp) (Q : VK) : Prop := ∀ D, H1 D = none → ∃ W : Nat → Nat → List V → Hp → Prop, (∃ m, W 0 m [] (upd H1 D (.lst []))) ∧
  ∀ i m ys H', W i m ys H' → H' D = some (.lst ys) ∧ ((J.stop i H' ∧ Q (.ref D) H') ∨ (J.go i H' ∧ ∀ z H2, J.yld i H' z H2 → ∀ os : St, os.length = n → g z (σ ++ os) H2 fun σ' H3 => (∃ os' : St, σ' = σ ++ os' ∧ os'.length = n) ∧ tt σ' H3 fun ok H4 =>
    if ok = true then te σ' H4 fun v H5 => H5 D = some (.lst ys) ∧ ys.length < sizeLine ∧ ∃ m', m' < m ∧ W (i + 1) m' (ys ++ [v]) (upd H5 D (.lst (ys ++ [v]))) else ∃ m', m' < m ∧ W (i + 1) m' ys H4))
def tLcs (n : Nat) (ti : TI) (g : TG) (tt : TT) (te : TE) : TE := fun σ H Q => ti σ H fun J H1 => LcW n J g tt te σ H1 Q
theorem lcs_core {elt iter target : Expr} {ifs : List Expr} {pos : Pos} {g : TG} {tt : TT} {te : TE} {S : Scope} {use : Option (Value → Sem Unit)} {QQ : Value → Shared → Prop} {Q : VK} {it : Addr} {tn : Nat → Heap → Prop} {J : It} (hc : X.calm = true) (L : LcScopes S X.N sc xs) (hS : X.env.scope = S)
    (hg : ∀ (s₀ : Shared) (H₀ : Hp) (fp : List Addr), PG (X.blks (blkNs X.N xs) sc s₀ H₀ fp) target g) (ht : ∀ (s₀ : Shared) (H₀ : Hp) (fp : List Addr), PTs (X.blks (blkNs X.N xs) sc s₀ H₀ fp) ifs tt)
    (he : ∀ (s₀ : Shared) (H₀ : Hp) (fp : List Addr), PE (X.blks (blkNs X.N xs) sc s₀ H₀ fp) elt te)
    (I : Inv X pins σ H s) (T : Turn X.prog X.w X.K target J fp it tn) (st : tn 0 s.heap) (hf : ∀ b ∈ fp, FpOk X pins H b) (h : LcW xs.length J g tt te σ H Q)
    (fin : ∀ (D C : Addr) (H' : Hp) (s' : Shared) (m : Str → Option Value), Inv X pins σ H' s' → Q (.ref D) H' → s'.heap.Ns C m → H' C = none → s.heap.objs.size ≤ C → (∀ p ∈ X.pn ++ pins, p.1 ≠ C) → C ≠ X.env.locals → (∀ y c, X.env.cells.lookup y = some c → c ≠ C) → compPost (model X.prog X.w) X.A X.xe use QQ (.ref D) C (.ok .next) s') :
    wpAny (model X.prog X.w) X.A (newList []) (fun acc s₃ => wpAny (model X.prog X.w) X.A (newFunctionEnv sc X.env.globals (clOf X.env.cells sc.names []) [] X.env.qual none .none (some X.env)) (fun cenv s₄ =>
      codeAny (model X.prog X.w) X.A (.compStart (.ListComp elt [⟨target, iter, ifs, 0⟩] sc pos) 0 (.ref it) acc { cenv with scope := relabel sc X.env }) (compPost (model X.prog X.w) X.A X.xe use QQ acc cenv.locals) s₄) X.xe s₃) X.xe s := by
  refine wpAny_newObj_type ?_
  have hD : H s.heap.objs.size = none := I.hok.fresh (Nat.le_refl _)
  obtain ⟨W, ⟨m0, w0⟩, turn⟩ := h s.heap.objs.size hD
  have I2 : Inv X pins σ (upd H s.heap.objs.size (.lst [])) { s with heap := s.heap.push { cls := .type "list", data := .seq ([] : List Value).toArray } } := I.lnew (t' := s.toks) .nil (Nat.zero_le _)
  have lt0 : ∀ b ∈ fp, b < s.heap.objs.size := fun b hb => by
    obtain ⟨o, e, _⟩ := T.obj 0 s.heap st b hb
    exact Heap.lt_size e
  have hf2 : ∀ b ∈ fp, FpOk X pins (upd H s.heap.objs.size (.lst [])) b := fun b hb => by
    obtain ⟨f0, f⟩ := hf b hb
    exact ⟨by rw [upd_ne (Nat.ne_of_lt (lt0 b hb))]; exact f0, f⟩
  have st2 : tn 0 (s.heap.push { cls := .type "list", data := .seq ([] : List Value).toArray }) := T.keep 0 _ _ st fun b _ o e => Heap.get?_push_of_some _ e
  generalize hs2 : ({ s with heap := s.heap.push { cls := .type "list", data := .seq ([] : List Value).toArray } } : Shared) = s2 at I2
  have eh : s2.heap = s.heap.push { cls := .type "list", data := .seq ([] : List Value).toArray } := by rw [← hs2]
  have lt2 : ∀ b ∈ fp, b < s2.heap.objs.size := fun b hb => by rw [eh, Heap.size_push]; exact Nat.lt_succ_of_lt (lt0 b hb)
  rw [← eh] at st2
  have le2 : s.heap.objs.size ≤ s2.heap.objs.size := by rw [eh, Heap.size_push]; exact Nat.le_succ _
  show wpAny _ _ _ _ _ s2
  refine newEnv_lc ?_
  rw [cellsFrom_none L.noC, pushCells_none L.noC]
  have hns₁ : (s2.heap.push { cls := .type "dict", data := .dict #[] }).Ns s2.heap.objs.size _ := Heap.Ns.new s2.heap (.type "dict")
  have keep : ∀ b o, s2.heap.get? b = some o → (s2.heap.push { cls := .type "dict", data := .dict #[] }).get? b = some o := fun b o e => Heap.get?_push_of_some _ e
  generalize s2.heap.push { cls := .type "dict", data := .dict #[] } = h₁ at hns₁ keep ⊢
  have J0 : Inv (X.blks (blkNs X.N xs) sc s2 (upd H s.heap.objs.size (.lst [])) fp) [] (σ ++ xs.map fun _ => none) (upd H s.heap.objs.size (.lst [])) { s2 with heap := h₁ } := I2.blks (tk := s2.toks) L hS hf2 lt2 hns₁ keep
  have st3 : tn 0 h₁ := T.keep 0 _ _ st2 fun b _ o e => keep b o e
  have stat : ∀ {H' : Hp}, (∀ b ∈ fp, H' b = none) → ∀ b ∈ fp, FpOk (X.blks (blkNs X.N xs) sc s2 (upd H s.heap.objs.size (.lst [])) fp) [] H' b := fun {H'} hn b hb => by
    have o1 := J0.ok.exf b hb
    exact ⟨hn b hb, o1.1, J0.ok.exfs b hb, .inl hb, o1.2, fun p hp => absurd (show p ∈ ([] : List (Addr × Obj)) from hp) (by simp)⟩
  have loop : codeAny (model X.prog X.w) X.A (.compLoop (.ListComp elt [⟨target, iter, ifs, 0⟩] sc pos) 0 (.ref it) (.ref s.heap.objs.size) (compEnvC sc (clOf X.env.cells sc.names []) s2.heap.objs.size X.env))
      (compPost (model X.prog X.w) X.A X.xe use QQ (.ref s.heap.objs.size) s2.heap.objs.size) { s2 with heap := h₁ } := by
    refine compLoopT (fun n s' => ∃ i ys H' os, os.length = xs.length ∧ Inv (X.blks (blkNs X.N xs) sc s2 (upd H s.heap.objs.size (.lst [])) fp) [] (σ ++ os) H' s' ∧ tn i s'.heap ∧ (∀ b ∈ fp, H' b = none) ∧ W i n ys H') ?_ m0 ⟨0, [], _, xs.map fun _ => none, by simp, J0, st3, fun b hb => (hf2 b hb).1, w0⟩
    rintro n s4 ⟨i, ys, H4, os, los, J4, st4, fr4, w4⟩
    obtain ⟨hD4, tt'⟩ := turn i n ys H4 w4
    rcases tt' with ⟨stop, q⟩ | ⟨go, step⟩
    · refine thn (T.done (X.blks (blkNs X.N xs) sc s2 (upd H s.heap.objs.size (.lst [])) fp) rfl rfl rfl hc i [] s4 _ H4 _ J4 (stat fr4) st4 stop) fun r s5 ⟨hr, J5⟩ => ?_
      subst hr
      have I5 : Inv X pins σ H4 s5 := I2.call' J5.os J5.base J5.hok J5.bare fun b hb => by
        obtain ⟨f0, f1, f2, f3, f4, f5⟩ := hf2 b hb
        exact ⟨f3, f1, f4, f5⟩
      obtain ⟨m5, n5, _⟩ := J5.loc
      exact fin _ _ H4 s5 m5 I5 q n5 J5.free le2 (fun p hp z => by
          have := Heap.lt_size (I2.pin p hp).1
          rw [z] at this
          exact Nat.lt_irrefl _ this) (Nat.ne_of_gt I2.lt) (fun y c e z => by
          obtain ⟨v, o, ho, _⟩ := I2.cell y c e
          have := Heap.lt_size ho
          rw [z] at this
          exact Nat.lt_irrefl _ this)
    · refine thn (T.item (X.blks (blkNs X.N xs) sc s2 (upd H s.heap.objs.size (.lst [])) fp) rfl rfl rfl hc i [] s4 _ H4 _ J4 (stat fr4) st4 go) fun r s5 ⟨u, hr, h5⟩ => ?_
      subst hr
      refine thn h5 fun _ s6 ⟨z, H6, J6, r6, y6, st6, fr6⟩ => ?_
      have J6' := J6.pinned (stat fr6) (T.obj _ _ st6)
      refine thn (hg s2 (upd H s.heap.objs.size (.lst [])) fp _ s6 _ H6 z u _ J6' r6 (step z H6 y6 os los)) fun _ s7 ⟨σ7, H7, J7, ⟨os', e7, l7⟩, t7⟩ => ?_
      subst e7
      refine thn (ht s2 (upd H s.heap.objs.size (.lst [])) fp _ s7 _ H7 _ J7 t7) fun ok s8 ⟨H8, J8, t8⟩ => ?_
      cases ok with
      | false =>
        rw [if_neg Bool.false_ne_true] at t8 ⊢
        obtain ⟨m', hm, w8⟩ := t8
        refine ⟨m', hm, i + 1, ys, _, os', l7, J8.unpinned, T.keep _ _ _ st6 fun b hb o e => (J8.pin (b, o) (List.mem_append_right _ (List.mem_append_right _ (mem_pinsAt hb e)))).1, fun b hb => ?_, w8⟩
        obtain ⟨o', e', _⟩ := T.obj _ _ st6 b hb
        exact (J8.pin (b, o') (List.mem_append_right _ (List.mem_append_right _ (mem_pinsAt hb e')))).2.1
      | true =>
        rw [if_pos rfl] at t8 ⊢
        refine thn (he s2 (upd H s.heap.objs.size (.lst [])) fp _ s8 _ H8 _ J8 t8) fun vv s9 ⟨v, H9, J9, r9, hD9, hz9, m', hm, w9⟩ => ?_
        refine thn (mt_append (X := X.blks (blkNs X.N xs) sc s2 (upd H s.heap.objs.size (.lst [])) fp) _ s9 _ H9 (.ref s.heap.objs.size) [v] (.ref s.heap.objs.size) [vv] (fun _ H' => H' = upd H9 s.heap.objs.size (.lst (ys ++ [v]))) J9 rfl (.cons r9 .nil) ⟨_, ys, v, rfl, rfl, hD9, hz9, rfl⟩) fun _ s10 ⟨_, H10, J10, _, e10⟩ => ?_
        subst e10
        refine ⟨m', hm, i + 1, ys ++ [v], _, os', l7, J10.unpinned, T.keep _ _ _ st6 fun b hb o e => (J10.pin (b, o) (List.mem_append_right _ (List.mem_append_right _ (mem_pinsAt hb e)))).1, fun b hb => ?_, w9⟩
        obtain ⟨o', e', _⟩ := T.obj _ _ st6 b hb
        exact (J10.pin (b, o') (List.mem_append_right _ (List.mem_append_right _ (mem_pinsAt hb e')))).2.1
  refine codeAny_compStart_list loop (T.self _ 0 _ _ _ st3 loop)
theorem pe_lcs {elt iter target : Expr} {ifs : List Expr} {pos : Pos} {ti : TI} {g : TG} {tt : TT} {te : TE} {S : Scope} (hc : X.calm = true) (L : LcScopes S X.N sc xs) (hS : X.env.scope = S) (hi : PI X target iter ti)
    (hg : ∀ (s₀ : Shared) (H₀ : Hp) (fp : List Addr), PG (X.blks (blkNs X.N xs) sc s₀ H₀ fp) target g) (ht : ∀ (s₀ : Shared) (H₀ : Hp) (fp : List Addr), PTs (X.blks (blkNs X.N xs) sc s₀ H₀ fp) ifs tt)
    (he : ∀ (s₀ : Shared) (H₀ : Hp) (fp : List Addr), PE (X.blks (blkNs X.N xs) sc s₀ H₀ fp) elt te) (hs : ∀ x, foldedSetIterable iter X.env x = pure x := by intro _; rfl) :
    PE X (.ListComp elt [⟨target, iter, ifs, 0⟩] sc pos) (tLcs xs.length ti g tt te) := by
  intro pins s σ H Q I h
  rw [eval_ListComp]
  refine wpAny_comprehension_free (use := none) rfl hs (closure_of (I.has_cells L hS)) L.kind L.names (thn (hi pins s σ H _ I h) fun xv s₁ h₁ => thn h₁ fun itv s₂ h₂ => ?_)
  obtain ⟨it, fp, tn, J, H2, rfl, I2, T, st2, f2, q2⟩ := h₂
  refine lcs_core hc L hS hg ht he I2 T st2 f2 q2 ?_
  intro D C H' s' m I' q hn hC hle hp hL hcl
  refine ⟨m, hn, fun h' hs' => ?_⟩
  have I3 : Inv X pins σ H' { s' with heap := h' } := I'.turned (t' := s'.toks) (fun b o hb e => (hs'.2 b hb).trans e) hC hL (.inr (Nat.le_trans I2.sz hle)) hcl hp
  exact ⟨.ref D, H', I3, rfl, q⟩
def g2 (K : PySem.W.Frag) (n : Nat) : TG := gTup K 2 (gCons (gName n) (gCons (gName (n + 1)) gNil))
theorem pg_one {S : Scope} {x : Str} {px : Pos} (L : LcScopes S X.N sc [x]) (s₀ : Shared) (H₀ : Hp) (fp : List Addr) : PG (X.blks (blkNs X.N [x]) sc s₀ H₀ fp) (.Name x px) (gName X.N.length) := by
  refine pg_name L.nd ?_ (.inl (lookup_relabel_local (L.loc x (by simp)))) (.inr (lookup_relabel_local (L.loc x (by simp))))
  show (blkNs X.N [x])[X.N.length]? = some x
  unfold blkNs
  rw [List.getElem?_append_right (by simp)]
  simp
end
end L2
namespace L2
open PySem PySem.Spec PyProof.Rows
theorem lcw_one {n : Nat} {J : It} {te : TE} {σ : St} {H1 : Hp} {Q : VK} (hn : σ.length = n) (h : ∀ D, H1 D = none → ∃ W : Nat → Nat → List V → Hp → Prop, (∃ m, W 0 m [] (upd H1 D (.lst []))) ∧
    ∀ i m ys H', W i m ys H' → H' D = some (.lst ys) ∧ ((J.stop i H' ∧ Q (.ref D) H') ∨ (J.go i H' ∧ ∀ z H2, J.yld i H' z H2 → te (σ ++ [some z]) H2 fun v H3 => H3 D = some (.lst ys) ∧ ys.length < sizeLine ∧ ∃ m', m' < m ∧ W (i + 1) m' (ys ++ [v]) (upd H3 D (.lst (ys ++ [v])))))) :
    LcW 1 J (gName n) tYes te σ H1 Q := by
  subst hn
  intro D hD
  obtain ⟨W, w0, st⟩ := h D hD
  refine ⟨W, w0, fun i m ys H' hw => ?_⟩
  obtain ⟨e, d⟩ := st i m ys H' hw
  refine ⟨e, d.imp id fun ⟨go, yl⟩ => ⟨go, fun z H2 hy os los => ?_⟩⟩
  match os, los with
  | [o], _ =>
    have es : (σ ++ [o]).set σ.length (some z) = σ ++ [some z] := by
      rw [List.set_append_right _ _ (Nat.le_refl _), Nat.sub_self]
      rfl
    show (∃ os' : St, (σ ++ [o]).set σ.length (some z) = σ ++ os' ∧ os'.length = 1) ∧ tYes ((σ ++ [o]).set σ.length (some z)) H2 _
    rw [es]
    exact ⟨⟨[some z], rfl, rfl⟩, iteT (B := ∃ m', m' < m ∧ W (i + 1) m' ys H2) (yl z H2 hy)⟩
section
variable {X : Cx} {sc : Scope} {x : Str}
theorem pe_lc1 {elt iter : Expr} {px pos : Pos} {ti : TI} {te : TE} {S : Scope} (hc : X.calm = true) (L : LcScopes S X.N sc [x]) (hS : X.env.scope = S) (hi : PI X (.Name x px) iter ti)
    (he : ∀ (s₀ : Shared) (H₀ : Hp) (fp : List Addr), PE (X.blks (blkNs X.N [x]) sc s₀ H₀ fp) elt te) (hs : ∀ x, foldedSetIterable iter X.env x = pure x := by intro _; rfl) :
    PE X (.ListComp elt [⟨.Name x px, iter, [], 0⟩] sc pos) (tLc ti te) := by
  intro pins s σ H Q I h
  rw [eval_ListComp]
  refine wpAny_comprehension_free (use := none) rfl hs (closure_of (I.has_cells L hS)) L.kind L.names (thn (hi pins s σ H _ I h) fun xv s₁ h₁ => thn h₁ fun itv s₂ h₂ => ?_)
  obtain ⟨it, fp, tn, J, H2, rfl, I2, T, st2, f2, q2⟩ := h₂
  refine lcs_core hc L hS (pg_one L) (fun _ _ _ => pts_nil) he I2 T st2 f2 (lcw_one I2.len q2) ?_
  intro D C H' s' m I' q hn hC hle hp hL hcl
  refine ⟨m, hn, fun h' hs' => ?_⟩
  have I3 : Inv X pins σ H' { s' with heap := h' } := I'.turned (t' := s'.toks) (fun b o hb e => (hs'.2 b hb).trans e) hC hL (.inr (Nat.le_trans I2.sz hle)) hcl hp
  exact ⟨.ref D, H', I3, rfl, q⟩
end
end L2
namespace L2
open PySem PySem.Spec PyProof.Rows
section
variable {X : Cx} {sc : Scope} {x : Str}
theorem ps_setLc1 {elt iter : Expr} {i : Nat} {y : Str} {px py pos spos : Pos} {ti : TI} {te : TE} {S : Scope} (hN : X.N.Nodup) (hi : X.N[i]? = some y) (hy : Loc X.env.scope y) (hc : X.calm = true) (L : LcScopes S X.N sc [x]) (hS : X.env.scope = S) (hit : PI X (.Name x px) iter ti)
    (he : ∀ (s₀ : Shared) (H₀ : Hp) (fp : List Addr), PE (X.blks (blkNs X.N [x]) sc s₀ H₀ fp) elt te)
    (hsw : swapsWith (.ListComp elt [⟨.Name x px, iter, [], 0⟩] sc pos) (some (.Name y py)) spos.line X.env = pure true := by rfl) (hs : ∀ x, foldedSetIterable iter X.env x = pure x := by intro _; rfl)
    (hf : X.fn y = true ∨ X.env.scope.names.lookup y = some .local := by first | exact .inl rfl | exact .inr rfl | assumption) :
    PS X (.Assign [.Name y py] (.ListComp elt [⟨.Name x px, iter, [], 0⟩] sc pos) spos) (tAsg (tLc ti te) (gName i)) := by
  intro pins s σ H D I h
  rw [exec_Assign_Name_used _ _ _ _ hsw]
  refine wpAny_bind (wpAny_standAt (wpAny_bind ?_))
  show wpAny _ _ (do let _ ← comprehension (.ListComp elt [⟨.Name x px, iter, [], 0⟩] sc pos) sc X.env _ (newList []) false (eval iter X.env) (some (assign (.Name y py) X.env))) _ _ s
  refine wpAny_bind (wpAny_mono (wpAny_comprehension_free (use := some (assign (.Name y py) X.env)) (Q := fun _ s' => SP X pins D .next s') rfl hs (closure_of (I.has_cells L hS)) L.kind L.names
    (thn (hit pins s σ H _ I h) fun xv s₁ h₁ => thn h₁ fun itv s₂ h₂ => ?_)) (fun _ s' hq => wpAny_pure (wpAny_pure hq)) fun _ _ e => e)
  obtain ⟨it, fp, tn, J, H2, rfl, I2, T, st2, f2, q2⟩ := h₂
  refine lcs_core (Q := fun v H' => D.nx (σ.set i (some v)) H') hc L hS (pg_one L) (fun _ _ _ => pts_nil) he I2 T st2 f2 (lcw_one (Q := fun v H' => D.nx (σ.set i (some v)) H') I2.len q2) ?_
  intro D' C H' s' m I' q hn hC hle hp hL hcl
  show wpAny _ _ (assign (.Name y py) X.env (.ref D')) _ _ s'
  refine wpAny_assign_Name (store_ok2 I' hN hi hy (v := .ref D') (u := .ref D') rfl (fun s'' I'' ⟨a, sb, ha⟩ => ?_) hf)
  have nCa : C ≠ a := by
    rcases ha with rfl | ha
    · exact hL
    · exact fun z => hcl y a ha z.symm
  refine ⟨m, hn.sameBut sb nCa, fun h' hs' => ?_⟩
  have I3 : Inv X pins (σ.set i (some (.ref D'))) H' { s'' with heap := h' } := I''.turned (t' := s''.toks) (fun b o hb e => (hs'.2 b hb).trans e) hC hL (.inr (Nat.le_trans I2.sz hle)) hcl hp
  exact ⟨_, H', I3, q⟩
end
end L2
namespace L2
open PySem PySem.Spec PyProof.Rows
section
variable {X : Cx}
theorem ins_call {prog : Program} {w : World} {A : Around} {E : Value → Shared → Prop} {s : Shared} {Q : Value → Shared → Prop} {l : Addr} {arr : Array Value} {n : Nat} {k : Int} {t1 : Tok} {u2 : Value} (hc0 : ¬(!Builtin.List.listFitsIndex k) = true) (hs1 : arr.size ≤ sizeLine)
    (e : s.heap.get? l = some { cls := .type "list", data := .seq arr n }) (h : Q .none { s with heap := s.heap.update l (Obj.mapSeq fun xs => have k := if k < 0 then (k + (xs.size : Int)).toNat else min k.toNat xs.size; (xs.extract 0 k).push u2 ++ xs.extract k), toks := s.toks }) :
    wpAny (model prog w) A (call (.builtin "list.insert") [.ref l, .int k t1, u2]) Q E s :=
  call_meets F.slot_list_insert ⟨_, e, rfl⟩ F.entry_list_insert (F.args_list_insert_3 _ _ _) (PySem.AutoSeq1.list_insert_list_int_val_1 l arr n k t1 u2 hc0 hs1) ⟨e, h⟩
def rInsert : V → List V → Hp → VK → Prop := fun x vs H Q => ∃ (l : Addr) (xs : List V) (k : Nat) (y : V), x = .ref l ∧ vs = [.int (k : Int), y] ∧ H l = some (.lst xs) ∧ k ≤ xs.length ∧ xs.length < sizeLine ∧ Q .non (upd H l (.lst (xs.take k ++ y :: xs.drop k)))
theorem mt_insert : MtM X "list.insert" rInsert := by
  intro pins s σ H x vs v us Q I rx rv h
  obtain ⟨l, xs, k, y, rfl, rfl, hH, hk, hz, q⟩ := h
  cases rx
  obtain ⟨u1, u2, rfl, ⟨t1, rfl⟩, r2⟩ := rv.two
  obtain ⟨z, its, n, r, hl, e⟩ := I.lstM hH
  have hn := line63
  have hf : Builtin.List.listFitsIndex (k : Int) = true := by
    unfold Builtin.List.listFitsIndex
    rw [Bool.and_eq_true, decide_eq_true_iff, decide_eq_true_iff]
    omega
  have hc0 : ¬(!Builtin.List.listFitsIndex (k : Int)) = true := by rw [hf]; decide
  have hs1 : its.toArray.size ≤ sizeLine := by rw [List.size_toArray]; omega
  refine ins_call hc0 hs1 e ?_
  refine ⟨.non, _, I.lset (its' := its.take k ++ u2 :: its.drop k) hH e ?_ ((r.take k).append (.cons r2 (r.drop k))) ?_, rfl, q⟩
  · have e1 : (if ((k : Nat) : Int) < 0 then (((k : Nat) : Int) + (its.toArray.size : Int)).toNat else min ((k : Nat) : Int).toNat its.toArray.size) = k := by
      rw [if_neg (by omega), Int.toNat_natCast, List.size_toArray]
      omega
    dsimp only
    rw [e1]
    apply Array.ext'
    simp
    exact List.take_of_length_le (by rw [List.length_drop]; exact Nat.le_refl _)
  · rw [List.length_append, List.length_cons, List.length_take, List.length_drop]
    omega
end
end L2
namespace L2
open PySem PySem.Spec PyProof.Rows
theorem dict_mapFields (o : Obj) (f : Array Value → Array Value) : (o.mapFields f).dict = o.dict := by
  unfold Obj.mapFields
  split <;> rfl
structure TrD (h base : Heap) (e : Addr) (cls : Value) (dd : Option Addr) (fl : Value) : Prop where
  ex : ∃ oe vs T oT ts, (h.get? e = some oe ∧ oe.cls = cls ∧ oe.dict = dd ∧ oe.data = .fields vs) ∧ vs[1]? = some (.ref T) ∧ base.get? T = none ∧ T ≠ e ∧ (h.get? T = some oT ∧ oT.data = .fields ts) ∧ ts[3]? = some fl ∧ (dd ≠ none → vs[2]? = some .none)
structure FlyD (base : Heap) (l : List Env) (e : Addr) (cls : Value) (dd : Option Addr) (fl : Value) (h : Heap) : Prop where
  stay : base.StaysIn h
  new : base.get? e = none
  frm : h.FunFrames base l
  tr : TrD h base e cls dd fl
section
variable {M : Model} {A : Around} {E : Value → Shared → Prop} {s : Shared} {base : Heap} {env : Env} {outer : List Env} {L e : Addr} {cls : Value} {dd : Option Addr}
theorem entryD {oe : Obj} {vs : Array Value} {head : Value} {had : Bool} {Q : Unit → Shared → Prop} (hA : A.frames = some (env :: outer)) (hl : s.heap.FunFrames base (env :: outer)) (hf : env.frame = some L)
    (he : s.heap.get? e = some oe) (hk : base.StaysIn s.heap) (hn : base.get? e = none) (hd : oe.data = .fields vs) (hz : 1 < vs.size) (hcx : oe.dict ≠ none → vs[2]? = some .none)
    (q : ∀ h', FlyD base (env :: outer) e oe.cls oe.dict (rawInt L) h' → s.heap.UpToSlots h' → Q () { s with heap := h' }) :
    wpAny M A (frameOf env >>= fun a => entryPlaceOf L had >>= fun pl => EntryCells.newEntry head a .none (rawInt L) .none pl >>= fun b => setField (.ref e) 1 b) Q E s := by
  have out : ∀ b o, s.heap.get? b = some o → (∀ ws, o.data ≠ .fields ws) → b ≠ e := fun b o ho hx z => by
    rw [z, he] at ho
    cases ho
    exact hx _ hd
  refine wpAny_bind (wpAny_frameOf_fun hA hl hf fun h1 so => wpAny_bind (wpAny_entryPlaceOf fun pl hp => ?_))
  have e1 : h1.get? e = some oe := by
    rw [so.2.1 e fun hm => ?_]
    · exact he
    · obtain ⟨_, o, ho, hx⟩ := hl.mem hm
      exact out e o ho hx rfl
  have k1 : base.StaysIn h1 := fun b o ho => by
    rw [so.2.1 b fun hm => by rw [(hl.mem hm).1] at ho; cases ho]
    exact hk b o ho
  unfold EntryCells.newEntry newFields
  refine wpAny_bind (wpAny_newObj_type ?_ (hp.sizeOk5 _ _ _ _ _))
  generalize hts : ([head, .ref L, .none, rawInt L, .none] ++ (if pl.isEmpty then List.replicate 6 Value.none else pl)).toArray = ts
  have t3 : ts[3]? = some (rawInt L) := by
    rw [← hts]
    rcases hp with rfl | ⟨_, _, _, _, _, _, _, rfl⟩ <;> simp
  have e2 : (h1.push { cls := .type "traceback", data := .fields ts }).get? e = some oe := Heap.get?_push_of_some _ e1
  have T2 : (h1.push { cls := .type "traceback", data := .fields ts }).get? h1.objs.size = some { cls := .type "traceback", data := .fields ts } := Heap.get?_push_size h1 rfl
  have nT : h1.objs.size ≠ e := Nat.ne_of_gt (Heap.lt_size e1)
  refine wpAny_setField e2 hd hz (q _ ⟨?_, hn, ?_, ?_⟩ ?_)
  · intro b o ho
    have : e ≠ b := fun z => by rw [← z, hn] at ho; cases ho
    rw [Heap.get?_update_other _ _ this]
    exact Heap.get?_push_of_some _ (k1 b o ho)
  · refine hl.of_keeps fun b o ho hx => ?_
    obtain ⟨sl, z⟩ := so.2.2 b o ho
    refine ⟨_, (Heap.get?_update_other _ _ (Ne.symm (out b o ho hx))).trans (Heap.get?_push_of_some _ z), rfl⟩
  · have d3 := Obj.data_mapFields hd fun ws => ws.setIfInBounds 1 (Value.ref h1.objs.size)
    refine ⟨_, _, h1.objs.size, _, ts, ⟨Heap.get?_update_self _ e2 (Obj.isFreed_of_fields d3), Obj.cls_mapFields _ _, dict_mapFields _ _, d3⟩, by simp [hz], k1.fresh, nT, ⟨(Heap.get?_update_other _ _ (Ne.symm nT)).trans T2, rfl⟩, t3, fun z => by rw [Array.getElem?_setIfInBounds_ne (by decide)]; exact hcx z⟩
  · intro b o ho hx
    obtain ⟨sl, z⟩ := so.2.2 b o ho
    exact ⟨sl, (Heap.get?_update_other _ _ (Ne.symm (out b o ho hx))).trans (Heap.get?_push_of_some _ z)⟩
theorem noteD0 {oe : Obj} {vs : Array Value} {Q : Unit → Shared → Prop} (hA : A.frames = some (env :: outer)) (hl : s.heap.FunFrames base (env :: outer)) (hf : env.frame = some L)
    (he : s.heap.get? e = some oe) (hk : base.StaysIn s.heap) (hn : base.get? e = none) (hd : oe.data = .fields vs) (h1 : vs[1]? = some .none) (hcx : oe.dict ≠ none → vs[2]? = some .none)
    (q : ∀ h', FlyD base (env :: outer) e oe.cls oe.dict (rawInt L) h' → s.heap.UpToSlots h' → Q () { s with heap := h' }) : wpAny M A (noteFrame (.ref e) env) Q E s := by
  unfold noteFrame
  rw [hf]
  refine wpAny_bind (wpAny_field he hd h1 ?_)
  exact entryD hA hl hf he hk hn hd (Array.getElem?_eq_some_iff.mp h1).1 hcx q
theorem noteD {Q : Unit → Shared → Prop} (hA : A.frames = some (env :: outer)) (hf : env.frame = some L) (fl : FlyD base (env :: outer) e cls dd .none s.heap)
    (q : ∀ h', FlyD base (env :: outer) e cls dd (rawInt L) h' → s.heap.UpToSlots h' → Q () { s with heap := h' }) : wpAny M A (noteFrame (.ref e) env) Q E s := by
  obtain ⟨oe, vs, T, oT, ts, ⟨he, hc, hdd, hd⟩, h1, nb, nT, ⟨hT, hdT⟩, h3, hcx⟩ := fl.tr.ex
  subst hc hdd
  unfold noteFrame
  rw [hf]
  refine wpAny_bind (wpAny_field he hd h1 ?_)
  rw [if_pos (by simp)]
  refine wpAny_bind (wpAny_field hT hdT h3 ?_)
  rw [if_neg (by simp [rawInt])]
  refine wpAny_bind (wpAny_setField hT hdT (Array.getElem?_eq_some_iff.mp h3).1 ?_)
  have oth : ∀ b, b ≠ T → (s.heap.update T (Obj.mapFields (·.setIfInBounds 3 Value.none))).get? b = s.heap.get? b := fun b hb => Heap.get?_update_other _ _ (Ne.symm hb)
  have out : ∀ b o, s.heap.get? b = some o → (∀ ws, o.data ≠ .fields ws) → b ≠ T := fun b o ho hx z => by
    rw [z, hT] at ho
    cases ho
    exact hx _ hdT
  refine entryD hA (fl.frm.of_keeps fun b o ho hx => ⟨o, (oth b (out b o ho hx)).trans ho, rfl⟩) hf ((oth e (Ne.symm nT)).trans he) (fun b o ho => ?_) fl.new hd (Array.getElem?_eq_some_iff.mp h1).1 hcx fun h' f' u => q h' f' fun b o ho hx => u b o ((oth b (out b o ho hx)).trans ho) hx
  have : b ≠ T := fun z => by rw [z, nb] at ho; cases ho
  exact (oth b this).trans (fl.stay b o ho)
theorem flightD {l : List Env} {v : Value} {Q : Unit → Shared → Prop} (fl : FlyD base l e cls dd v s.heap) (q : ∀ h', FlyD base l e cls dd .none h' → s.heap.UpToSlots h' → Q () { s with heap := h' }) : wpAny M A (setFlight (.ref e) none) Q E s := by
  obtain ⟨oe, vs, T, oT, ts, ⟨he, hc, hdd, hd⟩, h1, nb, nT, ⟨hT, hdT⟩, h3, hcx⟩ := fl.tr.ex
  have hz := (Array.getElem?_eq_some_iff.mp h3).1
  have out : ∀ b o, s.heap.get? b = some o → (∀ ws, o.data ≠ .fields ws) → T ≠ b := fun b o ho hx z => by
    rw [← z, hT] at ho
    cases ho
    exact hx _ hdT
  unfold setFlight
  refine wpAny_bind (wpAny_field he hd h1 ?_)
  rw [if_pos (by simp)]
  refine wpAny_setField hT hdT hz (q _ ⟨fun b o ho => ?_, fl.new, fl.frm.of_keeps fun b o ho hx => ⟨o, (Heap.get?_update_other _ _ (out b o ho hx)).trans ho, rfl⟩, ?_⟩ fun b o ho hx => ⟨o.slots, (Heap.get?_update_other _ _ (out b o ho hx)).trans ho⟩)
  · have : T ≠ b := fun z => by rw [← z, nb] at ho; cases ho
    exact (Heap.get?_update_other _ _ this).trans (fl.stay b o ho)
  · have d3 := Obj.data_mapFields hdT fun ws => ws.setIfInBounds 3 Value.none
    exact ⟨oe, vs, T, _, _, ⟨(Heap.get?_update_other _ _ nT).trans he, hc, hdd, hd⟩, h1, nb, nT, ⟨Heap.get?_update_self _ hT (Obj.isFreed_of_fields d3), d3⟩, by simp [hz], hcx⟩
theorem FlyD.pop {v : Value} {h : Heap} (x : FlyD base (env :: outer) e cls dd v h) : FlyD base outer e cls dd v h := ⟨x.stay, x.new, x.frm.2.2, x.tr⟩
theorem leaveD0 {oe : Obj} {vs : Array Value} {Q : Unit → Shared → Prop} (hA : A.frames = some (env :: outer)) (hl : s.heap.FunFrames base (env :: outer)) (hf : env.frame = some L)
    (he : s.heap.get? e = some oe) (hk : base.StaysIn s.heap) (hn : base.get? e = none) (hd : oe.data = .fields vs) (h1 : vs[1]? = some .none) (hcx : oe.dict ≠ none → vs[2]? = some .none)
    (q : ∀ h', FlyD base outer e oe.cls oe.dict .none h' → s.heap.UpToSlots h' → Q () { s with heap := h' }) : wpAny M A (leaving env (.ref e)) Q E s := by
  unfold leaving
  exact wpAny_bind (noteD0 hA hl hf he hk hn hd h1 hcx fun h' f' u => flightD f' fun h'' f'' u' => q h'' f''.pop (u.trans u'))
end
end L2
namespace L2
open PySem PySem.Spec PyProof.Rows
abbrev bmV : List Value := [.type "ValueError", .type "Exception", .type "BaseException", .type "object"]
structure Exc (K : PySem.W.Frag) (C : Addr) (bm : List Value) : Prop where
  ok : PySem.W.excIn K C bmV "ValueError.__new__" = true
  mro : ∃ oc od cd sl, K.lookup C = some ⟨oc, od, .cls cd, sl⟩ ∧ cd.mro = .ref C :: bm
  ga : PySem.W.findIn K (.ref C) "__getattribute__" = some (some (.builtin "BaseException.__getattribute__"))
  gt : PySem.W.findIn K (.ref C) "__getattr__" = some none
  cl : PySem.W.findIn K (.ref C) "__class__" = some (some (.builtin "object.__class__"))
structure ExcC (h : Heap) (C : Addr) (bm : List Value) : Prop where
  ob : ∃ N nm qn bs hd sn sub ab col dd k0 k1 k2 k3 k5 mN, h.get? C = some (excClassObj nm qn C N bs bm hd sn sub ab col dd k0 k1 k2 k3 k5 "ValueError.__new__") ∧ h.Ns N mN ∧ mN "__init__" = none ∧ OwnTail h bmV bm
theorem Exc.at {K : PySem.W.Frag} {C : Addr} {bm : List Value} (Z : Exc K C bm) {h : Heap} (X : K.In h) : ExcC h C bm := by
  obtain ⟨oc, od, cd, sl, lk, hm⟩ := Z.mro
  have q := Z.ok
  unfold PySem.W.excIn at q
  rw [lk] at q
  split at q
  case h_2 => cases q
  case h_1 e =>
    injection e with e
    injection e with e1 e2 e3 e4
    injection e3 with e3
    subst e1 e2 e3 e4
    split at q
    case h_2 => cases q
    case h_1 C' bm' k0 k1 k2 k3 n k5 hm' hs =>
      simp only [Bool.and_eq_true, beq_iff_eq, Bool.not_eq_true'] at q
      obtain ⟨⟨⟨⟨⟨r1, r2⟩, r3⟩, r4⟩, r5⟩, r6⟩ := q
      rw [hm] at hm'
      injection hm' with g1 g2
      subst g2 r2
      have hsl : sl = #[k0, k1, k2, k3, some (.builtin "ValueError.__new__"), k5] := by
        obtain ⟨l⟩ := sl
        simp only at hs
        rw [hs]
      subst hsl
      obtain ⟨nm, bs, mro, ns, qn, hd, sn, sub, ab, col, del⟩ := cd
      dsimp only at hm r3 r5 r6
      subst hm r3
      exact ⟨ns, nm, qn, bs, hd, sn, sub, ab, col, od, k0, k1, k2, k3, k5, _, X _ _ lk, .of_isNs (PySem.W.isNs_of_in X r5), PySem.W.nsMap_none_of_in X r5 r6, PySem.W.tail_of_in X r4⟩
structure ExcW (K : PySem.W.Frag) (C : Addr) (bm : List Value) : Prop where
  ob : ∀ h : Heap, K.In h → ∃ nm qn N bs hd sn sub ab col dd k0 k1 k2 k3 k5, h.get? C = some (excClassObj nm qn C N bs bm hd sn sub ab col dd k0 k1 k2 k3 k5 "ValueError.__new__") ∧ OwnTail h bmV bm
  ga : PySem.W.findIn K (.ref C) "__getattribute__" = some (some (.builtin "BaseException.__getattribute__"))
  gt : PySem.W.findIn K (.ref C) "__getattr__" = some none
  cl : PySem.W.findIn K (.ref C) "__class__" = some (some (.builtin "object.__class__"))
theorem Exc.w {K : PySem.W.Frag} {C : Addr} {bm : List Value} (Z : Exc K C bm) : ExcW K C bm := by
  refine ⟨fun h X => ?_, Z.ga, Z.gt, Z.cl⟩
  obtain ⟨N, nm, qn, bs, hd, sn, sub, ab, col, dd, k0, k1, k2, k3, k5, mN, hC, hN, hni, T⟩ := (Z.at X).ob
  exact ⟨_, _, _, _, _, _, _, _, _, _, _, _, _, _, _, hC, T⟩
structure ExcI (K : PySem.W.Frag) (C CK fI : Addr) : Prop where
  lk : ∃ nm qn N bs sn sub ab col dd k0 k1 k2 k3 k5, K.lookup C = some (excClassObj nm qn C N bs (.ref CK :: bmV) true sn sub ab col dd k0 k1 k2 k3 k5 "ValueError.__new__") ∧ PySem.W.nsOkIn K N = true ∧ PySem.W.nsIn K N "__init__" = some (some (.ref fI))
  bs : Exc K CK bmV
  ga : PySem.W.findIn K (.ref C) "__getattribute__" = some (some (.builtin "BaseException.__getattribute__"))
  gt : PySem.W.findIn K (.ref C) "__getattr__" = some none
  cl : PySem.W.findIn K (.ref C) "__class__" = some (some (.builtin "object.__class__"))
  sa : PySem.W.findIn K (.ref C) "__setattr__" = some (some (.builtin "object.__setattr__"))
  fn : PySem.W.isFn K (.ref fI) = true
theorem ns_some_of {K : PySem.W.Frag} {h : Heap} {N : Addr} {m : Str → Option Value} {x : Str} {v : Value} (X : K.In h) (G : h.Ns N m) (e : PySem.W.nsIn K N x = some (some v)) : m x = some v := by
  obtain ⟨o, es, ep, ho, hd, _, hf⟩ := G
  unfold PySem.W.nsIn at e
  split at e
  case h_2 => cases e
  case h_1 q =>
    have z := X _ _ q
    rw [ho] at z
    cases z
    cases hd
    split at e
    case h_1 he =>
      cases e
      rw [← hf]
      unfold nsFind findBy
      rw [← Array.find?_toList, he]
      rfl
    case h_2 => split at e <;> cases e
theorem ExcI.at {K : PySem.W.Frag} {C CK fI : Addr} (Z : ExcI K C CK fI) {h : Heap} (X : K.In h) : ∃ nm qn N bs sn sub ab col dd k0 k1 k2 k3 k5 mN, h.get? C = some (excClassObj nm qn C N bs (.ref CK :: bmV) true sn sub ab col dd k0 k1 k2 k3 k5 "ValueError.__new__") ∧ h.Ns N mN ∧ mN "__init__" = some (.ref fI) ∧ OwnTail h bmV (.ref CK :: bmV) := by
  obtain ⟨nm, qn, N, bs, sn, sub, ab, col, dd, k0, k1, k2, k3, k5, lk, r1, r2⟩ := Z.lk
  obtain ⟨N', _, _, _, _, _, _, _, _, _, _, _, _, _, _, mN', hC', hN', hni', T'⟩ := (Z.bs.at X).ob
  have G : h.Ns N (h.nsMap N) := .of_isNs (PySem.W.isNs_of_in X r1)
  exact ⟨nm, qn, N, bs, sn, sub, ab, col, dd, k0, k1, k2, k3, k5, _, X _ _ lk, G, ns_some_of X G r2, .own hC' hN' hni' .base⟩
theorem ExcI.w {K : PySem.W.Frag} {C CK fI : Addr} (Z : ExcI K C CK fI) : ExcW K C (.ref CK :: bmV) := by
  refine ⟨fun h X => ?_, Z.ga, Z.gt, Z.cl⟩
  obtain ⟨nm, qn, N, bs, sn, sub, ab, col, dd, k0, k1, k2, k3, k5, mN, hC, _, _, T⟩ := Z.at X
  exact ⟨_, _, _, _, _, _, _, _, _, _, _, _, _, _, _, hC, T⟩
def ExcO (a C : Addr) (dd : Option Addr) (h : Heap) : Prop := ∃ o vs, h.get? a = some o ∧ o.cls = .ref C ∧ o.dict = dd ∧ o.data = .fields vs ∧ (dd ≠ none → vs[2]? = some .none)
section
variable {prog : Program} {w : World} {A : Around} {E : Value → Shared → Prop} {h : Heap} {g : Array GenState} {d : Drawn} {t : Nat} {os : OsState} {a C : Addr} {o : Obj} {bm : List Value} {K : PySem.W.Frag}
theorem xcls_get {R : Result → Shared → Prop} (Z : ExcW K C bm) (X : K.In h) (hx : h.get? a = some o) (hc : o.cls = .ref C) (hq : R (.ok (.ret (.ref C))) ⟨h, g, d, t, os⟩) :
    codeAny (model prog w) A (.call (.builtin "getset_descriptor.__get__") ⟨[.builtin "object.__class__", .ref a, .ref C], []⟩) R ⟨h, g, d, t, os⟩ := by
  obtain ⟨nm, qn, N, bs, hd, sn, sub, ab, col, dd, k0, k1, k2, k3, k5, hC, T⟩ := Z.ob _ X
  have hT5 : (⟨h, g, d, t, os⟩ : Shared).TypeIs (.builtin "object.__class__") "getset_descriptor" := F.typeOf_object_class
  have hcB : (Value.ref C :: bm).contains (.type (".".intercalate ("object.__class__".cutAt '.').dropLast)) = true := by
    rw [F.owner_object_class, List.contains_cons, T.hasType (b := true) (by rfl)]
    rfl
  refine codeAny_call_builtin F.slot_gs_get.plain F.entry_gs_get (F.slot_gs_get.check _ _ _ _ _ _ _ _ hT5 (F.args_gs_get _ _ _) ?_)
  repeat (any_goals (first | assumption | (with_reducible refine wpAny_loadPart_at hx ?_; rw [hc]) | (with_reducible refine wpAny_isSubtype_exc hC ?_; rw [hcB]) | wp_step))
  refine ⟨Code.quiet_builtin _ (by decide +kernel), codeAny_builtin F.entry_object_class ?_⟩
  repeat (any_goals (first | assumption | (with_reducible refine wpAny_loadPart_at hx ?_; rw [hc]) | wp_step))
theorem xcls_entry {tk : Tok} {Q : Fin → Shared → Prop} (Z : ExcW K C bm) (X : K.In h) (hx : h.get? a = some o) (hc : o.cls = .ref C) (hq : Q (.done (.ret (.ref C))) ⟨h, g, d, t, os⟩) :
    wpAny (model prog w) A (Builtin.«object.__getattribute__» ⟨[.ref a, .str "__class__" tk], []⟩) Q E ⟨h, g, d, t, os⟩ := by
  have hT5 : (⟨h, g, d, t, os⟩ : Shared).TypeIs (.builtin "object.__class__") "getset_descriptor" := F.typeOf_object_class
  have f5 := F.typeOf_object_class
  have f6 := F.slot_gs_get.lookup
  have f7 := F.slot_gs_set.lookup
  have LK : ∀ M : Model, PySem.W.Looks M h (typeLookup (.ref C) "__class__") (some (.builtin "object.__class__")) := fun M => PySem.W.looks_findIn X Z.cl
  repeat (any_goals (first | assumption | (with_reducible refine wpAny_loadPart_at hx ?_; rw [hc]) | with_reducible refine (LK _).at ?_ | wp_step))
  refine xcls_get Z X hx hc ?_
  repeat (any_goals (first | assumption | wp_step))
theorem xcls_check {M : Model} {nameV : Value} {Q : Unit → Shared → Prop} (Z : ExcW K C bm) (X : K.In h) (hx : h.get? a = some o) (hc : o.cls = .ref C) (hq : Q () ⟨h, g, d, t, os⟩) : wpAny M A (checkBuiltinCall "BaseException.__getattribute__" ⟨[.ref a, nameV], []⟩) Q E ⟨h, g, d, t, os⟩ := by
  obtain ⟨nm, qn, N, bs, hd, sn, sub, ab, col, dd, k0, k1, k2, k3, k5, hC, T⟩ := Z.ob _ X
  have hk : builtinKind "BaseException.__getattribute__" = some .slot := by decide +kernel
  have hsplit : splitId "BaseException.__getattribute__" = some ("BaseException", "__getattribute__") := by decide +kernel
  have hcB : (Value.ref C :: bm).contains (.type "BaseException") = true := by rw [List.contains_cons, T.hasType (b := true) (by rfl)]; rfl
  have ha := F.args_bexc_ga (.ref a) nameV
  simp only [checkBuiltinCall, hk, hsplit]
  refine wpAny_bind ?_
  unfold isInstance
  repeat (first | (with_reducible refine wpAny_loadPart_at hx ?_; rw [hc]) | (with_reducible refine wpAny_isSubtype_exc hC ?_; rw [hcB]) | wp_step)
  exact hq
theorem xcls_by {tk : Tok} {Q : Value → Shared → Prop} (Z : ExcW K C bm) (X : K.In h) (hx : h.get? a = some o) (hc : o.cls = .ref C) (hq : Q (.ref C) ⟨h, g, d, t, os⟩) :
    wpAny (model prog w) A (getAttrBy (.ref a) (.str "__class__" tk) false) Q E ⟨h, g, d, t, os⟩ := by
  have FB := F.attrBase_ValueError
  have f3 := FB.ga.bind (.ref a)
  have hx2 : (Value.builtin "BaseException.__getattribute__" == Value.builtin "object.__getattribute__") = false := by decide +kernel
  have hx1 : (onTheHeap (Value.ref C) && Value.builtin "BaseException.__getattribute__" == Value.builtin "object.__getattribute__") = false := by rw [hx2]; rfl
  have L1 : ∀ M : Model, PySem.W.Looks M h (typeLookup (.ref C) "__getattribute__") (some (.builtin "BaseException.__getattribute__")) := fun M => PySem.W.looks_findIn X Z.ga
  have L2 : ∀ M : Model, PySem.W.Looks M h (typeLookup (.ref C) "__getattr__") none := fun M => PySem.W.looks_findIn X Z.gt
  repeat (any_goals (first | assumption | (with_reducible refine wpAny_loadPart_at hx ?_; rw [hc]) | with_reducible refine (L1 _).at ?_ | with_reducible refine (L2 _).at ?_ | wp_step))
  refine codeAny_call_builtin FB.ga.plain F.entry_bexc_ga (xcls_check Z X hx hc (xcls_entry Z X hx hc ?_))
  repeat (any_goals (first | assumption | wp_step))
theorem xcls_attr {Q : Option Value → Shared → Prop} (Z : ExcW K C bm) (X : K.In h) (hx : h.get? a = some o) (hc : o.cls = .ref C) (hq : Q (some (.ref C)) ⟨h, g, d, t + 1, os⟩) : wpAny (model prog w) A (getAttr? (.ref a) "__class__") Q E ⟨h, g, d, t, os⟩ := by
  unfold getAttr? getAttrBy?
  repeat (any_goals (first | assumption | with_reducible apply xcls_by Z X hx hc | wp_step))
end
end L2
namespace L2
open PySem PySem.Spec PyProof.Rows
abbrev tupO (vs : List Value) : Obj := { cls := .type "tuple", data := .seq vs.toArray }
abbrev rawX (C t : Addr) : Obj := { cls := .ref C, data := .fields #[.ref t, .none, .none, .none, .bool false, .none] }
section
variable {prog : Program} {w : World} {A : Around} {E : Value → Shared → Prop} {h : Heap} {g : Array GenState} {d : Drawn} {t : Nat} {os : OsState} {K : PySem.W.Frag} {C CK fI : Addr}
theorem tcallX (Z : ExcI K C CK fI) (X : K.In h) {us : List Value} {Q : Fin → Shared → Prop} (hz : us.length ≤ sizeLine)
    (hq : wpAny (model prog w) A (call (.ref fI) (.ref (h.objs.size + 1) :: us)) (fun r s' => r = .none ∧ Q (.done (.ret (.ref (h.objs.size + 1)))) s') E ⟨(h.push (tupO us)).push (rawX C h.objs.size), g, d, t, os⟩) :
    wpAny (model prog w) A (Builtin.«type.__call__» ⟨.ref C :: us, []⟩) Q E ⟨h, g, d, t, os⟩ := by
  obtain ⟨nm, qn, N, bs, sn, sub, ab, col, dd, k0, k1, k2, k3, k5, mN, hC, hN, hi, T⟩ := Z.at X
  have V := F.excBase_ValueError
  have kp : ∀ b o, h.get? b = some o → ((h.push (tupO us)).push (rawX C h.objs.size)).get? b = some o := fun b o e => Heap.get?_push_of_some _ (Heap.get?_push_of_some _ e)
  have hC' := kp _ _ hC
  have hx : ((h.push (tupO us)).push (rawX C h.objs.size)).get? (h.objs.size + 1) = some (rawX C h.objs.size) := by heap_get
  have cC : (Value.ref C :: .ref CK :: bmV).contains (.ref C) = true := by simp
  have bf := PySem.W.bind_fn (M := model prog w) (X.keeps kp) (.ref (h.objs.size + 1)) (beq_iff_eq.mp Z.fn)
  repeat (first | (with_reducible refine wpAny_loadPart_at hC ?_) | (with_reducible refine wpAny_madeBy_exc hC ?_) | wp_step)
  refine codeAny_call_builtin_code (Code.quiet_builtin _ V.quiet)
    (wpAny_check_new_subT V T hC (codeAny_exc_new_subT V T hC ?_ hz))
  show wpAny _ _ _ _ _ _
  unfold isInstance
  repeat (first | (with_reducible refine wpAny_loadPart_at hx ?_) | (with_reducible refine wpAny_isSubtype_exc hC' ?_; rw [cC]) | wp_step)
  show wpAny _ _ (typeLookup (.ref C) "__init__") _ _ _
  refine wpAny_typeLookup_tail hC' (hN.keeps kp) (T.keeps kp) V.mroIs V.init.lookup ?_
  rw [hi]
  refine wpAny_holding (wpAny_bind (bf.at (wpAny_bind (wpAny_mono hq (fun r s' z => ?_) fun _ _ z => z))))
  obtain ⟨rfl, z⟩ := z
  wp_walk
  exact z
theorem callX (Z : ExcI K C CK fI) (X : K.In h) {us : List Value} {Q : Value → Shared → Prop} (hz : us.length ≤ sizeLine)
    (hq : wpAny (model prog w) (A.under (.builtin "type.__call__" ⟨.ref C :: us, []⟩)) (call (.ref fI) (.ref (h.objs.size + 1) :: us)) (fun r s' => r = .none ∧ Q (.ref (h.objs.size + 1)) s') E ⟨(h.push (tupO us)).push (rawX C h.objs.size), g, d, t, os⟩) :
    wpAny (model prog w) A (call (.ref C) us) Q E ⟨h, g, d, t, os⟩ := by
  obtain ⟨nm, qn, N, bs, sn, sub, ab, col, dd, k0, k1, k2, k3, k5, mN, hC, hN, hi, T⟩ := Z.at X
  have a1 := tc_lookup
  have a2 := tc_bind (.ref C)
  have a3 : (⟨h, g, d, t, os⟩ : Shared).TypeIs (.ref C) "type" := ⟨_, hC, rfl⟩
  refine wpAny_call (codeAny_of_tree ?_)
  show wpAny _ _ (callAny (.ref C) ⟨us, []⟩) _ _ _
  repeat (any_goals (first | assumption | (with_reducible refine wpAny_loadPart_at hC ?_) | wp_step))
  refine ⟨rfl, codeAny_call_builtin_at (Code.quiet_builtin _ (by decide +kernel)) entry_typeCall
    (wpAny_check_type_call_sub hC (tcallX Z X hz hq))⟩
end
end L2
namespace L2
open PySem PySem.Spec PyProof.Rows
def RawX (a C : Addr) (dd : Option Addr) (h : Heap) : Prop := ∃ t0 : Addr, h.get? a = some ⟨.ref C, dd, .fields #[.ref t0, .none, .none, .none, .bool false, .none], #[]⟩
theorem refuse_bmV (self : Value) : refuseLoop self "__setattr__" bmV = pure () := by kernel_rfl
section
variable {prog : Program} {w : World} {A : Around} {E : Value → Shared → Prop} {s : Shared} {K : PySem.W.Frag} {C CK fI x : Addr} {name : Str} {v : Value}
theorem ExcI.cd (Z : ExcI K C CK fI) : ∃ cd, PySem.W.clsIn K C = some cd ∧ cd.mro = .ref C :: .ref CK :: bmV ∧ cd.hasDict = true := by
  obtain ⟨nm, qn, N, bs, sn, sub, ab, col, dd, k0, k1, k2, k3, k5, lk, _⟩ := Z.lk
  have e : PySem.W.clsIn K C = some { name := nm, bases := bs, mro := .ref C :: .ref CK :: bmV, ns := N, qualname := qn, hasDict := true, slotNames := sn, subclasses := sub, abstract := ab, collection := col, hasDel := false } := by
    unfold PySem.W.clsIn
    rw [lk]
  exact ⟨_, e, rfl, rfl⟩
theorem setX {Q : Unit → Shared → Prop} (Z : ExcI K C CK fI) (X : K.In s.heap) (hx : RawX x C none s.heap) (hp : PySem.W.findIn K (.ref C) name = some none)
    (q : ∀ h', h'.Ns1 s.heap.objs.size (fun y => if y = name then some v else none) → RawX x C (some s.heap.objs.size) h' → (∀ b o, b ≠ x → s.heap.get? b = some o → h'.get? b = some o) → Q () { s with heap := h', toks := s.toks + 2 }) :
    wpAny (model prog w) A (setAttr (.ref x) name v) Q E s := by
  obtain ⟨t0, ho⟩ := hx
  generalize hvs : (#[.ref t0, .none, .none, .none, .bool false, .none] : Array Value) = vs at ho
  obtain ⟨cd, hc, hm, hd⟩ := Z.cd
  have J : PySem.W.InstAt s.heap x ⟨.ref C, none, .fields vs, #[]⟩ C none := ⟨ho, rfl, rfl, trivial⟩
  have SO := PySem.F.store_object
  have isO : PySem.W.Looks (model prog w) s.heap (isInstance (.ref x) (.type "object")) true := J.type.andThen (PySem.W.looks_mroIn X (by unfold PySem.W.mroIn; rw [hc, Option.bind_some, hm]; rfl))
  have hmro : PySem.W.Looks (model prog w) s.heap (mroOf (.ref C)) (.ref C :: .ref CK :: bmV) := hm ▸ (PySem.W.looks_clsIn X hc).andThen .now
  refine PySem.W.set_plain X J Z.sa ?_
  refine codeAny_call_builtin SO.slot.plain SO.entry (@PySem.W.check_slot (model prog w) _ _ { s with toks := s.toks + 1 } "object.__setattr__" "object" "__setattr__" (.ref x) [.str name s.toks, v] [] _ SO.kind SO.split isO (SO.args (.ref x) (.str name s.toks) v) ?_)
  rw [PySem.W.osa_eq, refuse_eq]
  refine wpAny_bind (wpAny_bind (J.type.at (wpAny_bind (hmro.at ?_))))
  rw [refuseLoop_ref, refuseLoop_ref, refuse_bmV]
  refine wpAny_pure (wpAny_bind (J.type.at (wpAny_bind ((PySem.W.looks_findIn X hp).at (wpAny_bind (wpAny_pure ?_))))))
  have e0 : ∀ (hh : Heap), hh.get? x = some ⟨.ref C, none, .fields vs, #[]⟩ → (hh.update x fun o => { o with dict := some s.heap.objs.size }).get? x = some ⟨.ref C, some s.heap.objs.size, .fields vs, #[]⟩ := fun hh z => Heap.get?_update_self _ z rfl
  refine wpAny_bind (wpAny_pure (wpAny_bind (wpAny_bind (wpAny_loadPart ho (wpAny_bind ((PySem.W.looks_clsIn X hc).at ?_))))))
  rw [hd]
  refine wpAny_bind (wpAny_alloc ?_)
  have nx : s.heap.objs.size ≠ x := Nat.ne_of_gt (Heap.lt_size ho)
  have ho2 : (s.heap.push { cls := .type "dict", data := .dict #[] }).get? x = some ⟨.ref C, none, .fields vs, #[]⟩ := Heap.get?_push_of_some _ ho
  have hD : (s.heap.push { cls := .type "dict", data := .dict #[] }).get? s.heap.objs.size = some { cls := .type "dict", data := .dict #[] } := Heap.get?_push_size s.heap rfl
  refine wpAny_bind (wpAny_update ho2 (wpAny_pure (a := some s.heap.objs.size) (wpAny_bind (wpAny_pure (wpAny_bind ?_)))))
  have hx3 := e0 _ ho2
  have hD3 : ((s.heap.push { cls := .type "dict", data := .dict #[] }).update x fun o => { o with dict := some s.heap.objs.size }).get? s.heap.objs.size = some { cls := .type "dict", data := .dict #[] } := (Heap.get?_update_other _ _ (Ne.symm nx)).trans hD
  have k3 : ∀ b o, b ≠ x → s.heap.get? b = some o → ((s.heap.push { cls := .type "dict", data := .dict #[] }).update x fun o => { o with dict := some s.heap.objs.size }).get? b = some o := fun b o hb z => (Heap.get?_update_other _ _ (Ne.symm hb)).trans (Heap.get?_push_of_some _ z)
  generalize (s.heap.push { cls := .type "dict", data := .dict #[] }).update x (fun o => { o with dict := some s.heap.objs.size }) = h3 at hx3 hD3 k3 ⊢
  have n3 : h3.Ns1 s.heap.objs.size fun _ => none := Heap.Ns1.of_empty ⟨_, #[], _, hD3, rfl, (fun e he => absurd he (by simp)), fun _ => rfl⟩
  refine wpAny_nsSet1 (s := { s with heap := h3, toks := s.toks + 1 }) n3 fun h' hn2 hs2 => ?_
  obtain ⟨oD, esD, epD, hoD, hdD, hcD⟩ := hn2.count (PySem.Within.cons name v (fun y hy => absurd rfl hy : PySem.Within (fun _ => none) []))
  refine wpAny_bind (wpAny_lookBehind hoD (by rw [hdD]; exact pastItsLine_dict (Nat.le_trans hcD (by rw [sizeLine_eq]; show 1 ≤ _; decide))) ?_)
  exact wpAny_pure (q h' hn2 ⟨t0, by rw [hvs]; exact (hs2.2 _ (Ne.symm nx)).trans hx3⟩ fun b o hb z => (hs2.2 b (Nat.ne_of_lt (Heap.lt_size z))).trans (k3 b o hb z))
end
end L2
namespace L2
open PySem PySem.Spec PyProof.Rows
section
variable {prog : Program} {w : World} {A : Around} {E : Value → Shared → Prop} {s : Shared} {K : PySem.W.Frag} {C CK fI x : Addr}
theorem initX {us : List Value} {Q : Value → Shared → Prop} (Z : ExcI K C CK fI) (X : K.In s.heap) (hx : RawX x C none s.heap) (hz : us.length ≤ sizeLine)
    (q : ∀ h', RawX x C none h' → (∀ b o, b ≠ x → s.heap.get? b = some o → h'.get? b = some o) → Q .none { s with heap := h' }) :
    wpAny (model prog w) A (call (.builtin "ValueError.__init__") (.ref x :: us)) Q E s := by
  obtain ⟨nm, qn, N, bs, sn, sub, ab, col, dd, k0, k1, k2, k3, k5, mN, hC, hN, hi, T⟩ := Z.at X
  obtain ⟨h, g, d, t, os⟩ := s
  obtain ⟨t0, ho⟩ := hx
  have V := F.excBase_ValueError
  have nx : h.objs.size ≠ x := Nat.ne_of_gt (Heap.lt_size ho)
  refine wpAny_call (codeAny_call_builtin V.init.plain V.initEntry (wpAny_check_init_subT V T hC ho rfl ?_))
  wp_walk
  exact q _ ⟨h.objs.size, Heap.get?_update_self _ (Heap.get?_push_of_some _ ho) rfl⟩ fun b o hb z => (Heap.get?_update_other _ _ (Ne.symm hb)).trans (Heap.get?_push_of_some _ z)
end
section
variable {X : Cx} {e a b : Expr} {es : List Expr} {te : TE} {t : Str → TE} {pos : Pos}
def PJ (X : Cx) (es : List Expr) (t : Str → TE) : Prop :=
  ∀ (pins : List (Addr × Obj)) (s : Shared) (σ : St) (H : Hp) (acc : Str) (Q : VK), Inv X pins σ H s → t acc σ H Q → wpAny (model X.prog X.w) X.A (joinParts acc (evalEach es X.env)) (EP X pins σ Q) X.xe s
def jNil : Str → TE := fun acc _ H Q => acc.length ≤ sizeLine ∧ Q (.str acc) H
def jCons (te : TE) (t : Str → TE) : Str → TE := fun acc σ H Q => te σ H fun x H1 => ∃ y, x = .str y ∧ (acc ++ y).length ≤ sizeLine ∧ t (acc ++ y) σ H1 Q
theorem pj_nil : PJ X [] jNil := fun _ _ _ H acc _ I h => joinParts_nil ⟨.str acc, H, I.tok _, ⟨_, rfl⟩, h.2⟩ h.1
theorem pj_cons (he : PE X e te) (hr : PJ X es t) : PJ X (e :: es) (jCons te t) := by
  intro pins s σ H acc Q I h
  refine joinParts_cons (thn (he pins s σ H _ I h) fun v s1 ⟨x, H1, I1, r1, y, ex, hz, q⟩ => ?_)
  subst ex
  obtain ⟨tk, rfl⟩ := r1
  exact ⟨hz, hr pins s1 σ H1 _ Q I1 q⟩
theorem pe_joined (h : PJ X (a :: b :: es) t) : PE X (.JoinedStr (a :: b :: es) pos) (t Str.empty) := fun pins s σ H Q I hq => JoinedStr_many (h pins s σ H Str.empty Q I hq)
theorem pe_fmtI (he : PE X e te) : PE X (.FormattedValue e (-1) none pos) (fun σ H Q => te σ H fun x H1 => ∃ i : Int, x = .int i ∧ i.natAbs.log2 < 1920 ∧ Q (.str (Str.ofString (toString i))) H1) := by
  intro pins s σ H Q I h
  refine FormattedValue_plain (thn (he pins s σ H _ I h) fun v s1 ⟨x, H1, I1, r1, i, ex, hi, q⟩ => ?_)
  subst ex
  obtain ⟨tk, rfl⟩ := r1
  exact formatField_int_small hi ⟨.str (Str.ofString (toString i)), H1, I1.tok _, ⟨_, rfl⟩, q⟩
end
end L2
namespace L2
open PySem PySem.Spec PyProof.Rows
def rawHO (a C : Addr) (dd : Option Addr) : HO := .ext (RawX a C dd)
theorem RawX.ok {P : Program} {w : World} {H : Hp} {h : Heap} {a C : Addr} {dd : Option Addr} (x : RawX a C dd h) : ObjOk P w H h a (rawHO a C dd) := by
  obtain ⟨t0, e⟩ := id x
  exact ⟨x, ⟨_, e⟩, fun h1 h2 ⟨t1, e1⟩ k => ⟨t1, k _ e1⟩⟩
section
variable {X : Cx} {pins : List (Addr × Obj)} {σ : St} {H : Hp} {s : Shared} {a C CK fI dx : Addr} {dd : Option Addr}
theorem Inv.raw (I : Inv X pins σ H s) (h : H a = some (rawHO a C dd)) : RawX a C dd s.heap := (I.hok a _ h).1
structure BInit (K : PySem.W.Frag) (CK : Addr) : Prop where
  sp : PySem.W.specialIn K (.ref CK) "__getattribute__" = some (some (.builtin "type.__getattribute__"))
  rd : PySem.W.readsIn K CK (.type "type") = true
  fc : PySem.W.findCls K (.ref CK) (.type "type") "__init__" = some (.val (.builtin "ValueError.__init__"))
def tBin (C : Addr) (t : TA) : TE := fun σ H Q => t σ H fun vs H1 => ∃ a us, vs = .ref a :: us ∧ H1 a = some (rawHO a C none) ∧ us.length ≤ sizeLine ∧ Q .non (upd H1 a (rawHO a C none))
theorem pe_binit {x : Str} {p apos pos : Pos} {e : Expr} {es : List Expr} {t : TA} {pl : Sem Bool} (Z : ExcI X.K C CK fI) (B : BInit X.K CK) (hg : Gl X x) (hm : X.mg x = some (.ref CK)) (ha : PA X (e :: es) t)
    (hdb : (x == ("__debug__" : Str)) = false := by decide) (hst : starEach (e :: es) X.env = (false, eval e X.env) :: starEach es X.env := by rfl) (hpl : (backTo pos (starEach es X.env)).any (·.1) = false := by rfl)
    (ht : eval (.Call (.Attribute (.Name x p) "__init__" apos) (e :: es) [] pos) X.env = (eval (.Name x p) X.env >>= fun ov => standAt apos.atName >>= fun _ => holding [ov] (getMethod ov "__init__" pl) >>= fun fx =>
      callWith pos fx.1 fx.2 (backTo pos (starEach (e :: es) X.env)) (backToKw pos (keywordEach [] X.env))) := by rfl) :
    PE X (.Call (.Attribute (.Name x p) "__init__" apos) (e :: es) [] pos) (tBin C t) := by
  intro pins s σ H Q I h
  refine PySem.W.methodCall_KW (pl := pl) (ld_glob I hg hm ?_ hdb) ht
  refine PySem.W.method_cls I.kIn B.sp (PySem.W.cls_value I.kIn B.rd B.fc rfl ?_)
  have I0 : Inv X pins σ H { s with toks := s.toks + 1 } := I.tok _
  refine PyProof.Rows.callWith_builtin1 (thn (ha pos pins _ σ H _ I0 h) fun us s1 ⟨vs, H1, I1, r1, a, ws, ev, ea, hz, q⟩ => ?_) hst hpl
  subst ev
  cases r1 with
  | cons r r' =>
    cases r
    refine initX Z I1.kIn (I1.raw ea) (by rw [← r'.length]; exact hz) fun h' hx k => ?_
    obtain ⟨t0, e0⟩ := id hx
    exact ⟨.non, _, I1.write (x := a) (e := a) (t' := s1.toks) (by rw [ea]; exact True.intro) (.inl rfl) (fun b u hb z => k b u hb z) ⟨_, e0⟩ hx.ok, rfl, q⟩
def sSetX (C : Addr) (name : Str) (ta tv : TE) : TS := fun D σ H => tv σ H fun y H1 => ta σ H1 fun x H2 => ∃ a, x = .ref a ∧ H2 a = some (rawHO a C none) ∧ ∀ dx, H2 dx = none → dx ≠ a → D.nx σ (upd (upd H2 dx (.xd [(name, y)])) a (rawHO a C (some dx)))
theorem ps_setX {o value : Expr} {name : Str} {pos pos' : Pos} {ta tv : TE} (Z : ExcI X.K C CK fI) (hn : PySem.W.findIn X.K (.ref C) name = some none) (ha : PE X o ta) (hv : PE X value tv)
    (hs : swapsWith value (some (.Attribute o name pos')) pos.line X.env = pure false := by rfl) : PS X (.Assign [.Attribute o name pos'] value pos) (sSetX C name ta tv) := by
  intro pins s σ H D I h
  refine plainObj_wpAny_Assign_Attribute (thn (hv pins s σ H _ I h) fun u s1 ⟨y, H1, I1, ry, q⟩ => thn (ha pins s1 σ H1 _ I1 q) fun ov s2 ⟨x, H2, I2, rx, a, ex, ea, q2⟩ => ?_) hs
  subst ex
  obtain rfl : ov = Value.ref a := rx
  refine setX Z I2.kIn (I2.raw ea) hn fun h' n' x' k => ?_
  have hf : H2 s2.heap.objs.size = none := I2.hok.fresh (Nat.le_refl _)
  have ne : s2.heap.objs.size ≠ a := Nat.ne_of_gt (I2.hok a _ ea).lt
  refine ⟨σ, _, ?_, q2 _ hf ne⟩
  obtain ⟨t0, e0⟩ := id (I2.raw ea)
  obtain ⟨t1, e1⟩ := id x'
  obtain ⟨oD, esD, epD, eD, rD⟩ := id n'
  have xdok : ∀ (H' : Hp) (hh : Heap), hh.get? s2.heap.objs.size = some oD → ObjOk X.prog X.w H' hh s2.heap.objs.size (.xd [(name, y)]) := fun H' hh z => ⟨_, ⟨oD, esD, epD, z, rD⟩, fun g => by
    show RelO (List.lookup g [(name, y)]) (if g = name then some u else none)
    by_cases hg : g = name
    · subst hg
      rw [if_pos rfl, List.lookup_cons_self]
      exact ry
    · rw [if_neg hg, List.lookup_cons]
      have : (g == name) = false := by simpa using hg
      rw [this]
      exact True.intro⟩
  have em : (h'.update a fun _ => ⟨.ref C, none, .fields #[.ref t0, .none, .none, .none, .bool false, .none], #[]⟩).get? a = some ⟨.ref C, none, .fields #[.ref t0, .none, .none, .none, .bool false, .none], #[]⟩ := Heap.get?_update_self _ e1 rfl
  have om : ∀ b, b ≠ a → (h'.update a fun _ => ⟨.ref C, none, .fields #[.ref t0, .none, .none, .none, .bool false, .none], #[]⟩).get? b = h'.get? b := fun b hb => Heap.get?_update_other _ _ (Ne.symm hb)
  generalize (h'.update a fun _ => ⟨.ref C, none, .fields #[.ref t0, .none, .none, .none, .bool false, .none], #[]⟩) = hm at em om
  have J : Inv X pins σ (upd H2 s2.heap.objs.size (.xd [(name, y)])) { s2 with heap := hm, toks := s2.toks } := I2.laid (fun b o z => by
    by_cases hb : b = a
    · subst hb
      rw [e0] at z
      cases z
      exact em
    · rw [om b hb]
      exact k b o hb z) (Nat.le_refl _) (xdok _ _ ((om _ ne).trans eD))
  exact J.write (x := a) (e := a) (t' := s2.toks + 2) (by rw [upd_ne (Ne.symm ne), ea]; exact True.intro) (.inl rfl) (fun b o hb z => by rw [← om b hb]; exact z) ⟨_, e1⟩ x'.ok
end
end L2
namespace L2
open PySem PySem.Spec PyProof.Rows
section
variable {X : Cx} {pins : List (Addr × Obj)} {σ : St} {H : Hp} {s : Shared} {a C CK fI dx : Addr} {dd : Option Addr} {k : Nat} {fd : FuncData} {ps : List Str} {sp : Sp}
theorem run_makeX {us : List Value} {vs : List V} {Q : VK} (Z : ExcI X.K C CK fI) (G : FnOk X.prog X.w X.K X.mg X.base CX0 k fI fd ps sp) (hr : Room (k + 1) X.A) (hb : Binds X.K fd ps []) (I : Inv X pins σ H s) (r : Vals vs us) (hz : vs.length ≤ sizeLine)
    (h : ∀ x, H x = none → sp (.ref x :: vs) (upd H x (rawHO x C none)) (fun v H2 => v = .non ∧ Q (.ref x) H2) E0) : wpAny (model X.prog X.w) X.A (call (.ref C) us) (EP X pins σ Q) X.xe s := by
  obtain ⟨hp, g, d, t, os⟩ := s
  have hf : H (hp.objs.size + 1) = none := I.hok.fresh (Nat.le_succ _)
  have hq := h _ hf
  have e2 : ((hp.push (tupO us)).push (rawX C hp.objs.size)).get? (hp.objs.size + 1) = some (rawX C hp.objs.size) := by heap_get
  have I2 : Inv X pins σ (upd H (hp.objs.size + 1) (rawHO (hp.objs.size + 1) C none)) ⟨(hp.push (tupO us)).push (rawX C hp.objs.size), g, d, t, os⟩ :=
    I.laid (a := hp.objs.size + 1) (t' := t) (fun b u q => Heap.get?_push_of_some _ (Heap.get?_push_of_some _ q)) (Nat.le_succ _) (RawX.ok ⟨_, e2⟩)
  have r2 : Vals (V.ref (hp.objs.size + 1) :: vs) (Value.ref (hp.objs.size + 1) :: us) := .cons rfl r
  have hl : (Value.ref (hp.objs.size + 1) :: us).length = ps.length := by rw [← r2.length]; exact G.len _ _ _ _ hq
  have hb2 := hb _ (Value.ref (hp.objs.size + 1) :: us) I2.kIn (by rw [List.append_nil]; exact hl)
  rw [List.append_nil] at hb2
  refine callX Z I.kIn (by rw [← r.length]; exact hz) (wpAny_call (codeAny_mono (G.run _ X.stack _ _ ⟨Value.ref (hp.objs.size + 1) :: us, []⟩ _ _ _ E0 (hr.make C us []) (I2.env0.make C us []) hb2 r2 hq) fun rr s' q' => ?_))
  cases rr with
  | error e => exact False.elim q'
  | ok fl =>
    cases fl with
    | ret u =>
      obtain ⟨v, H', I3, rv, ev, q3⟩ := I2.after q'
      subst ev
      exact ⟨rv, V.ref (hp.objs.size + 1), H', I3, rfl, q3⟩
    | next => exact False.elim q'
    | brk => exact False.elim q'
    | cont => exact False.elim q'
def tMakeX (C : Addr) (sp : Sp) (t : TA) : TE := fun σ H Q => t σ H fun vs H1 => vs.length ≤ sizeLine ∧ ∀ x, H1 x = none → sp (.ref x :: vs) (upd H1 x (rawHO x C none)) (fun v H2 => v = .non ∧ Q (.ref x) H2) E0
theorem pe_makeX {x : Str} {p pos : Pos} {e : Expr} {es : List Expr} {t : TA} (Z : ExcI X.K C CK fI) (kp : PySem.W.keepIn X.K (.ref C) = true) (G : FnOk X.prog X.w X.K X.mg X.base CX0 k fI fd ps sp) (hr : Room (k + 1) X.A) (hb : Binds X.K fd ps []) (hg : Gl X x) (hm : X.mg x = some (.ref C))
    (ha : PA X (e :: es) t) (hdb : (x == ("__debug__" : Str)) = false := by decide) (he : starEach (e :: es) X.env = (false, eval e X.env) :: starEach es X.env := by rfl) (hpl : (backTo pos (starEach es X.env)).any (·.1) = false := by rfl) :
    PE X (.Call (.Name x p) (e :: es) [] pos) (tMakeX C sp t) := by
  intro pins s σ H Q I h
  refine wpAny_Call_Name_kw (ld_glob I hg hm ?_ hdb)
  exact PySem.W.callWith_K (h₀ := X.base) I.ok.mod.kin kp (thn (ha pos pins s σ H _ I h) fun us s1 ⟨vs, H1, I1, r, hz, q⟩ => ⟨I1.kIn, run_makeX Z G hr hb I1 r hz q⟩) he hpl
def RaiseOkD (X : Cx) (C : Addr) (R : Addr → Option Addr → Hp → Prop) : Prop := ∀ (pins : List (Addr × Obj)) (σ : St) (H : Hp) (s : Shared) (a : Addr) (dd : Option Addr), Inv X pins σ H s → H a = some (rawHO a C dd) → R a dd H → X.xe (.ref a) s
theorem ps_raiseE {bm : List Value} {ex : Expr} {te : TE} {pos : Pos} {R : Addr → Option Addr → Hp → Prop} (hc : X.calm = true) (Z : ExcW X.K C bm) (he : PE X ex te) (hR : RaiseOkD X C R) :
    PS X (.Raise (some ex) none pos) (fun _ σ H => te σ H fun v H1 => ∃ a dd, v = .ref a ∧ H1 a = some (rawHO a C dd) ∧ R a dd H1) := by
  intro pins s σ H D I h
  rw [arm_exec_Raise]
  refine wpAny_bind (wpAny_standAt ?_)
  show wpAny _ _ (raiseStmt X.env (some (eval ex X.env >>= fun v => standAt pos >>= fun _ => pure v)) none) _ _ s
  unfold raiseStmt
  refine wpAny_bind (wpAny_bind (thn (he pins s σ H _ I h) fun u s1 ⟨v, H1, I1, r1, a, dd, ev, ea, q⟩ => wpAny_bind (wpAny_standAt (wpAny_pure ?_))))
  subst ev
  cases (show u = Value.ref a from r1)
  obtain ⟨t0, e0⟩ := I1.raw ea
  obtain ⟨nm, qn, N, bs, hd, sn, sub, ab, col, dd', k0, k1, k2, k3, k5, hC, T⟩ := Z.ob _ I1.kIn
  have fin := hR pins σ H1 s1 a dd I1 ea q
  obtain ⟨hp, g, d, tk, os⟩ := s1
  have cB : (Value.ref C :: bm).contains (.type "BaseException") = true := by rw [List.contains_cons, T.hasType (b := true) (by rfl), Bool.or_true]
  repeat (first | (with_reducible refine wpAny_loadPart_at e0 ?_) | (with_reducible refine wpAny_loadPart_at hC ?_) | (with_reducible refine wpAny_isSubtype_exc hC ?_; rw [cB]) | wp_step)
  exact wpAny_raiseNew_none (I.ok.hd hc) fin
end
end L2
namespace L2
open PySem PySem.Spec PyProof.Rows
def del (H : Hp) (a : Addr) : Hp := fun b => if b = a then none else H b
theorem del_ne {H : Hp} {a b : Addr} (h : b ≠ a) : del H a b = H b := if_neg h
theorem del_same {H : Hp} {a : Addr} : del H a a = none := if_pos rfl
theorem del_upd {H : Hp} {a : Addr} {o : HO} : del (upd H a o) a = del H a := by
  funext b
  by_cases h : b = a
  · subst h; rw [del_same, del_same]
  · rw [del_ne h, del_ne h, upd_ne h]
theorem del_new {H : Hp} {a : Addr} (h : H a = none) : del H a = H := by
  funext b
  by_cases hb : b = a
  · subst hb; rw [del_same, h]
  · rw [del_ne hb]
theorem del_comm {H : Hp} {a b : Addr} {o : HO} (h : b ≠ a) : del (upd H b o) a = upd (del H a) b o := by
  funext c
  by_cases hc : c = a
  · subst hc; rw [del_same, upd_ne (Ne.symm h), del_same]
  · rw [del_ne hc]
    by_cases hb : c = b
    · subst hb; rw [upd_same, upd_same]
    · rw [upd_ne hb, upd_ne hb, del_ne hc]
theorem some_of {P : Program} {w : World} {H : Hp} {h : Heap} {a : Addr} {o : HO} (x : ObjOk P w H h a o) : ∃ u, h.get? a = some u := by
  induction o with
  | lst xs => obtain ⟨_, _, _, _, e⟩ := x; exact ⟨_, e⟩
  | tup xs => obtain ⟨_, _, _, ob, e, _⟩ := x; exact ⟨_, e⟩
  | dK kvs => obtain ⟨_, _, _, _, o, _, _, e, _⟩ := x; exact ⟨_, e⟩
  | dT kvs => obtain ⟨_, _, _, _, o, _, _, e, _⟩ := x; exact ⟨_, e⟩
  | set S n => obtain ⟨o, _, _, _, e, _⟩ := x; exact ⟨_, e⟩
  | ins C dx fs => obtain ⟨_, _, _, e, _⟩ := x; exact ⟨_, e⟩
  | own y => exact x
  | xd fs => obtain ⟨_, ⟨_, _, _, e, _⟩, _⟩ := x; exact ⟨_, e⟩
  | rng lo hi => obtain ⟨_, _, _, e⟩ := x; exact ⟨_, e⟩
  | frz ob u ih => obtain ⟨e, _⟩ := x; exact ⟨_, e⟩
  | tbl ps => exact ⟨_, (show h.get? a = Option.some _ from x)⟩
  | met f y => exact ⟨_, (show h.get? a = Option.some _ from x)⟩
  | ext φ => obtain ⟨_, e, _⟩ := x; exact e
structure FlyO (outer : List Env) (H' : Hp) (s s' : Shared) (a C : Addr) (dd : Option Addr) : Prop where
  fly : ∃ B : Heap, FlyD B outer a (.ref C) dd .none s'.heap ∧ ∀ b o, b ∉ frs outer → s'.heap.get? b = some o → ((∃ o', s.heap.get? b = some o') ∨ H' b ≠ none) → B.get? b = some o
def CXd (P : Program) (w : World) : CXT := fun outer H s E e s' => ∃ (a C : Addr) (dd : Option Addr) (H' : Hp), e = .ref a ∧ E (.ref C) dd H' ∧ s'.os = s.os ∧ AllBare s'.gens ∧ Un (frs outer) [] H H' s.heap s'.heap ∧ HOk P w H' s'.heap ∧ H' a = none ∧ s.heap.get? a = none ∧ FlyO outer H' s s' a C dd
section
variable {P : Program} {w : World} {K : PySem.W.Frag} {mg : Str → Option Value} {base : Heap} {N : List Str} {qual : Str} {scope : Scope} {f : Addr} {cd : Value} {A : Around} {outer : List Env} {s₀ : Shared} {H₀ : Hp} {E : XK}
theorem raise_okD {C : Addr} : RaiseOkD (cxOf (CXd P w) P w K mg base N qual scope f cd A outer s₀ H₀ E) C (fun a dd H => H₀ a = none ∧ E (.ref C) dd (del H a)) := by
  intro pins σ H s a dd I ha hE
  obtain ⟨h0, hE⟩ := hE
  have stk : s.heap.FunFrames base (envOfC qual scope s₀.heap.objs.size f cd :: outer) := I.stack
  have free := I.stkFree
  have locF : ∀ b, b ∈ frs (envOfC qual scope s₀.heap.objs.size f cd :: outer) → b = s₀.heap.objs.size ∨ b ∈ frs outer := fun b hb => List.mem_cons.mp (I.stkSub b hb)
  have a0 : s₀.heap.get? a = none := by
    cases q : s₀.heap.get? a with
    | none => rfl
    | some o =>
      have := I.base.free a o q h0 (by simp [cxOf])
      rw [ha] at this
      cases this
  have nea : ∀ b o, s₀.heap.get? b = some o → b ≠ a := fun b o q z => by rw [z, a0] at q; cases q
  have inB : ∀ b o, s.heap.get? b = some o → b ≠ a → b ∉ frs (envOfC qual scope s₀.heap.objs.size f cd :: outer) → (PySem.W.hideAll s.heap (a :: frs (envOfC qual scope s₀.heap.objs.size f cd :: outer))).get? b = some o := fun b o q h1 h2 => PySem.W.hideAll_get _ q fun z => (List.mem_cons.mp z).elim h1 h2
  obtain ⟨t0, e0⟩ := I.raw ha
  have noB : (PySem.W.hideAll s.heap (a :: frs (envOfC qual scope s₀.heap.objs.size f cd :: outer))).get? a = none := PySem.W.hideAll_none _ (List.mem_cons_self ..)
  show wpAny (model P w) (A.deeper (envOfC qual scope s₀.heap.objs.size f cd)) (leaving (envOfC qual scope s₀.heap.objs.size f cd) (.ref a)) (fun _ s'' => CXd P w outer H₀ s₀ E (.ref a) s'') (fun e' s'' => CXd P w outer H₀ s₀ E e' s'') s
  refine leaveD0 (base := PySem.W.hideAll s.heap (a :: frs (envOfC qual scope s₀.heap.objs.size f cd :: outer))) (L := s₀.heap.objs.size) I.ok.frames
    (PySem.W.funFrames_hide stk fun env he b hb => List.mem_cons_of_mem _ (List.mem_filterMap.mpr ⟨env, he, hb⟩)) rfl e0 (fun b o q => PySem.W.of_hideAll _ q) noB rfl rfl (fun _ => rfl) fun h'' fl sm => ?_
  have keepB : ∀ b o, s.heap.get? b = some o → b ≠ a → b ∉ frs (envOfC qual scope s₀.heap.objs.size f cd :: outer) → h''.get? b = some o := fun b o q n1 n2 => fl.stay b o (inB b o q n1 n2)
  have ne0 : ∀ b o, s₀.heap.get? b = some o → b ≠ s₀.heap.objs.size := fun b o q => Nat.ne_of_lt (Heap.lt_size q)
  have slotB : ∀ b o, s.heap.get? b = some o → b ∈ frs (envOfC qual scope s₀.heap.objs.size f cd :: outer) → ∃ sl, h''.get? b = some { o with slots := sl } := fun b o q hm => by
    obtain ⟨_, o', q', hd⟩ := stk.mem hm
    rw [q] at q'
    cases q'
    exact sm b o q hd
  have trk : ∀ b u, H b = some u → b ∉ frs (envOfC qual scope s₀.heap.objs.size f cd :: outer) := fun b u q hm => by
    have := free b hm
    rw [q] at this
    cases this
  have dl : ∀ b u, H b = some u → b ≠ a → del H a b = some u := fun b u q n => (del_ne n).trans q
  refine ⟨a, C, dd, del H a, rfl, hE, I.os, I.bare, ⟨fun b o q n hb _ => ?_, fun b o q n hb _ => ?_, fun b o q n hb => ?_, fun b o q _ => ?_, fun b xs q => ?_, fun b o u q => ?_, fun b qs q => ?_⟩, fun b u q => ?_, del_same, a0, ⟨⟨_, fl, fun b o hb q z => ?_⟩⟩⟩
  · exact keepB b o (I.base.keep b o q n hb (by simp [cxOf])) (nea b o q) fun z => (locF b z).elim (ne0 b o q) hb
  · obtain ⟨sl, q1⟩ := I.base.slot b o q n hb (by simp [cxOf])
    by_cases hm : b ∈ frs (envOfC qual scope s₀.heap.objs.size f cd :: outer)
    · obtain ⟨sl', q2⟩ := slotB b _ q1 hm
      exact ⟨sl', q2⟩
    · exact ⟨sl, keepB b _ q1 (nea b o q) hm⟩
  · rw [del_ne (nea b o q)]
    exact I.base.free b o q n (by exact hb)
  · obtain ⟨o', q1⟩ := I.base.there b o q (by simp [cxOf])
    by_cases hm : b ∈ frs (envOfC qual scope s₀.heap.objs.size f cd :: outer)
    · obtain ⟨sl', q2⟩ := slotB b _ q1 hm
      exact ⟨_, q2⟩
    · exact ⟨_, keepB b _ q1 (nea b o q) hm⟩
  · have z := I.base.tups b xs q
    exact dl _ _ z fun y => by rw [y, ha] at z; cases z
  · have z := I.base.frzs b o u q
    exact dl _ _ z fun y => by rw [y, ha] at z; cases z
  · obtain ⟨m, z⟩ := I.base.tbls b qs q
    exact ⟨m, dl _ _ z fun y => by rw [y, ha] at z; cases z⟩
  · have nb : b ≠ a := fun z => by rw [z, del_same] at q; cases q
    rw [del_ne nb] at q
    refine (I.hok b u q).stay (fun c v hc z => keepB c v z ?_ ?_) (fun c z => dl _ _ z fun y => by rw [y, ha] at z; cases z) fun c xs z => dl _ _ z fun y => by rw [y, ha] at z; cases z
    · rcases hc with rfl | hc
      · exact nb
      · exact fun y => by rw [y, ha] at hc; cases hc
    · rcases hc with rfl | hc
      · exact trk c u q
      · exact trk c _ hc
  · obtain ⟨o1, q1, nb, hm⟩ : ∃ o1, s.heap.get? b = some o1 ∧ b ≠ a ∧ b ∉ frs (envOfC qual scope s₀.heap.objs.size f cd :: outer) := by
      rcases z with ⟨o', z⟩ | z
      · obtain ⟨o1, q1⟩ := I.base.there b o' z (by simp [cxOf])
        exact ⟨o1, q1, nea b o' z, fun y => (locF b y).elim (ne0 b o' z) hb⟩
      · have nb : b ≠ a := fun y => z (by rw [y]; exact del_same)
        rw [del_ne nb] at z
        cases hz : H b with
        | none => exact absurd hz z
        | some u =>
          obtain ⟨o1, q1⟩ := some_of (I.hok b u hz)
          exact ⟨o1, q1, nb, trk b u hz⟩
    have y := keepB b o1 q1 nb hm
    rw [q] at y
    cases y
    exact inB b o q1 nb hm
theorem Fun.okD {x qual : Str} {st : Stmt} {f : Addr} {fd : FuncData} {N ps : List Str} {k : Nat} {sp : Sp} (F : Fun K x qual st f fd) (S : FnScope N ps (defScope st)) (len : ∀ vs H Q E, sp vs H Q E → vs.length = ps.length)
    (hbody : ∀ (cdv : Value) (A : Around) (outer : List Env) (s : Shared) (H : Hp) (vs : List V) (Q : VK) (E : XK), Room k (A.deeper (envOfC qual (defScope st) s.heap.objs.size f cdv)) → sp vs H Q E →
      ∃ t, PSs (cxOf (CXd P w) P w K mg base N qual (defScope st) f cdv A outer s H E) (defBody st) t ∧ t { nx := fun _ H' => Q .non H', rt := Q } (start N vs) H) : FnOk P w K mg base (CXd P w) (k + 1) f fd ps sp := by
  obtain ⟨oc, od, kV, doc, pm, an, cdv, ct, osl, rfl, lk, hcd⟩ := F.ex
  exact fn_of lk hcd S len fun A outer s H vs Q E hr hsp => hbody cdv A outer s H vs Q E hr hsp
end
end L2
namespace L2
open PySem PySem.Spec PyProof.Rows
def excHO (a C : Addr) (dd : Option Addr) : HO := .ext (ExcO a C dd)
abbrev Cx.mark (X : Cx) (a : Addr) : Cx := { X with A := X.A.mark (some (.ref a)), calm := false, xe := fun _ _ => False }
section
variable {X : Cx} {pins : List (Addr × Obj)} {σ : St} {H : Hp} {s : Shared}
theorem Inv.mark (I : Inv X pins σ H s) (a : Addr) : Inv (X.mark a) pins σ H s :=
  ⟨⟨I.ok.mod, I.ok.kind, I.ok.glob, I.ok.blt, I.ok.above, I.ok.inj, I.ok.has, I.ok.cab, fun z => Bool.noConfusion z, I.ok.frames, I.ok.stk, I.ok.exf, I.ok.bs, I.ok.bsz, I.ok.noex, I.ok.exfs, I.ok.funs, I.ok.frf⟩,
    I.os, I.bare, I.base, I.loc, I.cell, I.free, I.freeC, I.pin, I.hok, I.len⟩
theorem Inv.unmark {a : Addr} (I : Inv (X.mark a) pins σ H s) (ok : X.Ok) : Inv X pins σ H s := ⟨ok, I.os, I.bare, I.base, I.loc, I.cell, I.free, I.freeC, I.pin, I.hok, I.len⟩
theorem xmatch {M : Model} {A : Around} {E : Value → Shared → Prop} {K : PySem.W.Frag} {h : Heap} {g : Array GenState} {d : Drawn} {t : Nat} {os : OsState} {e C CK : Addr} {o : Obj} {bm bmK : List Value} {Q : Bool → Shared → Prop} (Z : ExcW K C bm) (ZK : ExcW K CK bmK) (X : K.In h)
    (hx : h.get? e = some o) (hc : o.cls = .ref C) (hb : (Value.ref C :: bm).contains (.ref CK) = true) (hq : Q true ⟨h, g, d, t, os⟩) : wpAny M A (excMatches (.ref e) (.ref CK)) Q E ⟨h, g, d, t, os⟩ := by
  obtain ⟨nm, qn, N, bs, hd, sn, sub, ab, col, dd, k0, k1, k2, k3, k5, hC, T⟩ := Z.ob _ X
  obtain ⟨nm', qn', N', bs', hd', sn', sub', ab', col', dd', k0', k1', k2', k3', k5', hC', T'⟩ := ZK.ob _ X
  have hcB : (Value.ref CK :: bmK).contains (.type "BaseException") = true := by rw [List.contains_cons, T'.hasType (b := true) (by rfl), Bool.or_true]
  have f := tc_notTuple
  unfold excMatches
  repeat (first | (with_reducible refine wpAny_loadPart_at hx ?_; rw [hc]) | with_reducible refine wpAny_loadPart_at hC' ?_ | (with_reducible refine wpAny_isSubtype_exc hC' ?_; rw [hcB]) | (with_reducible refine wpAny_isSubtype_exc hC ?_; rw [hb]) | wp_step)
  exact hq
theorem Inv.landed {H' : Hp} {B h5 : Heap} {s' : Shared} (I : Inv X pins σ H s) (ho : s'.os = s.os) (hg : AllBare s'.gens) (u : Un (frs X.stack) [] H H' s.heap s'.heap) (hok : HOk X.prog X.w H' s'.heap)
    (hB : ∀ b o, b ∉ frs X.stack → s'.heap.get? b = some o → ((∃ o', s.heap.get? b = some o') ∨ H' b ≠ none) → B.get? b = some o) (hF : s'.heap.FunFrames B X.stack) (st : B.StaysIn h5) (sm : s'.heap.UpToSlots h5) : Inv X pins σ H' { s' with heap := h5 } := by
  have slotB : ∀ b o, s'.heap.get? b = some o → b ∈ frs X.stack → ∃ sl, h5.get? b = some { o with slots := sl } := fun b o q hm => by
    obtain ⟨_, o', q', hd⟩ := hF.mem hm
    rw [q] at q'
    cases q'
    exact sm b o q hd
  have untr : ∀ b ∈ frs X.stack, H' b = none := fun b hm => by
    obtain ⟨_, o, q, _⟩ := I.stack.mem hm
    exact u.free b o q (I.stkFree b hm) (by simp)
  have trk : ∀ b v, H' b = some v → b ∉ frs X.stack := fun b v q hm => by
    rw [untr b hm] at q
    cases q
  refine I.call' (s' := { s' with heap := h5 }) (ch := []) ho ⟨fun b o q n hb hx => ?_, fun b o q n hb hx => ?_, u.free, fun b o q hx => ?_, u.tups, u.frzs, u.tbls⟩ (fun b v q => ?_) hg (fun b hb => by cases hb)
  · exact st b o (hB b o hb (u.keep b o q n hb hx) (.inl ⟨o, q⟩))
  · obtain ⟨sl, q1⟩ := u.slot b o q n hb hx
    obtain ⟨sl', q2⟩ := slotB b _ q1 hb
    exact ⟨sl', q2⟩
  · obtain ⟨o', q1⟩ := u.there b o q hx
    by_cases hm : b ∈ frs X.stack
    · obtain ⟨sl', q2⟩ := slotB b _ q1 hm
      exact ⟨_, q2⟩
    · exact ⟨_, st b o' (hB b o' hm q1 (.inl ⟨o, q⟩))⟩
  · refine (hok b v q).stay (fun c y hc z => ?_) (fun _ z => z) fun _ _ z => z
    have hc' : H' c ≠ none := by
      rcases hc with rfl | hc
      · rw [q]; exact fun y => nomatch y
      · rw [hc]; exact fun y => nomatch y
    have hm : c ∉ frs X.stack := fun y => hc' (untr c y)
    exact st c y (hB c y hm z (.inr hc'))
theorem Inv.track (I : Inv X pins σ H s) {a C : Addr} {dd : Option Addr} (hn : H a = none) (h0 : X.s₀.heap.get? a = none) (he : ExcO a C dd s.heap) (hL : a ≠ X.env.locals) (hc : ∀ x c, X.env.cells.lookup x = some c → c ≠ a) (hp : ∀ p ∈ X.pn ++ pins, p.1 ≠ a) : Inv X pins σ (upd H a (excHO a C dd)) s := by
  have sm : ∀ b u, H b = some u → upd H a (excHO a C dd) b = some u := fun b u q => by rw [upd_ne (ne_of_none q hn)]; exact q
  refine ⟨I.ok, I.os, I.bare, ⟨I.base.keep, I.base.slot, fun b o q n hx => ?_, I.base.there, fun b xs q => sm _ _ (I.base.tups b xs q), fun b o u q => sm _ _ (I.base.frzs b o u q), fun b ps q => ?_⟩, I.loc, I.cell, ?_, fun x c e => ?_, fun p hp' => ?_, fun b u q => ?_, I.len⟩
  · have : b ≠ a := fun z => by rw [z, h0] at q; cases q
    rw [upd_ne this]
    exact I.base.free b o q n hx
  · obtain ⟨m, e⟩ := I.base.tbls b ps q
    exact ⟨m, sm _ _ e⟩
  · rw [upd_ne (Ne.symm hL)]
    exact I.free
  · rw [upd_ne (hc x c e)]
    exact I.freeC x c e
  · obtain ⟨e, n, ne, nf, d⟩ := I.pin p hp'
    exact ⟨e, by rw [upd_ne (hp p hp')]; exact n, ne, nf, d⟩
  · by_cases hb : b = a
    · subst hb
      rw [upd_same] at q
      cases q
      obtain ⟨o, vs, h1, h2, h3, h4⟩ := id he
      exact ⟨he, ⟨o, h1⟩, fun g1 g2 ⟨o', vs', e1, e2, e3, e4⟩ k => ⟨o', vs', k o' e1, e2, e3, e4⟩⟩
    · rw [upd_ne hb] at q
      exact (I.hok b u q).stay (fun _ _ _ z => z) (fun c z => sm _ _ z) fun c xs z => sm _ _ z
def DoneAs (D : Ends) (i : Nat) : Ends := ⟨fun σ H => D.nx (σ.set i none) H, D.rt, fun σ H => D.bk (σ.set i none) H, fun σ H => D.ct (σ.set i none) H⟩
theorem Inv.drop {i : Nat} {n : Str} {h' : Heap} {m : Str → Option Value} {v : Option Value} {t : Nat} (I : Inv X pins σ H s) (hN : X.N.Nodup) (hi : X.N[i]? = some n) (hm : s.heap.Ns X.env.locals m) (hl : ∀ (i : Nat) (x : Str) (v : V), X.N[i]? = some x → σ[i]? = some (some v) → Vis X.env.scope x → ∃ u, RelV v u ∧ Look X.env s.heap m x u)
    (hn : h'.Ns X.env.locals fun x => if x = n then v else m x) (hs : Heap.SameBut X.env.locals s.heap h') : Inv X pins (σ.set i none) H { s with heap := h', toks := t } := by
  have keep : ∀ b o, b ≠ X.env.locals → s.heap.get? b = some o → h'.get? b = some o := fun b o hb e => (hs.2 b hb).trans e
  have neL : ∀ b o, X.s₀.heap.get? b = some o → b ≠ X.env.locals := fun b o e => Nat.ne_of_lt (Nat.lt_of_lt_of_le (Heap.lt_size e) I.ok.above)
  refine ⟨I.ok, I.os, I.bare, ⟨fun b o e n' hb hx => keep b o (neL b o e) (I.base.keep b o e n' hb hx), fun b o e n' hb hx => ?_, I.base.free, fun b o e hx => ?_, I.base.tups, I.base.frzs, I.base.tbls⟩, ⟨_, hn, fun j y w' e1 e2 e3 => ?_⟩, fun y c e => ?_, I.free, I.freeC, fun p hp => ?_, fun b u e => ?_, by rw [List.length_set]; exact I.len⟩
  · obtain ⟨sl, q⟩ := I.base.slot b o e n' hb hx
    exact ⟨sl, keep b _ (neL b o e) q⟩
  · obtain ⟨o', q⟩ := I.base.there b o e hx
    exact ⟨o', keep b _ (neL b o e) q⟩
  · by_cases hj : j = i
    · subst hj
      by_cases hlt : j < σ.length
      · rw [List.getElem?_set_self hlt] at e2
        cases e2
      · rw [List.getElem?_eq_none (by rw [List.length_set]; omega)] at e2
        cases e2
    · rw [List.getElem?_set_ne (Ne.symm hj)] at e2
      obtain ⟨u, r, q⟩ := hl j y w' e1 e2 e3
      refine ⟨u, r, ?_⟩
      have ny : y ≠ n := fun e => hj (nodup_ix hN e1 (e ▸ hi))
      rcases q with ⟨k, q⟩ | ⟨k, c, q, z⟩
      · exact .inl ⟨k, by simp [ny, q]⟩
      · exact .inr ⟨k, c, q, z.sameBut hs (I.cne y c q)⟩
  · obtain ⟨w', z⟩ := I.cell y c e
    exact ⟨w', z.sameBut hs (I.cne y c e)⟩
  · obtain ⟨e, n', ne, nf, d⟩ := I.pin p hp
    exact ⟨keep _ _ ne e, n', ne, nf, d⟩
  · refine (I.hok b u e).stay (fun c v' hc q => keep c v' (fun z => ?_) q) (fun _ q => q) fun _ _ q => q
    have := I.free
    rcases hc with rfl | hc
    · rw [z, this] at e; cases e
    · rw [z, this] at hc; cases hc
theorem catch_ok {EK : XK} {e : Value} {s' : Shared} {kn n : Str} {kp hpos : Pos} {CK : Addr} {bmK : List Value} {i : Nat} {b₀ : Stmt} {suite : List Stmt} {tsu : TS} {D : Ends} (hex : X.ex = []) (hst : X.stack = X.env :: X.outer) (hfr : X.env.frame = some X.env.locals) (ZK : ExcW X.K CK bmK) (hgk : Gl X kn) (hmk : X.mg kn = some (.ref CK))
    (hN : X.N.Nodup) (hi : X.N[i]? = some n) (hn : X.env.scope.names.lookup n = some .local) (hs : ∀ a, PSs (X.mark a) (b₀ :: suite) tsu) (hd : (kn == ("__debug__" : Str)) = false)
    (hE : ∀ cv dd H2, EK cv dd H2 → ∃ C bm, cv = .ref C ∧ ExcW X.K C bm ∧ (Value.ref C :: bm).contains (.ref CK) = true ∧ ∀ a, H2 a = none → tsu (DoneAs D i) (σ.set i (some (.ref a))) (upd H2 a (excHO a C dd)))
    (I : Inv X pins σ H s) (hq : CXd X.prog X.w X.stack H s EK e s') :
    wpAny (model X.prog X.w) X.A (noteFrame e X.env) (fun _ s₂ => wpAny (model X.prog X.w) X.A (setFlight e none) (fun _ s₃ => wpAny (model X.prog X.w) X.A (handleBy e X.env [.ExceptHandler (some (.Name kn kp)) (some n) (b₀ :: suite) hpos]) (SP X pins D) X.xe s₃) X.xe s₂) X.xe s' := by
  obtain ⟨a, C, dd, H', rfl, qE, ho, hg, u, hok, ha, ha0, ⟨B, fl, hB⟩⟩ := hq
  obtain ⟨C', bm, eC, Z, hb, rd⟩ := hE _ _ _ qE
  cases eC
  have hA : X.A.frames = some (X.env :: X.outer) := by rw [← hst]; exact I.ok.frames
  have fl' : FlyD B (X.env :: X.outer) a (.ref C) dd .none s'.heap := by rw [← hst]; exact fl
  refine noteD hA hfr fl' fun h4 fl4 sm4 => ?_
  refine flightD fl4 fun h5 fl5 sm5 => ?_
  have hF : s'.heap.FunFrames B X.stack := fl.frm
  have I5 : Inv X pins σ H' { s' with heap := h5 } := I.landed ho hg u hok hB hF fl5.stay (sm4.trans sm5)
  obtain ⟨oe, _, _, _, _, ⟨he1, he2, _, _⟩, _⟩ := fl5.tr.ex
  refine wpAny_handleBy_cons (codeAny_handlers_test (ld_glob (X := X.mark a) (I5.mark a) hgk hmk ?_ hd)) (by intro q; cases q)
  refine xmatch Z ZK I5.kIn he1 he2 hb ?_
  refine codeAny_handlers_suite_as ?_
  refine flightD fl5 fun h6 fl6 sm6 => ?_
  have I6 : Inv X pins σ H' { s' with heap := h6 } := I.landed ho hg u hok hB hF fl6.stay ((sm4.trans sm5).trans sm6)
  obtain ⟨o6, v6, _, _, _, ⟨g1, g2, g3, g4⟩, _, _, _, _, _, g5⟩ := fl6.tr.ex
  have z0 : X.s₀.heap.get? a = none := by
    cases q : X.s₀.heap.get? a with
    | none => rfl
    | some o =>
      obtain ⟨o', q'⟩ := I.base.there a o q (by rw [hex]; simp)
      rw [ha0] at q'
      cases q'
  have zL : a ≠ X.env.locals := fun z => by
    obtain ⟨m, ⟨o, _, _, q, _⟩, _⟩ := I.loc
    rw [← z, ha0] at q
    cases q
  have zC : ∀ x c, X.env.cells.lookup x = some c → c ≠ a := fun x c q z => by
    obtain ⟨v, o, q', _⟩ := I.cell x c q
    rw [z, ha0] at q'
    cases q'
  have zP : ∀ p ∈ X.pn ++ pins, p.1 ≠ a := fun p hp z => by
    have q' := (I.pin p hp).1
    rw [z, ha0] at q'
    cases q'
  have J6 := (I6.track ha z0 (C := C) (dd := dd) ⟨o6, v6, g1, g2, g3, g4, g5⟩ zL zC zP).mark a
  refine store_ok (X := X.mark a) J6 hN hi (.inl hn) (v := .ref a) (u := .ref a) rfl (fun s7 J7 => ?_) (.inr hn)
  refine wpAny_mono (hs a pins s7 _ _ (DoneAs D i) J7 (rd a ha)) (fun f s8 q8 => ?_) fun _ _ z => z.elim
  have fin : ∀ {σ8 : St} {H8 : Hp}, Inv (X.mark a) pins σ8 H8 s8 → (∀ s9, Inv X pins (σ8.set i none) H8 s9 → SP X pins D f s9) → wpAny (model X.prog X.w) X.A (do bindName X.env n .none; unbindBehindTheSuite X.env n hpos) (fun _ s9 => SP X pins D f s9) X.xe s8 := fun {σ8 H8} J8 k => by
    have I8 : Inv X pins σ8 H8 s8 := J8.unmark I.ok
    obtain ⟨m, hm, hl⟩ := id I8.loc
    exact wpAny_nameGoes_keeps hn hm (by rw [I.ok.kind]; rfl) fun h9 v hn9 hs9 => k _ (I8.drop hN hi hm hl hn9 hs9)
  cases f with
  | next => obtain ⟨σ8, H8, J8, q⟩ := q8; exact fin J8 fun s9 I9 => ⟨_, _, I9, q⟩
  | brk => obtain ⟨σ8, H8, J8, q⟩ := q8; exact fin J8 fun s9 I9 => ⟨_, _, I9, q⟩
  | cont => obtain ⟨σ8, H8, J8, q⟩ := q8; exact fin J8 fun s9 I9 => ⟨_, _, I9, q⟩
  | ret v => obtain ⟨x8, σ8, H8, J8, r8, q⟩ := q8; exact fin J8 fun s9 I9 => ⟨x8, _, _, I9, r8, q⟩
end
end L2
namespace L2
open PySem PySem.Spec PyProof.Rows
section
variable {prog : Program} {w : World} {A : Around} {E : Value → Shared → Prop} {h : Heap} {g : Array GenState} {d : Drawn} {t : Nat} {os : OsState} {a C CK fI dx : Addr} {vs : Array Value} {sl : Array (Option Value)} {K : PySem.W.Frag} {m : Str → Option Value} {name : Str} {v : Value}
end
section
variable {X : Cx} {pins : List (Addr × Obj)} {σ : St} {H : Hp} {s : Shared} {a C CK fI dx : Addr} {dd : Option Addr}
theorem Inv.exc (I : Inv X pins σ H s) (h : H a = some (excHO a C dd)) : ExcO a C dd s.heap := (I.hok a _ h).1
theorem kitx_exc {K : PySem.W.Frag} {bm : List Value} (Z : ExcW K C bm) : PySem.W.KitX K (.ref a) (.ref C) (ExcO a C dd) where
  ty := fun M h _ p => by
    obtain ⟨o, vs, h1, h2, _⟩ := p
    exact h2 ▸ (PySem.W.Looks.ld h1).andThen .now
  it := fun M h X p => by
    obtain ⟨_, _, _, _, _, _, _, _, _, _, _, _, _, _, _, hC, _⟩ := Z.ob _ X
    intro A' Q' E' s' k q
    unfold isType loadHead
    exact wpAny_bind (wpAny_loadPart (k _ _ hC) (wpAny_pure q))
  ne := fun h tp dd its n sl X htp => by
    obtain ⟨_, _, _, _, _, _, _, _, _, _, _, _, _, _, _, hC, _⟩ := Z.ob _ X
    refine Bool.eq_false_iff.mpr fun q => ?_
    have e : C = tp := Value.ref.inj (beq_iff_eq.mp q)
    subst e
    have z := Option.some.inj (hC.symm.trans htp)
    have z1 := congrArg Obj.cls z
    have z2 : "type" = "tuple" := Value.type.inj z1
    exact absurd z2 (by decide)
  ca := fun {prog w A E Q s} X p k => by
    obtain ⟨o, vs, h1, h2, _⟩ := p
    obtain ⟨h, g, d, t, os⟩ := s
    exact xcls_attr Z X h1 h2 k
theorem call_isinstX {bm : List Value} (Z : ExcW X.K C bm) : CallR X (.builtin "isinstance") (fun xs H Q => ∃ a dd c cv b, xs = [.ref a, c] ∧ H a = some (excHO a C dd) ∧ RelV c cv ∧ PySem.W.kitOne X.K (.ref C) cv = some b ∧ Q (.bl b) H) := by
  intro pins s σ H xs us Q I r h
  obtain ⟨a, dd, c, cv, b, rfl, ha, rc, e, q⟩ := h
  obtain ⟨u, w', rfl, ru, rw'⟩ := vals2 r
  cases (show u = Value.ref a from ru)
  have : w' = cv := by
    cases c with
    | ref p => exact (show w' = Value.ref p from rw').trans (show cv = Value.ref p from rc).symm
    | ty n => exact (show w' = Value.type n from rw').trans (show cv = Value.type n from rc).symm
    | non => exact (show w' = Value.none from rw').trans (show cv = Value.none from rc).symm
    | bl n => exact (show w' = Value.bool n from rw').trans (show cv = Value.bool n from rc).symm
    | int n => obtain ⟨t, rfl⟩ := rc; unfold PySem.W.kitOne PySem.W.kitCls at e; split at e <;> rename_i z <;> simp at z e
    | str n => obtain ⟨t, rfl⟩ := rc; unfold PySem.W.kitOne PySem.W.kitCls at e; split at e <;> rename_i z <;> simp at z e
    | byt n => obtain ⟨t, rfl⟩ := rc; unfold PySem.W.kitOne PySem.W.kitCls at e; split at e <;> rename_i z <;> simp at z e
    | flt n => obtain ⟨t, rfl⟩ := rc; unfold PySem.W.kitOne PySem.W.kitCls at e; split at e <;> rename_i z <;> simp at z e
  subst this
  exact PySem.W.kia_one (kitx_exc Z) I.kIn (I.exc ha) e (fun z => nomatch z) fun tk => ⟨.bl b, H, I.tok _, rfl, q⟩
end
end L2
namespace L2
open PySem PySem.Spec PyProof.Rows
section
variable {P : Program} {w : World} {K : PySem.W.Frag} {mg : Str → Option Value} {base : Heap} {N : List Str} {qual : Str} {scope : Scope} {f : Addr} {cd : Value} {A : Around} {outer : List Env} {s₀ : Shared} {H₀ : Hp} {E : XK}
theorem pass_okD : Passes (CXd P w) (cxOf (CXd P w) P w K mg base N qual scope f cd A outer s₀ H₀ E) E := by
  intro pins σ H s e s' I hq
  obtain ⟨a, C, dd, H', rfl, qE, ho, hg, u, hok, ha, ha0, ⟨B, fl, hB⟩⟩ := hq
  have fl' : FlyD B (envOfC qual scope s₀.heap.objs.size f cd :: outer) a (.ref C) dd .none s'.heap := fl
  show wpAny (model P w) (A.deeper (envOfC qual scope s₀.heap.objs.size f cd)) (leaving (envOfC qual scope s₀.heap.objs.size f cd) (.ref a)) (fun _ s'' => CXd P w outer H₀ s₀ E (.ref a) s'') (fun e' s'' => CXd P w outer H₀ s₀ E e' s'') s'
  unfold leaving
  refine wpAny_bind (noteD (L := s₀.heap.objs.size) I.ok.frames rfl fl' fun h4 fl4 sm4 => ?_)
  refine flightD fl4 fun h5 fl5 sm5 => ?_
  have I5 := I.landed ho hg u hok hB fl.frm fl5.stay (sm4.trans sm5)
  have z0 : s₀.heap.get? a = none := by
    cases q : s₀.heap.get? a with
    | none => rfl
    | some o =>
      obtain ⟨o', q'⟩ := I.base.there a o q (by simp [cxOf])
      rw [ha0] at q'
      cases q'
  have locF : ∀ b, b ∈ frs (envOfC qual scope s₀.heap.objs.size f cd :: outer) → b = s₀.heap.objs.size ∨ b ∈ frs outer := fun b hb => List.mem_cons.mp (I.stkSub b hb)
  refine ⟨a, C, dd, H', rfl, qE, I5.os, I5.bare, I5.base, I5.hok, ha, z0, ⟨⟨B, fl5.pop, fun b o hb q z => ?_⟩⟩⟩
  obtain ⟨o1, q1, hm, hz⟩ : ∃ o1, s'.heap.get? b = some o1 ∧ b ∉ frs (envOfC qual scope s₀.heap.objs.size f cd :: outer) ∧ ((∃ o', s.heap.get? b = some o') ∨ H' b ≠ none) := by
    rcases z with ⟨o', z⟩ | z
    · obtain ⟨o2, q2⟩ := I.base.there b o' z (by simp [cxOf])
      obtain ⟨o1, q1⟩ := u.there b o2 q2 (by simp)
      exact ⟨o1, q1, fun y => (locF b y).elim (Nat.ne_of_lt (Heap.lt_size z)) hb, .inl ⟨o2, q2⟩⟩
    · cases hz : H' b with
      | none => exact absurd hz z
      | some v =>
        obtain ⟨o1, q1⟩ := some_of (hok b v hz)
        refine ⟨o1, q1, fun y => ?_, .inr (by simp)⟩
        obtain ⟨_, o, q', _⟩ := I.stack.mem y
        have := u.free b o q' (I.stkFree b y) (by simp)
        rw [hz] at this
        cases this
  have q2 := hB b o1 hm q1 hz
  have q3 := fl5.stay b o1 q2
  have q4 : h5.get? b = some o := q
  rw [q3] at q4
  cases q4
  exact q2
end
section
variable {X : Cx} {CX : CXT} {k : Nat} {f : Addr} {fd : FuncData} {x : Str} {st : Stmt} {ps : List Str} {sp : Sp} {e : Expr} {es : List Expr} {p pos : Pos} {t : TA} {E : XK}
theorem pe_fnX (D : Dn X.K X.mg x st ps f fd) (G : FnOk X.prog X.w X.K X.mg X.base CX k f fd ps sp) (hx : Passes CX X E) (hr : Room k X.A) (hg : Gl X x) (ha : PA X (e :: es) t) (hdb : (x == ("__debug__" : Str)) = false := by decide)
    (hs : starEach (e :: es) X.env = (false, eval e X.env) :: starEach es X.env := by rfl) (hpl : (backTo pos (starEach es X.env)).any (·.1) = false := by rfl) : PE X (.Call (.Name x p) (e :: es) [] pos) (tCall sp [] E t) :=
  pe_call G hr hg D.gl D.fn.kp D.bd .nil hx ha hdb hs hpl
end
section
variable {X : Cx}
abbrev TY := Ends → XK → St → Hp → Prop
def PTry (X : Cx) (body : List Stmt) (tb : TY) : Prop :=
  ∀ (pins : List (Addr × Obj)) (s : Shared) (σ : St) (H : Hp) (D : Ends) (EK : XK), Inv X pins σ H s → tb D EK σ H →
    wpAny (model X.prog X.w) X.A (execs body X.env) (SP X pins D) (fun ev s' => ∃ H1 s1, Inv X pins σ H1 s1 ∧ CXd X.prog X.w X.stack H1 s1 EK ev s') s
def tTryB (K : PySem.W.Frag) (i : Nat) (CK : Addr) (tb : TY) (tsu : TS) : TS := fun D σ H => tb D (fun cv dd H2 => ∃ C bm, cv = .ref C ∧ ExcW K C bm ∧ (Value.ref C :: bm).contains (.ref CK) = true ∧
  ∀ a, H2 a = none → tsu (DoneAs D i) (σ.set i (some (.ref a))) (upd H2 a (excHO a C dd))) σ H
theorem ps_tryB {body : List Stmt} {tb : TY} {kn n : Str} {kp hpos pos : Pos} {CK : Addr} {bmK : List Value} {i : Nat} {b₀ : Stmt} {suite : List Stmt} {tsu : TS}
    (hex : X.ex = []) (hst : X.stack = X.env :: X.outer) (hfr : X.env.frame = some X.env.locals) (hb : PTry X body tb)
    (ZK : ExcW X.K CK bmK) (hgk : Gl X kn) (hmk : X.mg kn = some (.ref CK)) (hN : X.N.Nodup) (hi : X.N[i]? = some n) (hn : X.env.scope.names.lookup n = some .local) (hs : ∀ a, PSs (X.mark a) (b₀ :: suite) tsu)
    (hd : (kn == ("__debug__" : Str)) = false := by decide) :
    PS X (.Try body [.ExceptHandler (some (.Name kn kp)) (some n) (b₀ :: suite) hpos] [] [] pos) (tTryB X.K i CK tb tsu) := by
  intro pins s σ H D' I h
  refine wpAny_Try_except ?_
  refine wpAny_mono (hb pins s σ H D' _ I h) (fun f s1 q => ?_) fun ev s1 ⟨H1, s2, I1, hq⟩ => ?_
  · cases f with
    | next => exact wpAny_execs_nil q
    | ret v => exact q
    | brk => exact q
    | cont => exact q
  · exact catch_ok hex hst hfr ZK hgk hmk hN hi hn hs hd (fun cv dd H2 z => z) I1 hq
end
end L2
namespace L2
open PySem PySem.Spec PyProof.Rows
section
variable {X : Cx} {e : Expr} {te : TE} {pos : Pos}
theorem pe_fmtS (he : PE X e te) : PE X (.FormattedValue e (-1) none pos) (fun σ H Q => te σ H fun x H1 => ∃ y : Str, x = .str y ∧ y.length ≤ sizeLine ∧ Q (.str y) H1) := by
  intro pins s σ H Q I h
  refine FormattedValue_plain (thn (he pins s σ H _ I h) fun v s1 ⟨x, H1, I1, r1, y, ex, hy, q⟩ => ?_)
  subst ex
  obtain ⟨tk, rfl⟩ := r1
  exact formatField_str (fun t' tk' => ⟨.str y, H1, I1.tok _, ⟨_, rfl⟩, q⟩) hy
theorem pe_fmtR (he : PE X e te) : PE X (.FormattedValue e 114 none pos) (fun σ H Q => te σ H fun x H1 => ∃ y : Str, x = .str y ∧ (reprText y).length ≤ sizeLine ∧ Q (.str (reprText y)) H1) := by
  intro pins s σ H Q I h
  refine wpAny_FormattedValue_repr (thn (he pins s σ H _ I h) fun v s1 ⟨x, H1, I1, r1, y, ex, hy, q⟩ => ?_)
  subst ex
  obtain ⟨tk, rfl⟩ := r1
  refine pyReprObj_str ?_ hy
  exact formatField_str (fun t' tk' => ⟨.str (reprText y), H1, (I1.tok _).tok _, ⟨_, rfl⟩, q⟩) hy
end
section
variable {X : Cx} {pins : List (Addr × Obj)} {σ : St} {H : Hp} {s : Shared} {C : Addr}
theorem Un.newN {fs ex : List Addr} {h h' : Heap} {a : Addr} {o : HO} (k : ∀ b u, h.get? b = some u → h'.get? b = some u) (hp : h.get? a = none) (hn : H a = none) : Un fs ex H (upd H a o) h h' where
  keep := fun b u q _ _ _ => k b u q
  slot := fun b u q _ _ _ => ⟨u.slots, k b u q⟩
  free := fun b u q n _ => by rw [upd_ne fun z => by rw [z, hp] at q; cases q]; exact n
  there := fun b u q _ => ⟨u, k b u q⟩
  tups := fun b xs q => by rw [upd_ne (ne_of_none q hn)]; exact q
  frzs := fun b u xs q => by rw [upd_ne (ne_of_none q hn)]; exact q
  tbls := fun b ps q => ⟨#[], by rw [upd_ne (ne_of_none q hn), q]; simp⟩
theorem Inv.madeX {h' : Heap} {a : Addr} {us : List Value} (I : Inv X pins σ H s) (hx : Heap.MadeExcOf s.heap h' a (.ref C) us) : H a = none ∧ Inv X pins σ (upd H a (rawHO a C none)) { s with heap := h' } := by
  obtain ⟨t, e1, e2, e3⟩ := hx.there
  have hn : H a = none := by
    cases q : H a with
    | none => rfl
    | some u =>
      obtain ⟨o, z⟩ := some_of (I.hok a u q)
      rw [hx.new] at z
      cases z
  refine ⟨hn, I.un (Un.newN hx.keeps hx.new hn) fun b u e => ?_⟩
  by_cases hb : b = a
  · subst hb
    rw [upd_same] at e
    cases e
    exact RawX.ok ⟨t, e1⟩
  · rw [upd_ne hb] at e
    exact (I.hok b u e).stay (fun c v _ q => hx.keeps c v q) (fun c q => by rw [upd_ne (ne_of_none q hn)]; exact q) fun c xs q => by rw [upd_ne (ne_of_none q hn)]; exact q
theorem ps_raise0 {bm : List Value} {x : Str} {np cpos pos : Pos} {e₀ : Expr} {rest : List Expr} {ta : TA} {R : Addr → Option Addr → Hp → Prop} (hc : X.calm = true) (Z : Exc X.K C bm) (hg : Gl X x) (hm : X.mg x = some (.ref C)) (ha : PA X (e₀ :: rest) ta) (hR : RaiseOkD X C R)
    (he : starEach (e₀ :: rest) X.env = (false, eval e₀ X.env) :: starEach rest X.env := by rfl) (hpl : (backTo cpos (starEach rest X.env)).any (·.1) = false := by rfl) (hd : (x == ("__debug__" : Str)) = false := by decide) :
    PS X (.Raise (some (.Call (.Name x np) (e₀ :: rest) [] cpos)) none pos) (fun _ σ H => ta σ H fun vs H1 => vs.length ≤ sizeLine ∧ ∀ a, H1 a = none → R a none (upd H1 a (rawHO a C none))) := by
  intro pins s σ H D I h
  obtain ⟨N, nm, qn, bs, hd', sn, sub, ab, col, dd, k0, k1, k2, k3, k5, mN, hC, hN, hni, T⟩ := (Z.at I.mod.kin).ob
  refine wpAny_Raise_call_subT (C := C) (nm := nm) (q := qn) (N := N) (bs := bs) (bm := bm) (hdct := hd') (sn := sn) (sub := sub) (ab := ab) (col := col) (dd := dd) (k0 := k0) (k1 := k1) (k2 := k2) (k3 := k3) (k5 := k5)
    F.excBase_ValueError (mN := mN) (T.hasType (b := true) (by rfl)) (I.ok.hd hc) (by rw [he]; show (false || (backTo cpos (starEach rest X.env)).any (·.1)) = false; rw [hpl]; rfl) hni (ld_glob I hg hm ⟨rfl, ?_⟩ hd)
  have h1 := ha cpos pins s σ H _ I h
  rw [he] at h1 ⊢
  refine Calls.evalArgs_plain (thn h1 fun us s1 ⟨vs, H1, I1, r1, q1, q2⟩ => ⟨rfl, by rw [← r1.length]; exact q1, I1.bk _ _ hC, hN.keeps I1.bk, T.keeps I1.bk, fun h' a hx => ?_⟩)
  obtain ⟨n1, I2⟩ := I1.madeX hx
  exact hR pins σ _ _ a none I2 upd_same (q2 a n1)
end
end L2
namespace L2
open PySem PySem.Spec PyProof.Rows
section
variable {prog : Program} {w : World} {A : Around} {E : Value → Shared → Prop} {K : PySem.W.Frag}
theorem unchain_none {h : Heap} {g : Array GenState} {d : Drawn} {t : Nat} {os : OsState} {b : Addr} {ob : Obj} {vb : Array Value} {e : Value} {R : Result → Shared → Prop} (hb : h.get? b = some ob) (hd : ob.data = .fields vb) (h2 : vb[2]? = some .none) (q : R (.ok (.ret .none)) ⟨h, g, d, t, os⟩) :
    codeAny (model prog w) A (.builtin "proto.unchain" ⟨[e, .ref b, .ref b, .bool false], []⟩) R ⟨h, g, d, t, os⟩ := by
  refine codeAny_builtin (b := Builtin.«proto.unchain») (entryFor_of_fast (by kernel_rfl)) ?_
  show wpAny _ _ (field (.ref b) 2 >>= _) _ _ _
  refine wpAny_bind (wpAny_field hb hd h2 ?_)
  exact wpAny_pure q
theorem raiseNew_ctx {α : Type} {s : Shared} {b e : Addr} {ob oe : Obj} {vb ve : Array Value} {Q : α → Shared → Prop} (hh : A.handled = some (.ref b)) (ne : b ≠ e) (hb : s.heap.get? b = some ob) (hd : ob.data = .fields vb) (h2 : vb[2]? = some .none)
    (he : s.heap.get? e = some oe) (hde : oe.data = .fields ve) (hz : 2 < ve.size) (q : E (.ref e) { s with heap := s.heap.update e (Obj.mapFields (·.setIfInBounds 2 (.ref b))) }) : wpAny (model prog w) A (raiseNew (.ref e) : Sem α) Q E s := by
  unfold raiseNew
  refine wpAny_bind (wpAny_handled ?_)
  rw [hh]
  show wpAny _ _ (if (Value.ref b != Value.ref e) = true then _ else _) _ _ _
  rw [if_pos (by rw [bne_iff_ne]; intro z; injection z with z; exact ne z)]
  refine wpAny_bind (wpAny_holding (wpAny_runValue ?_))
  obtain ⟨h, g, d, t, os⟩ := s
  refine unchain_none hb hd h2 ?_
  show wpAny _ _ (setField (.ref e) 2 (.ref b) >>= _) _ _ _
  exact wpAny_bind (wpAny_setField he hde hz (wpAny_throw q))
theorem raise_from {env : Env} {x c : Sem Value} {s : Shared} {C CB : Addr} {bm bmB : List Value} {Q : Flow → Shared → Prop} (Z : ExcW K C bm) (ZB : ExcW K CB bmB)
    (h : wpAny (model prog w) A x (fun v s₁ => ∃ e, v = .ref e ∧ wpAny (model prog w) A c (fun u s₂ => ∃ b t ob vb, u = .ref b ∧ A.handled = some (.ref b) ∧ K.In s₂.heap ∧ b ≠ e ∧ s₂.heap.get? b = some ob ∧ ob.cls = .ref CB ∧ ob.data = .fields vb ∧ vb[2]? = some .none ∧
      s₂.heap.get? e = some ⟨.ref C, none, .fields #[.ref t, .none, .none, .none, .bool false, .none], #[]⟩ ∧ ∀ h', h'.get? e = some ⟨.ref C, none, .fields #[.ref t, .none, .ref b, .ref b, .bool true, .none], #[]⟩ → (∀ z, z ≠ e → h'.get? z = s₂.heap.get? z) → E (.ref e) { s₂ with heap := h' }) E s₁) E s) :
    wpAny (model prog w) A (raiseStmt env (some x) (some c)) Q E s := by
  unfold raiseStmt
  refine wpAny_bind (wpAny_mono h (fun v s₁ h₁ => ?_) fun _ _ x => x)
  obtain ⟨e, rfl, h₁⟩ := h₁
  refine wpAny_bind (wpAny_holding (wpAny_mono h₁ (fun u s₂ h₂ => wpAny_bind (wpAny_pure ?_)) fun _ _ x => x))
  obtain ⟨b, t, ob, vb, rfl, hh, hK, ne, hb, hcb, hdb, h2, he, q⟩ := h₂
  obtain ⟨nm, qn, N, bs, hd, sn, sub, ab, col, dd', k0, k1, k2, k3, k5, hC, T⟩ := Z.ob _ hK
  obtain ⟨nmB, qnB, NB, bsB, hdB, snB, subB, abB, colB, ddB, j0, j1, j2, j3, j5, hCB, TB⟩ := ZB.ob _ hK
  have cB : (Value.ref C :: bm).contains (.type "BaseException") = true := by rw [List.contains_cons, T.hasType (b := true) (by rfl), Bool.or_true]
  have cBB : (Value.ref CB :: bmB).contains (.type "BaseException") = true := by rw [List.contains_cons, TB.hasType (b := true) (by rfl), Bool.or_true]
  obtain ⟨hp, g, d, tk, os⟩ := s₂
  obtain ⟨ocls, odict, odata, oslots⟩ := ob
  dsimp only at hcb hdb
  subst hcb hdb
  repeat (first | (with_reducible refine wpAny_loadPart_at he ?_) | (with_reducible refine wpAny_loadPart_at hb ?_) | (with_reducible refine wpAny_loadPart_at hC ?_) | (with_reducible refine wpAny_loadPart_at hCB ?_) | (with_reducible refine wpAny_isSubtype_exc hC ?_; rw [cB]) | (with_reducible refine wpAny_isSubtype_exc hCB ?_; rw [cBB]) | wp_step)
  have nC : e ≠ C := fun z => by
    rw [z] at he
    have := he.symm.trans hC
    cases this
  have he2 : ((hp.update e (Obj.mapFields fun x => x.setIfInBounds 3 (Value.ref b))).update e (Obj.mapFields fun x => x.setIfInBounds 4 (Value.bool true))).get? e = some ⟨.ref C, none, .fields #[.ref t, .none, .none, .ref b, .bool true, .none], #[]⟩ :=
    Heap.get?_update_self _ (Heap.get?_update_self _ he rfl) rfl
  have oth : ∀ z, z ≠ e → ((hp.update e (Obj.mapFields fun x => x.setIfInBounds 3 (Value.ref b))).update e (Obj.mapFields fun x => x.setIfInBounds 4 (Value.bool true))).get? z = hp.get? z := fun z hz => (Heap.get?_update_other _ _ (Ne.symm hz)).trans (Heap.get?_update_other _ _ (Ne.symm hz))
  generalize (hp.update e (Obj.mapFields fun x => x.setIfInBounds 3 (Value.ref b))).update e (Obj.mapFields fun x => x.setIfInBounds 4 (Value.bool true)) = h4 at he2 oth ⊢
  have hC4 : h4.get? C = some (excClassObj nm qn C N bs bm hd sn sub ab col dd' k0 k1 k2 k3 k5 "ValueError.__new__") := (oth C (Ne.symm nC)).trans hC
  have hb4 : h4.get? b = some { cls := Value.ref CB, dict := odict, data := Data.fields vb, slots := oslots } := (oth b ne).trans hb
  refine wpAny_loadPart_at hC4 ?_
  refine wpAny_pure ?_
  refine wpAny_pure ?_
  refine wpAny_bind (m := setFlight (.ref e) none) ?_
  unfold setFlight
  refine wpAny_bind (wpAny_field he2 rfl rfl ?_)
  refine wpAny_pure ?_
  refine raiseNew_ctx hh ne hb4 rfl h2 he2 rfl (show 2 < 6 by decide) ?_
  refine q _ (Heap.get?_update_self _ he2 rfl) fun z hz => (Heap.get?_update_other _ _ (Ne.symm hz)).trans (oth z hz)
end
end L2
namespace L2
open PySem PySem.Spec PyProof.Rows
section
variable {X : Cx} {pins : List (Addr × Obj)} {σ : St} {H : Hp} {s : Shared} {C : Addr}
theorem pe_makeC {bm : List Value} {x : Str} {p pos : Pos} {e : Expr} {es : List Expr} {t : TA} (Z : Exc X.K C bm) (kp : PySem.W.keepIn X.K (.ref C) = true) (hg : Gl X x) (hm : X.mg x = some (.ref C)) (ha : PA X (e :: es) t) (hdb : (x == ("__debug__" : Str)) = false := by decide)
    (he : starEach (e :: es) X.env = (false, eval e X.env) :: starEach es X.env := by rfl) (hpl : (backTo pos (starEach es X.env)).any (·.1) = false := by rfl) :
    PE X (.Call (.Name x p) (e :: es) [] pos) (fun σ H Q => t σ H fun vs H1 => vs.length ≤ sizeLine ∧ ∀ a, H1 a = none → Q (.ref a) (upd H1 a (rawHO a C none))) := by
  intro pins s σ H Q I h
  refine wpAny_Call_Name_kw (ld_glob I hg hm ?_ hdb)
  refine PySem.W.callWith_K (h₀ := X.base) I.ok.mod.kin kp (thn (ha pos pins s σ H _ I h) fun us s1 ⟨vs, H1, I1, r, hz, q⟩ => ⟨I1.kIn, ?_⟩) he hpl
  obtain ⟨N, nm, qn, bs, hd', sn, sub, ab, col, dd, k0, k1, k2, k3, k5, mN, hC, hN, hni, T⟩ := (Z.at I1.kIn).ob
  have len : us.length ≤ sizeLine := by rw [← r.length]; exact hz
  obtain ⟨hp, g, d, tk, os⟩ := s1
  refine wpAny_call_exc_subT F.excBase_ValueError T hC hN hni (fun h' a hx => ?_) len
  obtain ⟨n1, I2⟩ := I1.madeX hx
  exact ⟨.ref a, _, I2, rfl, q a n1⟩
theorem Inv.untrack {h' : Heap} {a : Addr} {φ : Heap → Prop} (I : Inv X pins σ (upd H a (.ext φ)) s) (hn : H a = none) (oth : ∀ b, b ≠ a → h'.get? b = s.heap.get? b) (ha : ∃ o, h'.get? a = some o) : Inv X pins σ H { s with heap := h' } := by
  have sm : ∀ b u, upd H a (.ext φ) b = some u → b ≠ a → H b = some u := fun b u q n => by rwa [upd_ne n] at q
  have un : ∀ b u, H b = some u → upd H a (.ext φ) b = some u := fun b u q => by rw [upd_ne (ne_of_none q hn)]; exact q
  have nb : ∀ b u, upd H a (.ext φ) b = some u → (∀ ψ, u ≠ .ext ψ) → b ≠ a := fun b u q n z => by
    rw [z, upd_same] at q
    cases q
    exact n _ rfl
  refine I.un ⟨fun b u q n _ _ => ?_, fun b u q n _ _ => ?_, fun b u q n _ => ?_, fun b u q _ => ?_, fun b xs q => ?_, fun b u xs q => ?_, fun b ps q => ?_⟩ fun b u q => ?_
  · have : b ≠ a := fun z => by rw [z, upd_same] at n; cases n
    rw [oth b this]; exact q
  · have : b ≠ a := fun z => by rw [z, upd_same] at n; cases n
    exact ⟨u.slots, by rw [oth b this]; exact q⟩
  · have : b ≠ a := fun z => by rw [z, upd_same] at n; cases n
    rwa [upd_ne this] at n
  · by_cases hb : b = a
    · rw [hb]; exact ha
    · exact ⟨u, by rw [oth b hb]; exact q⟩
  · exact sm _ _ q (nb _ _ q fun _ => nofun)
  · exact sm _ _ q (nb _ _ q fun _ => nofun)
  · exact ⟨#[], by rw [sm _ _ q (nb _ _ q fun _ => nofun)]; simp⟩
  · have hb : b ≠ a := fun z => by rw [z, hn] at q; cases q
    refine (I.hok b u (un b u q)).stay (fun c v hc z => ?_) (fun c z => sm _ _ z (nb _ _ z fun _ => nofun)) fun c xs z => sm _ _ z (nb _ _ z fun _ => nofun)
    have : c ≠ a := by
      rcases hc with rfl | hc
      · exact hb
      · exact nb _ _ hc fun _ => nofun
    rw [oth c this]
    exact z
end
section
variable {M : Model} {A : Around} {E : Value → Shared → Prop} {s : Shared} {base : Heap} {env : Env} {outer : List Env} {L e : Addr} {cls : Value} {dd : Option Addr}
theorem noteT {l : List Env} {Q : Unit → Shared → Prop} (hf : env.frame = some L) (fl : FlyD base l e cls dd (rawInt L) s.heap) (q : Q () s) : wpAny M A (noteFrame (.ref e) env) Q E s := by
  obtain ⟨oe, vs, T, oT, ts, ⟨he, hc, hdd, hd⟩, h1, nb, nT, ⟨hT, hdT⟩, h3, hcx⟩ := fl.tr.ex
  unfold noteFrame
  rw [hf]
  refine wpAny_bind (wpAny_field he hd h1 ?_)
  rw [if_pos (by simp)]
  refine wpAny_bind (wpAny_field hT hdT h3 ?_)
  rw [if_pos (by simp)]
  exact wpAny_pure q
theorem FlyD.but {l : List Env} {v : Value} {h h' : Heap} (fl : FlyD base l e cls dd v h) (hs : Heap.SameBut L h h') (hL : base.get? L = none) (ho : ∃ o, h.get? L = some o ∧ ∀ ws, o.data ≠ .fields ws) (hF : h'.FunFrames base l) : FlyD base l e cls dd v h' := by
  obtain ⟨oe, vs, T, oT, ts, ⟨he, hc, hdd, hd⟩, h1, nb, nT, ⟨hT, hdT⟩, h3, hcx⟩ := fl.tr.ex
  obtain ⟨oL, hoL, nf⟩ := ho
  have ne : e ≠ L := fun z => by rw [z, hoL] at he; cases he; exact nf _ hd
  have nTL : T ≠ L := fun z => by rw [z, hoL] at hT; cases hT; exact nf _ hdT
  refine ⟨fun b o q => ?_, fl.new, hF, ⟨oe, vs, T, oT, ts, ⟨(hs.2 e ne).trans he, hc, hdd, hd⟩, h1, nb, nT, ⟨(hs.2 T nTL).trans hT, hdT⟩, h3, hcx⟩⟩
  have : b ≠ L := fun z => by rw [z, hL] at q; cases q
  exact (hs.2 b this).trans (fl.stay b o q)
end
end L2
namespace L2
open PySem PySem.Spec PyProof.Rows
def LeaveT (X : Cx) (E : XK) : Prop := ∀ (pins : List (Addr × Obj)) (σ : St) (H : Hp) (s : Shared) (a C L : Addr) (dd : Option Addr) (B : Heap), X.env.frame = some L → Inv X pins σ H s → FlyD B X.stack a (.ref C) dd (rawInt L) s.heap →
  (∀ b o, b ∉ frs X.stack → s.heap.get? b = some o → ((∃ o', X.s₀.heap.get? b = some o') ∨ H b ≠ none) → B.get? b = some o) → E (.ref C) dd H → H a = none → X.s₀.heap.get? a = none → X.xe (.ref a) s
section
variable {P : Program} {w : World} {K : PySem.W.Frag} {mg : Str → Option Value} {base : Heap} {N : List Str} {qual : Str} {scope : Scope} {f : Addr} {cd : Value} {A : Around} {outer : List Env} {s₀ : Shared} {H₀ : Hp} {E : XK}
theorem leave_okT : LeaveT (cxOf (CXd P w) P w K mg base N qual scope f cd A outer s₀ H₀ E) E := by
  intro pins σ H s a C L dd B hL I fl hB qE ha h0
  have fl' : FlyD B (envOfC qual scope s₀.heap.objs.size f cd :: outer) a (.ref C) dd (rawInt L) s.heap := fl
  show wpAny (model P w) (A.deeper (envOfC qual scope s₀.heap.objs.size f cd)) (leaving (envOfC qual scope s₀.heap.objs.size f cd) (.ref a)) (fun _ s'' => CXd P w outer H₀ s₀ E (.ref a) s'') (fun e' s'' => CXd P w outer H₀ s₀ E e' s'') s
  unfold leaving
  refine wpAny_bind (noteT hL fl' ?_)
  refine flightD fl' fun h5 fl5 sm5 => ?_
  have stk : s.heap.FunFrames base (envOfC qual scope s₀.heap.objs.size f cd :: outer) := I.stack
  have free := I.stkFree
  have locF : ∀ b, b ∈ frs (envOfC qual scope s₀.heap.objs.size f cd :: outer) → b = s₀.heap.objs.size ∨ b ∈ frs outer := fun b hb => List.mem_cons.mp (I.stkSub b hb)
  have ne0 : ∀ b o, s₀.heap.get? b = some o → b ≠ s₀.heap.objs.size := fun b o q => Nat.ne_of_lt (Heap.lt_size q)
  have keepB : ∀ b o, s.heap.get? b = some o → b ∉ frs (envOfC qual scope s₀.heap.objs.size f cd :: outer) → ((∃ o', s₀.heap.get? b = some o') ∨ H b ≠ none) → h5.get? b = some o := fun b o q hm hz => fl5.stay b o (hB b o hm q hz)
  have slotB : ∀ b o, s.heap.get? b = some o → b ∈ frs (envOfC qual scope s₀.heap.objs.size f cd :: outer) → ∃ sl, h5.get? b = some { o with slots := sl } := fun b o q hm => by
    obtain ⟨_, o', q', hd⟩ := stk.mem hm
    rw [q] at q'
    cases q'
    exact sm5 b o q hd
  have trk : ∀ b u, H b = some u → b ∉ frs (envOfC qual scope s₀.heap.objs.size f cd :: outer) := fun b u q hm => by
    have := free b hm
    rw [q] at this
    cases this
  refine ⟨a, C, dd, H, rfl, qE, I.os, I.bare, ⟨fun b o q n hb _ => ?_, fun b o q n hb _ => ?_, fun b o q n hb => I.base.free b o q n (by exact hb), fun b o q _ => ?_, I.base.tups, I.base.frzs, I.base.tbls⟩, fun b u q => ?_, ha, h0, ⟨⟨B, fl5.pop, fun b o hb q z => ?_⟩⟩⟩
  · exact keepB b o (I.base.keep b o q n hb (by simp [cxOf])) (fun z => (locF b z).elim (ne0 b o q) hb) (.inl ⟨o, q⟩)
  · obtain ⟨sl, q1⟩ := I.base.slot b o q n hb (by simp [cxOf])
    by_cases hm : b ∈ frs (envOfC qual scope s₀.heap.objs.size f cd :: outer)
    · obtain ⟨sl', q2⟩ := slotB b _ q1 hm
      exact ⟨sl', q2⟩
    · exact ⟨sl, keepB b _ q1 hm (.inl ⟨o, q⟩)⟩
  · obtain ⟨o', q1⟩ := I.base.there b o q (by simp [cxOf])
    by_cases hm : b ∈ frs (envOfC qual scope s₀.heap.objs.size f cd :: outer)
    · obtain ⟨sl', q2⟩ := slotB b _ q1 hm
      exact ⟨_, q2⟩
    · exact ⟨_, keepB b _ q1 hm (.inl ⟨o, q⟩)⟩
  · refine (I.hok b u q).stay (fun c v hc z => ?_) (fun _ z => z) fun _ _ z => z
    have hc' : H c ≠ none := by
      rcases hc with rfl | hc
      · rw [q]; exact fun y => nomatch y
      · rw [hc]; exact fun y => nomatch y
    refine keepB c v z (fun y => hc' (free c y)) (.inr hc')
  · obtain ⟨o1, q1, hm⟩ : ∃ o1, s.heap.get? b = some o1 ∧ b ∉ frs (envOfC qual scope s₀.heap.objs.size f cd :: outer) := by
      rcases z with ⟨o', z⟩ | z
      · obtain ⟨o1, q1⟩ := I.base.there b o' z (by simp [cxOf])
        exact ⟨o1, q1, fun y => (locF b y).elim (ne0 b o' z) hb⟩
      · cases hz : H b with
        | none => exact absurd hz z
        | some u =>
          obtain ⟨o1, q1⟩ := some_of (I.hok b u hz)
          exact ⟨o1, q1, trk b u hz⟩
    have y := keepB b o1 q1 hm z
    have q4 : h5.get? b = some o := q
    rw [y] at q4
    cases q4
    exact hB b o hm q1 z
end
end L2
namespace L2
open PySem PySem.Spec PyProof.Rows
theorem ExcO.ok {P : Program} {w : World} {H : Hp} {h : Heap} {a C : Addr} {dd : Option Addr} (x : ExcO a C dd h) : ObjOk P w H h a (excHO a C dd) := by
  obtain ⟨o, vs, e, _⟩ := id x
  exact ⟨x, ⟨_, e⟩, fun h1 h2 ⟨o, vs, e1, r⟩ k => ⟨o, vs, k _ e1, r⟩⟩
theorem frames_swap {h b b' : Heap} : ∀ {l : List Env}, h.FunFrames b l → (∀ a ∈ l.filterMap (·.frame), b'.get? a = none) → h.FunFrames b' l
  | [], _, _ => trivial
  | env :: l, ⟨hk, ⟨L, o, hf, _, ho, hd⟩, hr⟩, hn => ⟨hk, ⟨L, o, hf, hn L (by rw [List.filterMap_cons, hf]; exact List.mem_cons_self), ho, hd⟩, frames_swap hr fun a ha => hn a (by rw [List.filterMap_cons, hf]; exact List.mem_cons_of_mem _ ha)⟩
section
variable {M : Model} {A : Around} {E : Value → Shared → Prop} {s : Shared} {base : Heap} {L e : Addr} {cls : Value} {dd : Option Addr}
theorem flightS {l : List Env} {Q : Unit → Shared → Prop} (fl : FlyD base l e cls dd (rawInt L) s.heap) (q : ∀ h', (∀ b, h'.get? b = s.heap.get? b) → Q () { s with heap := h' }) : wpAny M A (setFlight (.ref e) (some L)) Q E s := by
  obtain ⟨oe, vs, T, oT, ts, ⟨he, hc, hdd, hd⟩, h1, nb, nT, ⟨hT, hdT⟩, h3, hcx⟩ := fl.tr.ex
  obtain ⟨hz, hz3⟩ := Array.getElem?_eq_some_iff.mp h3
  unfold setFlight
  refine wpAny_bind (wpAny_field he hd h1 ?_)
  rw [if_pos (by simp)]
  refine wpAny_setField hT hdT hz (q _ fun b => ?_)
  by_cases hb : b = T
  · subst hb
    have same : Obj.mapFields (·.setIfInBounds 3 (rawInt L)) oT = oT := by
      obtain ⟨c, d, dt, sl⟩ := oT
      dsimp only at hdT
      subst hdT
      show Obj.mk c d (.fields (ts.setIfInBounds 3 (rawInt L))) sl = _
      congr 2
      apply Array.ext
      · simp
      · intro i h1 h2
        by_cases hi : i = 3
        · subst hi; simp [hz3]
        · rw [Array.getElem_setIfInBounds_ne _ (Ne.symm hi)]
    exact (Heap.get?_update_self _ hT (by show (Obj.mapFields (·.setIfInBounds 3 (rawInt L)) oT).isFreed = false; rw [same]; exact Obj.isFreed_of_fields hdT)).trans ((congrArg some same).trans hT.symm)
  · exact Heap.get?_update_other _ _ (Ne.symm hb)
theorem FlyD.same {l : List Env} {v : Value} {h h' : Heap} (fl : FlyD base l e cls dd v h) (k : ∀ b, h'.get? b = h.get? b) : FlyD base l e cls dd v h' := by
  obtain ⟨oe, vs, T, oT, ts, ⟨he, hc, hdd, hd⟩, h1, nb, nT, ⟨hT, hdT⟩, h3, hcx⟩ := fl.tr.ex
  exact ⟨fun b o q => (k b).trans (fl.stay b o q), fl.new, fl.frm.of_keeps fun b o q _ => ⟨o, (k b).trans q, rfl⟩, ⟨oe, vs, T, oT, ts, ⟨(k e).trans he, hc, hdd, hd⟩, h1, nb, nT, ⟨(k T).trans hT, hdT⟩, h3, hcx⟩⟩
end
section
variable {X : Cx} {pins : List (Addr × Obj)} {σ : St} {H : Hp} {s : Shared}
theorem catch_from {EK E : XK} {e : Value} {s' : Shared} {kn n : Str} {kp hpos np rpos : Pos} {CK C2 : Addr} {bmK bm2 : List Value} {i : Nat} {ex : Expr} (hex : X.ex = []) (hst : X.stack = X.env :: X.outer) (hfr : X.env.frame = some X.env.locals) (hT : LeaveT X E) (ZK : ExcW X.K CK bmK) (Z2 : ExcW X.K C2 bm2) (hgk : Gl X kn) (hmk : X.mg kn = some (.ref CK))
    (hN : X.N.Nodup) (hi : X.N[i]? = some n) (hn : X.env.scope.names.lookup n = some .local) (hx : ∀ a, PE (X.mark a) ex (fun σ H Q => ∀ e2, H e2 = none → Q (.ref e2) (upd H e2 (rawHO e2 C2 none)))) (hd : (kn == ("__debug__" : Str)) = false) (hdn : (n == ("__debug__" : Str)) = false) (hcd : (n == ("__classdict__" : Str)) = false)
    (hE : ∀ cv dd H2, EK cv dd H2 → ∃ C bm, cv = .ref C ∧ ExcW X.K C bm ∧ (Value.ref C :: bm).contains (.ref CK) = true ∧ dd ≠ none ∧ E (.ref C2) none H2 ∧ ∀ b, H2 b = none → X.H₀ b = none)
    (I : Inv X pins σ H s) (hq : CXd X.prog X.w X.stack H s EK e s') {D : Ends} :
    wpAny (model X.prog X.w) X.A (noteFrame e X.env) (fun _ s₂ => wpAny (model X.prog X.w) X.A (setFlight e none) (fun _ s₃ => wpAny (model X.prog X.w) X.A (handleBy e X.env [.ExceptHandler (some (.Name kn kp)) (some n) [.Raise (some ex) (some (.Name n np)) rpos] hpos]) (SP X pins D) X.xe s₃) X.xe s₂) X.xe s' := by
  obtain ⟨a, C, dd, H', rfl, qE, ho, hg, u, hok, ha, ha0, ⟨B, fl, hB⟩⟩ := hq
  obtain ⟨C', bm, eC, Z, hb, hdd, rd, rn⟩ := hE _ _ _ qE
  cases eC
  have hA : X.A.frames = some (X.env :: X.outer) := by rw [← hst]; exact I.ok.frames
  have fl' : FlyD B (X.env :: X.outer) a (.ref C) dd .none s'.heap := by rw [← hst]; exact fl
  refine noteD hA hfr fl' fun h4 fl4 sm4 => ?_
  refine flightD fl4 fun h5 fl5 sm5 => ?_
  have hF : s'.heap.FunFrames B X.stack := fl.frm
  have I5 : Inv X pins σ H' { s' with heap := h5 } := I.landed ho hg u hok hB hF fl5.stay (sm4.trans sm5)
  obtain ⟨oe, _, _, _, _, ⟨he1, he2, _, _⟩, _⟩ := fl5.tr.ex
  refine wpAny_handleBy_cons (codeAny_handlers_test (ld_glob (X := X.mark a) (I5.mark a) hgk hmk ?_ hd)) (by intro q; cases q)
  refine xmatch Z ZK I5.kIn he1 he2 hb ?_
  refine codeAny_handlers_suite_as ?_
  refine flightD fl5 fun h6 fl6 sm6 => ?_
  have I6 : Inv X pins σ H' { s' with heap := h6 } := I.landed ho hg u hok hB hF fl6.stay ((sm4.trans sm5).trans sm6)
  obtain ⟨o6, v6, _, _, _, ⟨g1, g2, g3, g4⟩, _, _, _, _, _, g5⟩ := fl6.tr.ex
  have z0 : X.s₀.heap.get? a = none := by
    cases q : X.s₀.heap.get? a with
    | none => rfl
    | some o =>
      obtain ⟨o', q'⟩ := I.base.there a o q (by rw [hex]; simp)
      rw [ha0] at q'
      cases q'
  have zL : a ≠ X.env.locals := fun z => by
    obtain ⟨m, ⟨o, _, _, q, _⟩, _⟩ := I.loc
    rw [← z, ha0] at q
    cases q
  have zC : ∀ x c, X.env.cells.lookup x = some c → c ≠ a := fun x c q z => by
    obtain ⟨v, o, q', _⟩ := I.cell x c q
    rw [z, ha0] at q'
    cases q'
  have zP : ∀ p ∈ X.pn ++ pins, p.1 ≠ a := fun p hp z => by
    have q' := (I.pin p hp).1
    rw [z, ha0] at q'
    cases q'
  have J6 := (I6.track ha z0 (C := C) (dd := dd) ⟨o6, v6, g1, g2, g3, g4, g5⟩ zL zC zP).mark a
  refine store_ok (X := X.mark a) J6 hN hi (.inl hn) (v := .ref a) (u := .ref a) rfl (fun s7 J7 => ?_) (.inr hn)
  clear g1 g2 g3 g4 g5 he1 he2 I5 I6 J6 fl6 fl5 fl4 sm6 sm5 sm4 fl fl'
  have nA : ∀ b, upd H' a (excHO a C dd) b = none → H' b = none ∧ b ≠ a := fun b q => by
    have : b ≠ a := fun z => by rw [z, upd_same] at q; cases q
    exact ⟨by rwa [upd_ne this] at q, this⟩
  refine wpAny_execs_cons ?_
  rw [arm_exec_Raise]
  refine wpAny_bind (wpAny_standAt ?_)
  show wpAny _ _ (raiseStmt X.env (some (eval ex X.env >>= fun v => standAt rpos >>= fun _ => pure v)) (some (eval (.Name n np) X.env >>= fun v => standAt rpos >>= fun _ => pure v))) _ _ s7
  refine raise_from Z2 Z ?_
  refine wpAny_bind (wpAny_mono (hx a pins s7 _ _ (fun v H2 => ∃ e2, v = .ref e2 ∧ upd H' a (excHO a C dd) e2 = none ∧ H2 = upd (upd H' a (excHO a C dd)) e2 (rawHO e2 C2 none)) J7 (fun e2 n2 => ⟨e2, rfl, n2, rfl⟩)) (fun v s8 q8 => wpAny_bind (wpAny_standAt (wpAny_pure ?_))) fun _ _ z => z.elim)
  obtain ⟨xv, H8, J8, r8, e2, rfl, n2, rfl⟩ := q8
  cases (show v = Value.ref e2 from r8)
  obtain ⟨n2', n2a⟩ := nA e2 n2
  refine ⟨e2, rfl, ?_⟩
  have si : (σ.set i (some (V.ref a)))[i]? = some (some (.ref a)) := List.getElem?_set_self (by rw [I.len]; exact (List.getElem?_eq_some_iff.mp hi).1)
  refine wpAny_bind (wpAny_mono (pe_var (X := X.mark a) (i := i) hi (.inl hn) hdn hcd pins s8 _ _ (fun v H2 => v = .ref a ∧ H2 = upd (upd H' a (excHO a C dd)) e2 (rawHO e2 C2 none)) J8 ⟨_, si, rfl, rfl⟩) (fun v s9 q9 => wpAny_bind (wpAny_standAt (wpAny_pure ?_))) fun _ _ z => z.elim)
  obtain ⟨xv, H9, J9, r9, rfl, rfl⟩ := q9
  cases (show v = Value.ref a from r9)
  have ea : upd (upd H' a (excHO a C dd)) e2 (rawHO e2 C2 none) a = some (excHO a C dd) := by rw [upd_ne (Ne.symm n2a)]; exact upd_same
  obtain ⟨ob, vb, b1, b2, b3, b4, b5⟩ := J9.exc ea
  obtain ⟨t0, x0⟩ := J9.raw upd_same
  refine ⟨a, t0, ob, vb, rfl, rfl, J9.kIn, Ne.symm n2a, b1, b2, b4, b5 hdd, x0, fun h' hx' oth => ?_⟩
  have e20 : X.s₀.heap.get? e2 = none := by
    cases q : X.s₀.heap.get? e2 with
    | none => rfl
    | some o =>
      have := J9.base.free e2 o q (rn e2 n2') (by show e2 ∉ X.ex; rw [hex]; simp)
      rw [upd_same] at this
      cases this
  have J10 : Inv (X.mark a) pins (σ.set i (some (.ref a))) (upd (upd H' a (excHO a C dd)) e2 (excHO e2 C2 none)) { s9 with heap := h' } := by
    have := J9.write (x := e2) (e := e2) (o := excHO e2 C2 none) (h' := h') (t' := s9.toks) (by rw [upd_same]; trivial) (.inl rfl) (fun b u hb q => (oth b hb).trans q) ⟨_, hx'⟩ (ExcO.ok ⟨_, _, hx', rfl, rfl, rfl, fun z => absurd rfl z⟩)
    rwa [upd_upd] at this
  have I10 : Inv X pins (σ.set i (some (.ref a))) (upd (upd H' a (excHO a C dd)) e2 (excHO e2 C2 none)) { s9 with heap := h' } := J10.unmark I.ok
  clear J10 J9 J8 J7
  generalize hH : upd (upd H' a (excHO a C dd)) e2 (excHO e2 C2 none) = H10 at I10
  have eH : H10 e2 = some (excHO e2 C2 none) := by rw [← hH]; exact upd_same
  have tr2 : ∀ b u, H10 b = some u → (∀ φ, u ≠ .ext φ) → b ≠ e2 := fun b u q hu z => by
    rw [z, eH] at q
    cases q
    exact hu _ rfl
  have stk : h'.FunFrames X.base X.stack := I10.stack
  have frE : e2 ∉ frs X.stack := fun z => by
    have := I10.stkFree e2 z
    rw [eH] at this
    cases this
  have inB : ∀ b o, h'.get? b = some o → b ≠ e2 → b ∉ frs X.stack → (PySem.W.hideAll h' (e2 :: frs X.stack)).get? b = some o := fun b o q n1 n2 => PySem.W.hideAll_get _ q fun z => (List.mem_cons.mp z).elim n1 n2
  have frN : ∀ b ∈ frs X.stack, (PySem.W.hideAll h' (e2 :: frs X.stack)).get? b = none := fun b hb => PySem.W.hideAll_none _ (List.mem_cons_of_mem _ hb)
  have hA2 : (X.A.mark (some (Value.ref a))).frames = some (X.env :: X.outer) := hA
  refine noteD0 (base := PySem.W.hideAll h' (e2 :: frs X.stack)) hA2 (by rw [← hst]; exact frames_swap stk frN) hfr hx' (fun b o q => PySem.W.of_hideAll _ q) (PySem.W.hideAll_none _ List.mem_cons_self) rfl rfl (fun z => absurd rfl z) fun h11 fl11 sm11 => ?_
  rw [← hst] at fl11
  have slot : ∀ b o, h'.get? b = some o → b ∈ frs X.stack → ∃ sl, h11.get? b = some { o with slots := sl } := fun b o q hm => by
    obtain ⟨_, o', q', hd'⟩ := stk.mem hm
    rw [q] at q'
    cases q'
    exact sm11 b o q hd'
  have I11 : Inv X pins (σ.set i (some (.ref a))) H10 { s9 with heap := h11 } := by
    refine I10.call' (s' := { s9 with heap := h11 }) (ch := []) rfl ⟨fun b o q n1 hb _ => ?_, fun b o q n1 hb _ => slot b o q hb, fun b o q n1 _ => n1, fun b o q _ => ?_, fun _ _ z => z, fun _ _ _ z => z, fun b ps q => ⟨#[], by rw [q]; simp⟩⟩ (fun b v q => ?_) I10.bare (fun b hb => by cases hb)
    · exact fl11.stay b o (inB b o q (fun z => by rw [z, eH] at n1; cases n1) hb)
    · by_cases h1 : b = e2
      · subst h1
        obtain ⟨oe, _, _, _, _, ⟨y, _⟩, _⟩ := fl11.tr.ex
        exact ⟨oe, y⟩
      · by_cases h2 : b ∈ frs X.stack
        · obtain ⟨sl, y⟩ := slot b o q h2
          exact ⟨_, y⟩
        · exact ⟨o, fl11.stay b o (inB b o q h1 h2)⟩
    · by_cases h1 : b = e2
      · subst h1
        rw [eH] at q
        cases q
        obtain ⟨oe, ve, _, _, _, ⟨y1, y2, y3, y4⟩, _⟩ := fl11.tr.ex
        exact ExcO.ok ⟨oe, ve, y1, y2, y3, y4, fun z => absurd rfl z⟩
      · refine (I10.hok b v q).stay (fun c y hc z => ?_) (fun _ z => z) fun _ _ z => z
        have c1 : c ≠ e2 := by
          rcases hc with rfl | hc
          · exact h1
          · exact tr2 c _ hc fun _ => nofun
        have c2 : H10 c ≠ none := by
          rcases hc with rfl | hc
          · rw [q]; exact fun y => nomatch y
          · rw [hc]; exact fun y => nomatch y
        exact fl11.stay c y (inB c y z c1 fun y => c2 (I10.stkFree c y))
  obtain ⟨m, hm, hl⟩ := id I11.loc
  refine wpAny_nameGoes_keeps hn hm (by rw [I.ok.kind]; rfl) fun h12 v12 hn12 hs12 => ?_
  have I12 := I11.drop (t := s9.toks + 1) hN hi hm hl hn12 hs12
  have lin : X.env.locals ∈ frs X.stack := by rw [hst]; unfold frs; rw [List.filterMap_cons, hfr]; exact List.mem_cons_self
  have fl12 := fl11.but hs12 (frN _ lin) (fl11.frm.mem lin).2 (frames_swap I12.stack frN)
  clear I11 hm hl hn12
  have I12' : Inv X pins ((σ.set i (some (.ref a))).set i none) H' { s9 with heap := h12, toks := s9.toks + 1 } := by
    subst hH
    have u1 := (I12.untrack (h' := h12) n2 (fun _ _ => rfl) (by obtain ⟨oe, _, _, _, _, ⟨y, _⟩, _⟩ := fl12.tr.ex; exact ⟨oe, y⟩))
    have hea := (u1.hok a _ upd_same).1
    obtain ⟨oa, _, ya, _⟩ := hea
    exact u1.untrack (h' := h12) ha (fun _ _ => rfl) ⟨oa, ya⟩
  have fin : ∀ h13, (∀ b, h13.get? b = h12.get? b) → X.xe (.ref e2) { s9 with heap := h13, toks := s9.toks + 1 } := fun h13 k13 => by
    have I13 : Inv X pins ((σ.set i (some (.ref a))).set i none) H' { s9 with heap := h13, toks := s9.toks + 1 } := I12'.kept (t' := s9.toks + 1) fun b u q => (k13 b).trans q
    refine hT pins _ H' _ e2 C2 X.env.locals none _ hfr I13 (fl12.same k13) (fun b o hb q z => ?_) rd n2' e20
    have q12 : h12.get? b = some o := (k13 b).symm.trans q
    have q11 : h11.get? b = some o := (hs12.2 b fun y => hb (y ▸ lin)).symm.trans q12
    have be : b ≠ e2 := fun y => by
      rcases z with ⟨o', z⟩ | z
      · rw [y, e20] at z; cases z
      · rw [y] at z; exact z n2'
    obtain ⟨o', q'⟩ : ∃ o', h'.get? b = some o' := by
      rcases z with ⟨o', z⟩ | z
      · exact I10.base.there b o' z (by rw [hex]; simp)
      · cases hz : H' b with
        | none => exact absurd hz z
        | some u =>
          have ba : b ≠ a := fun y => by rw [y, ha] at hz; cases hz
          exact some_of (I10.hok b u (by rw [← hH, upd_ne be, upd_ne ba]; exact hz))
    have := fl11.stay b o' (inB b o' q' be hb)
    rw [q11] at this
    cases this
    exact inB b o q' be hb
  unfold PySem.passOn
  obtain ⟨oe, ve, T, oT, ts, ⟨y1, y2, y3, y4⟩, y5, _⟩ := fl12.tr.ex
  refine wpAny_bind (wpAny_field y1 y4 y5 ?_)
  rw [if_neg (by simp)]
  rw [hfr]
  refine wpAny_bind (flightS fl12 fun h13 k13 => wpAny_throw ?_)
  refine noteT hfr (fl12.same k13) ?_
  show wpAny _ _ _ _ _ _
  refine wpAny_bind (wpAny_field ((k13 e2).trans y1) y4 y5 ?_)
  rw [if_neg (by simp)]
  rw [hfr]
  exact flightS (fl12.same k13) fun h14 k14 => fin h14 fun b => (k14 b).trans (k13 b)
end
end L2
namespace L2
open PySem PySem.Spec PyProof.Rows
section
variable {X : Cx}
def tTryF (K : PySem.W.Frag) (H₀ : Hp) (CK C2 : Addr) (E : XK) (ta : TA) (sp : Sp) : TS := fun D σ H => ta σ H fun vs H1 => sp vs H1 (fun _ H2 => D.nx σ H2) (fun cv dd H2 => ∃ C bm, cv = .ref C ∧ ExcW K C bm ∧ (Value.ref C :: bm).contains (.ref CK) = true ∧ dd ≠ none ∧ E (.ref C2) none H2 ∧ ∀ b, H2 b = none → H₀ b = none)
theorem ps_tryFrom {k : Nat} {f : Addr} {fd : FuncData} {ps : List Str} {sp : Sp} {st : Stmt} {fx kn n x2 : Str} {p cpos epos kp hpos np rpos p2 c2 pos : Pos} {e e0 : Expr} {es es0 : List Expr} {ta t0 : TA} {CK C2 : Addr} {bmK bm2 : List Value} {i : Nat} {E : XK}
    (hex : X.ex = []) (hst : X.stack = X.env :: X.outer) (hfr : X.env.frame = some X.env.locals) (hT : LeaveT X E) (D : Dn X.K X.mg fx st ps f fd) (G : FnOk X.prog X.w X.K X.mg X.base (CXd X.prog X.w) k f fd ps sp) (hr : Room k X.A) (hg : Gl X fx) (ha : PA X.nox (e :: es) ta)
    (ZK : ExcW X.K CK bmK) (Z2 : Exc X.K C2 bm2) (W2 : ExcW X.K C2 bm2) (kp2 : PySem.W.keepIn X.K (.ref C2) = true) (hgk : Gl X kn) (hmk : X.mg kn = some (.ref CK)) (hg2 : ∀ a, Gl (X.mark a) x2) (hm2 : X.mg x2 = some (.ref C2)) (h0 : ∀ a, PA (X.mark a) (e0 :: es0) t0) (hl0 : ∀ σ H Q, (∀ vs, vs.length ≤ sizeLine → Q vs H) → t0 σ H Q)
    (hN : X.N.Nodup) (hi : X.N[i]? = some n) (hn : X.env.scope.names.lookup n = some .local)
    (hd : (kn == ("__debug__" : Str)) = false := by decide) (hdf : (fx == ("__debug__" : Str)) = false := by decide) (hd2 : (x2 == ("__debug__" : Str)) = false := by decide) (hdn : (n == ("__debug__" : Str)) = false := by decide) (hcd : (n == ("__classdict__" : Str)) = false := by decide)
    (hst' : starEach (e :: es) X.env = (false, eval e X.env) :: starEach es X.env := by rfl) (hpl : (backTo cpos (starEach es X.env)).any (·.1) = false := by rfl) (hst0 : starEach (e0 :: es0) X.env = (false, eval e0 X.env) :: starEach es0 X.env := by rfl) (hpl0 : (backTo c2 (starEach es0 X.env)).any (·.1) = false := by rfl)
    (hsw : swapsWith (.Call (.Name fx p) (e :: es) [] cpos) none epos.line X.env = pure false := by rfl) :
    PS X (.Try [.Expr (.Call (.Name fx p) (e :: es) [] cpos) epos] [.ExceptHandler (some (.Name kn kp)) (some n) [.Raise (some (.Call (.Name x2 p2) (e0 :: es0) [] c2)) (some (.Name n np)) rpos] hpos] [] [] pos) (tTryF X.K X.H₀ CK C2 E ta sp) := by
  intro pins s σ H D' I h
  refine wpAny_Try_except ?_
  refine wpAny_execs_cons (wpAny_Expr_any ?_ I.quiet hsw)
  refine wpAny_Call_Name_kw (ld_glob I hg D.gl ?_ hdf)
  refine PySem.W.callWith_K (h₀ := X.base) I.ok.mod.kin D.fn.kp (wpAny_mono (ha cpos pins s σ H _ (I.wish _) h) (fun us s1 ⟨vs, H1, I1', r, q⟩ => ?_) fun _ _ z => z.elim) hst' hpl
  have I1 : Inv X pins σ H1 s1 := I1'.unwish
  refine ⟨I1.kIn, ?_⟩
  have hl : us.length = ps.length := by rw [← r.length]; exact G.len _ _ _ _ q
  have hb := D.bd s1 us I1.kIn (by rw [List.append_nil]; exact hl)
  rw [List.append_nil] at hb
  refine wpAny_call (codeAny_mono (G.run X.A X.stack s1 H1 ⟨us, []⟩ us vs _ _ hr I1.env0 hb r q) fun rr s' hq => ?_)
  cases rr with
  | error ev =>
    exact catch_from hex hst hfr hT ZK W2 hgk hmk hN hi hn (fun a pins s σ H Q J hq => pe_makeC (X := X.mark a) Z2 kp2 (hg2 a) hm2 (h0 a) hd2 hst0 hpl0 pins s σ H Q J (hl0 σ H _ fun vs hv => ⟨hv, hq⟩)) hd hdn hcd (fun cv dd H2 z => z) I1 hq
  | ok fl =>
    cases fl with
    | ret uv =>
      obtain ⟨v, H2, I2, _, q2⟩ := I1.after hq
      exact wpAny_execs_nil (wpAny_execs_nil ⟨σ, H2, I2, q2⟩)
    | next => exact False.elim hq
    | brk => exact False.elim hq
    | cont => exact False.elim hq
end
end L2
namespace L2
open PySem PySem.Spec PyProof.Rows
def Sg (l : List Nat) : Str := ⟨l.toArray⟩
theorem Sg.len (l : List Nat) : (Sg l).length = l.length := by simp [Sg, Str.length]
theorem Sg.app (a b : List Nat) : Sg a ++ Sg b = Sg (a ++ b) := by
  show (⟨(Sg a).cps ++ (Sg b).cps⟩ : Str) = _
  simp [Sg]
theorem Sg.of (x : Str) : Sg x.cps.toList = x := by cases x; simp [Sg]
theorem Sg.inj {a b : List Nat} (h : Sg a = Sg b) : a = b := by
  have := congrArg (fun x : Str => x.cps.toList) h
  simpa [Sg] using this
section
variable {X : Cx}
theorem mt_starts : MtM X "str.startswith" (fun x vs H Q => ∃ (t y : List Nat) (p : Nat), x = .str (Sg t) ∧ vs = [.str (Sg y), .int (p : Int)] ∧ p ≤ t.length ∧ Q (.bl (y.isPrefixOf (t.drop p))) H) := by
  intro pins s σ H x vs v us Q I rx rv h
  obtain ⟨t, y, p, rfl, rfl, hp, q⟩ := h
  obtain ⟨k0, rfl⟩ := rx
  obtain ⟨u1, u2, rfl, r1, r2⟩ := rv.two
  obtain ⟨k1, rfl⟩ := r1
  obtain ⟨k2, rfl⟩ := r2
  have hf : fromIndex (Sg t).length (p : Int) = p := by
    unfold fromIndex
    rw [if_neg (by omega)]
    omega
  have hb : (decide (fromIndex (Sg t).length (p : Int) + (Sg y).length ≤ (Sg t).length) && Builtin.Str.subAt (Sg t) (Sg y) (fromIndex (Sg t).length (p : Int))) = y.isPrefixOf (t.drop p) := by
    rw [hf, Sg.len, Sg.len, Bool.eq_iff_iff, Bool.and_eq_true, decide_eq_true_iff, List.isPrefixOf_iff_prefix]
    unfold Builtin.Str.subAt
    rw [Sg.len, beq_iff_eq]
    have ex : (Sg t).cps.extract p (p + y.length) = ((t.drop p).take y.length).toArray := by
      simp [Sg, List.extract_eq_take_drop]
    rw [ex]
    constructor
    · rintro ⟨h1, h2⟩
      have h3 : (t.drop p).take y.length = y := by simpa [Sg] using congrArg Array.toList h2
      rw [← h3]
      exact List.take_prefix _ _
    · intro h
      have hl := h.length_le
      rw [List.length_drop] at hl
      refine ⟨by omega, ?_⟩
      rw [List.prefix_iff_eq_take.mp h]
      simp [Sg]
  refine call_gives F.slot_str_startswith (typeIs_str _ _ _) F.entry_str_startswith (F.args_str_startswith_3 _ _ _) (gives_str_startswith_from (Sg t) (Sg y) (p : Int) k0 k1 k2) ?_
  exact ⟨.bl _, H, I, rfl, by rw [hb]; exact q⟩
theorem call_int_text : CallR X (.type "int") (fun xs H Q => ∃ (x : Str) (n : Int), xs = [.str x] ∧ PySem.intText? x = some n ∧ x.length ≤ 640 ∧ Q (.int n) H) := by
  intro pins s σ H xs us Q I r h
  obtain ⟨x, n, rfl, hn, hl, q⟩ := h
  obtain ⟨u, rfl, rx⟩ := vals1 r
  obtain ⟨t, rfl⟩ := rx
  exact PySem.W.KIN.call_text hn hl ⟨.int n, H, I.tok _, ⟨_, rfl⟩, q⟩
theorem sl_text : SlR X (fun x lo hi H Q => ∃ (t : List Nat) (a b : Nat), x = .str (Sg t) ∧ lo = some (a : Int) ∧ hi = some (b : Int) ∧ a ≤ b ∧ b ≤ t.length ∧ t.length ≤ sizeLine ∧ Q (.str (Sg ((t.drop a).take (b - a)))) H) := by
  intro pins s σ H x v vl vu lo hi sl Q I rx hs pl pu h
  obtain ⟨t, a, b, rfl, rfl, rfl, hab, hb, hz, q⟩ := h
  obtain ⟨k0, rfl⟩ := rx
  cases pl with
  | int _ t1 =>
  cases pu with
  | int _ t2 =>
  refine ⟨"str", _, F.slot_str_getitem.lookup, typeIs_str s (Sg t) k0, ?_⟩
  refine wpAny_getItem_str_slice (l := some ((a : Int), t1)) (u := some ((b : Int), t2)) (st := none) hs rfl ?_
  have hp : slicePicked (Sg t) (some ((a : Int), t1)) (some ((b : Int), t2)) none = (List.range (b - a)).map (fun k => a + k) := StrLaws.strSliceIndices_plain hab (by rw [Sg.len]; exact hb)
  have hc : (slicePicked (Sg t) (some ((a : Int), t1)) (some ((b : Int), t2)) none).filterMap ((Sg t).cps[·]?) = (t.drop a).take (b - a) := StrLaws.sliced_plain (Sg t) hab (by rw [Sg.len]; exact hb)
  unfold sliceMade
  rw [hc]
  split
  · rename_i hw
    have hl : (slicePicked (Sg t) (some ((a : Int), t1)) (some ((b : Int), t2)) none).length = (Sg t).length := by
      have := (Bool.and_eq_true _ _ ▸ hw).2
      exact beq_iff_eq.mp this
    rw [hp, List.length_map, List.length_range, Sg.len] at hl
    have e1 : a = 0 := by omega
    have e2 : b = t.length := by omega
    subst e1 e2
    rw [List.drop_zero, Nat.sub_zero, List.take_length] at q
    exact ⟨.str (Sg t), H, I, ⟨_, rfl⟩, q⟩
  · refine ⟨?_, .str _, H, I.tok _, ⟨_, rfl⟩, q⟩
    show ((t.drop a).take (b - a)).toArray.size ≤ sizeLine
    rw [List.size_toArray, List.length_take, List.length_drop]
    omega
def glueL (sep : List Nat) : List (List Nat) → List Nat
  | [] => []
  | l :: ls => l ++ ls.flatMap fun m => sep ++ m
theorem texts_of : ∀ {ls : List (List Nat)} {us : List Value}, Vals (ls.map fun l => V.str (Sg l)) us → ∃ ps : List (Str × Tok), us = strValues ps ∧ ps.map (·.1) = ls.map Sg
  | [], _, .nil => ⟨[], rfl, rfl⟩
  | l :: ls, _, .cons r rr => by
    obtain ⟨t, rfl⟩ := r
    obtain ⟨ps, rfl, e⟩ := texts_of rr
    exact ⟨(Sg l, t) :: ps, rfl, by rw [List.map_cons, e]; rfl⟩
theorem glue_fold (sep : List Nat) : ∀ (ls : List (List Nat)) (acc : List Nat), (ls.map Sg).foldl (fun a p => a ++ (Sg sep).cps ++ p.cps) acc.toArray = (acc ++ ls.flatMap fun m => sep ++ m).toArray
  | [], acc => by simp
  | l :: ls, acc => by
    have e : acc.toArray ++ (Sg sep).cps ++ (Sg l).cps = (acc ++ (sep ++ l)).toArray := by simp [Sg]
    rw [List.map_cons, List.foldl_cons, e, glue_fold sep ls]
    simp
theorem glue_is (sep : List Nat) (ls : List (List Nat)) : Builtin.Str.glued (Sg sep) (ls.map Sg) = Sg (glueL sep ls) := by
  cases ls with
  | nil => rfl
  | cons l ls =>
    unfold Builtin.Str.glued
    show (⟨(ls.map Sg).foldl _ (Sg l).cps⟩ : Str) = _
    have := glue_fold sep ls l
    unfold glueL
    rw [show (Sg l).cps = l.toArray from rfl, this]
    rfl
theorem sum_fold (k : Nat) : ∀ (xs : List Str) (acc : Nat), xs.foldl (fun a x => a + x.length + k) acc = acc + (xs.map fun x => x.length + k).sum
  | [], acc => by simp
  | x :: xs, acc => by
    rw [List.foldl_cons, sum_fold k xs, List.map_cons, List.sum_cons]
    omega
theorem mt_join : MtM X "str.join" (fun x vs H Q => ∃ (sep : List Nat) (p : Addr) (ls : List (List Nat)), x = .str (Sg sep) ∧ vs = [.ref p] ∧ SqL X.K H p (ls.map fun l => V.str (Sg l)) ∧ (ls.map fun l => l.length + sep.length).sum ≤ sizeLine ∧ (glueL sep ls).length ≤ sizeLine ∧ Q (.str (Sg (glueL sep ls))) H) := by
  intro pins s σ H x vs v us Q I rx rv h
  obtain ⟨sep, p, ls, rfl, rfl, hq, hz, hg, q⟩ := h
  obtain ⟨k0, rfl⟩ := rx
  obtain ⟨u, rfl, ru⟩ := rv.one
  cases ru
  obtain ⟨its, r, pl, _⟩ := I.list hq
  obtain ⟨ps, rfl, e⟩ := texts_of r
  have hl : Builtin.Str.tooLong ((ps.map (·.1)).toArray.foldl (· + ·.length + (Sg sep).length) 0) = false := by
    unfold Builtin.Str.tooLong
    refine decide_eq_false ?_
    rw [List.foldl_toArray', e]
    · rw [sum_fold, Sg.len, List.map_map]
      have : ((fun x : Str => x.length + sep.length) ∘ Sg) = fun l : List Nat => l.length + sep.length := by
        funext l
        show (Sg l).length + _ = _
        rw [Sg.len]
      rw [this]
      omega
    · rfl
  refine call_meets F.slot_str_join (typeIs_str _ _ _) F.entry_str_join (F.args_str_join_2 _ _) (meets_str_join_list (Sg sep) k0 p ps hl) ⟨pl.isList, ?_⟩
  have fin : ∀ t' (s' : Shared), Inv X pins σ H s' → EP X pins σ Q (.str (Sg (glueL sep ls)) t') s' := fun t' s' I' => ⟨.str _, H, I', ⟨_, rfl⟩, q⟩
  match ps, ls, e, fin, hg with
  | [], [], _, fin, _ => exact ⟨by show 0 ≤ _; exact Nat.zero_le _, fin _ _ (I.tok _)⟩
  | [(x, t)], [l], e, fin, _ =>
    have e1 : x = Sg l := by simpa using e
    subst e1
    have : glueL sep [l] = l := by simp [glueL]
    have f := fin t s I
    rw [this] at f
    exact f
  | (x, t) :: (x', t') :: ps, ls, e, fin, hg =>
    show (Made.str (Builtin.Str.glued (Sg sep) (((x, t) :: (x', t') :: ps).map (·.1)))).post _ s
    rw [e, glue_is]
    exact ⟨by rw [Sg.len]; exact hg, fin _ _ (I.tok _)⟩
end
end L2
namespace L2
open PySem PySem.Spec PyProof.Rows
section
variable {X : Cx}
def splL (t y : List Nat) : List (List Nat) := (Txt.split (Sg t) (Sg y)).map (·.cps.toList)
theorem splL_str (t y : List Nat) : (splL t y).map Sg = Txt.split (Sg t) (Sg y) := by
  unfold splL
  rw [List.map_map]
  conv => rhs; rw [← List.map_id (Txt.split (Sg t) (Sg y))]
  exact List.map_congr_left fun x _ => Sg.of x
theorem vals_strs : ∀ (ls : List (List Nat)) (ps : List (Str × Tok)), ps.map (·.1) = ls.map Sg → Vals (ls.map fun l => V.str (Sg l)) (strValues ps)
  | [], [], _ => .nil
  | [], _ :: _, h => by cases h
  | _ :: _, [], h => by cases h
  | l :: ls, (x, t) :: ps, h => by
    obtain ⟨h1, h2⟩ := List.cons.inj h
    have h1 : x = Sg l := h1
    subst h1
    exact .cons ⟨t, rfl⟩ (vals_strs ls ps h2)
theorem mt_split : MtM X "str.split" (fun x vs H Q => ∃ (t y : List Nat), x = .str (Sg t) ∧ vs = [.str (Sg y)] ∧ y ≠ [] ∧ t.length ≤ 100000 ∧ ∀ D, H D = none → Q (.ref D) (upd H D (.lst ((splL t y).map fun l => V.str (Sg l))))) := by
  intro pins s σ H x vs v us Q I rx rv h
  obtain ⟨t, y, rfl, rfl, hy, hz, q⟩ := h
  obtain ⟨k0, rfl⟩ := rx
  obtain ⟨u, rfl, ru⟩ := rv.one
  obtain ⟨k1, rfl⟩ := ru
  have ly : ((Sg y).length == 0) = false := by
    rw [Sg.len]
    exact beq_eq_false_iff_ne.mpr fun z => hy (List.length_eq_zero_iff.mp z)
  have lx : (Sg t).length ≤ sizeLine := by rw [Sg.len]; exact Nat.le_trans hz (by decide)
  have ls : (splL t y).length ≤ 100002 := by
    have := split_le (Sg t) (Sg y)
    unfold splL
    rw [List.length_map]
    rw [Sg.len] at this
    omega
  have fin : ∀ (ps : List (Str × Tok)) (t' : Nat), ps.map (·.1) = Txt.split (Sg t) (Sg y) → EP X pins σ Q (.ref s.heap.objs.size) { s with toks := t', heap := s.heap.push { cls := .type "list", data := .seq (strValues ps).toArray } } := fun ps t' e => by
    rw [← splL_str] at e
    have hv := vals_strs (splL t y) ps e
    exact ⟨.ref s.heap.objs.size, _, I.lnew (t' := t') hv (by rw [List.length_map]; exact Nat.le_trans ls (by decide)), rfl, q _ (I.hok.fresh (Nat.le_refl _))⟩
  cases h1 : (decide ((Sg t).length < (Sg y).length) || decide (Builtin.Str.strKind (Sg t) < Builtin.Str.strKind (Sg y)))
  · cases hf : (Builtin.Str.occurrences (Sg t) (Sg y) 0 (Sg t).length ((Sg t).length + 1)).isEmpty
    · have es : Txt.split (Sg t) (Sg y) = Builtin.Str.partsBetween (Sg t) (Builtin.Str.occurrences (Sg t) (Sg y) 0 (Sg t).length ((Sg t).length + 1)) (Sg y).length := (if_neg (ne_true_of_eq_false h1)).trans (if_neg (ne_true_of_eq_false hf))
      have lp : (Builtin.Str.partsBetween (Sg t) (Builtin.Str.occurrences (Sg t) (Sg y) 0 (Sg t).length ((Sg t).length + 1)) (Sg y).length).length ≤ sizeLine := by
        rw [← es, ← splL_str, List.length_map]
        exact Nat.le_trans ls (by decide)
      refine call_meets F.slot_str_split (typeIs_str _ _ _) F.entry_str_split (F.args_str_split_2 _ _) (meets_str_split_sep (Sg t) (Sg y) k0 k1 h1 ly hf lx lp) ?_
      have f := fin (numbered s.toks (Builtin.Str.partsBetween (Sg t) (Builtin.Str.occurrences (Sg t) (Sg y) 0 (Sg t).length ((Sg t).length + 1)) (Sg y).length)) (s.toks + (Builtin.Str.partsBetween (Sg t) (Builtin.Str.occurrences (Sg t) (Sg y) 0 (Sg t).length ((Sg t).length + 1)) (Sg y).length).length) ((numbered_texts _ _).trans es.symm)
      rw [← strsFrom_eq] at f
      exact f
    · have es : Txt.split (Sg t) (Sg y) = [Sg t] := (if_neg (ne_true_of_eq_false h1)).trans (if_pos hf)
      exact call_meets F.slot_str_split (typeIs_str _ _ _) F.entry_str_split (F.args_str_split_2 _ _) (meets_str_split_not_found (Sg t) (Sg y) k0 k1 h1 ly hf) (fin [(Sg t, k0)] s.toks es.symm)
  · have es : Txt.split (Sg t) (Sg y) = [Sg t] := if_pos h1
    exact call_meets F.slot_str_split (typeIs_str _ _ _) F.entry_str_split (F.args_str_split_2 _ _) (meets_str_split_cannot_occur (Sg t) (Sg y) k0 k1 h1) (fin [(Sg t, k0)] s.toks es.symm)
theorem splL_glue (t y : List Nat) : glueL y (splL t y) = t := by
  have h := StrLaws.join_split (Sg t) (Sg y)
  rw [← StrLaws.glued_eq_join, ← splL_str, glue_is] at h
  exact Sg.inj h
end
end L2
namespace L2
open PySem PySem.Spec PyProof.Rows
section
variable {X : Cx}
theorem idx_head (b len : Nat) : Builtin.Str.strSliceIndices none (some (b : Int)) 1 len = Builtin.Str.strSliceIndices (some ((0 : Nat) : Int)) (some ((min b len : Nat) : Int)) 1 len := by
  unfold Builtin.Str.strSliceIndices
  dsimp only
  have h1 : ¬((b : Int) < 0) := by omega
  have h2 : ¬(((min b len : Nat) : Int) < 0) := by omega
  have h3 : ¬(((0 : Nat) : Int) < 0) := by omega
  rw [if_neg h1, if_neg h2, if_neg h3]
  simp only [show (1 : Int) > 0 by decide, if_true]
  congr 1 <;> omega
theorem idx_tail (a len : Nat) : Builtin.Str.strSliceIndices (some (a : Int)) none 1 len = Builtin.Str.strSliceIndices (some ((min a len : Nat) : Int)) (some ((len : Nat) : Int)) 1 len := by
  unfold Builtin.Str.strSliceIndices
  dsimp only
  have h1 : ¬((a : Int) < 0) := by omega
  have h2 : ¬(((min a len : Nat) : Int) < 0) := by omega
  have h3 : ¬(((len : Nat) : Int) < 0) := by omega
  rw [if_neg h1, if_neg h2, if_neg h3]
  simp only [show (1 : Int) > 0 by decide, if_true]
  congr 1 <;> omega
theorem sl_head : SlR X (fun x lo hi H Q => ∃ (t : List Nat) (b : Nat), x = .str (Sg t) ∧ lo = none ∧ hi = some (b : Int) ∧ t.length ≤ sizeLine ∧ Q (.str (Sg (t.take b))) H) := by
  intro pins s σ H x v vl vu lo hi sl Q I rx hs pl pu h
  obtain ⟨t, b, rfl, rfl, rfl, hz, q⟩ := h
  obtain ⟨k0, rfl⟩ := rx
  cases pl with
  | none =>
  cases pu with
  | int _ t2 =>
  refine ⟨"str", _, F.slot_str_getitem.lookup, typeIs_str s (Sg t) k0, ?_⟩
  refine wpAny_getItem_str_slice (l := none) (u := some ((b : Int), t2)) (st := none) hs rfl ?_
  have hb : min b t.length ≤ (Sg t).length := by rw [Sg.len]; omega
  have hp : slicePicked (Sg t) none (some ((b : Int), t2)) none = (List.range (min b t.length - 0)).map (fun k => 0 + k) := (show _ = _ from idx_head b (Sg t).length).trans (by rw [Sg.len]; exact StrLaws.strSliceIndices_plain (Nat.zero_le _) (Nat.min_le_right _ _))
  have hc : (slicePicked (Sg t) none (some ((b : Int), t2)) none).filterMap ((Sg t).cps[·]?) = t.take b := by
    have h := StrLaws.sliced_plain (Sg t) (Nat.zero_le (min b t.length)) hb
    have e : slicePicked (Sg t) none (some ((b : Int), t2)) none = Builtin.Str.strSliceIndices (some ((0 : Nat) : Int)) (some ((min b t.length : Nat) : Int)) 1 (Sg t).length := (show _ = _ from idx_head b (Sg t).length).trans (by rw [Sg.len])
    rw [e, h]
    show (t.drop 0).take (min b t.length - 0) = _
    rw [List.drop_zero, Nat.sub_zero, List.take_eq_take_iff]
    omega
  unfold sliceMade
  rw [hc]
  split
  · rename_i hw
    have hl : (slicePicked (Sg t) none (some ((b : Int), t2)) none).length = (Sg t).length := by
      have := (Bool.and_eq_true _ _ ▸ hw).2
      exact beq_iff_eq.mp this
    rw [hp, List.length_map, List.length_range, Sg.len] at hl
    rw [List.take_of_length_le (by omega)] at q
    exact ⟨.str (Sg t), H, I, ⟨_, rfl⟩, q⟩
  · refine ⟨?_, .str _, H, I.tok _, ⟨_, rfl⟩, q⟩
    show (t.take b).toArray.size ≤ sizeLine
    rw [List.size_toArray, List.length_take]
    omega
theorem sl_tail : SlR X (fun x lo hi H Q => ∃ (t : List Nat) (a : Nat), x = .str (Sg t) ∧ lo = some (a : Int) ∧ hi = none ∧ t.length ≤ sizeLine ∧ Q (.str (Sg (t.drop a))) H) := by
  intro pins s σ H x v vl vu lo hi sl Q I rx hs pl pu h
  obtain ⟨t, a, rfl, rfl, rfl, hz, q⟩ := h
  obtain ⟨k0, rfl⟩ := rx
  cases pl with
  | int _ t1 =>
  cases pu with
  | none =>
  refine ⟨"str", _, F.slot_str_getitem.lookup, typeIs_str s (Sg t) k0, ?_⟩
  refine wpAny_getItem_str_slice (l := some ((a : Int), t1)) (u := none) (st := none) hs rfl ?_
  have e : slicePicked (Sg t) (some ((a : Int), t1)) none none = Builtin.Str.strSliceIndices (some ((min a t.length : Nat) : Int)) (some ((t.length : Nat) : Int)) 1 (Sg t).length := (show _ = _ from idx_tail a (Sg t).length).trans (by rw [Sg.len])
  have hp : slicePicked (Sg t) (some ((a : Int), t1)) none none = (List.range (t.length - min a t.length)).map (fun k => min a t.length + k) := e.trans (StrLaws.strSliceIndices_plain (Nat.min_le_right _ _) (by rw [Sg.len]; exact Nat.le_refl _))
  have hc : (slicePicked (Sg t) (some ((a : Int), t1)) none none).filterMap ((Sg t).cps[·]?) = t.drop a := by
    have h := StrLaws.sliced_plain (Sg t) (a := min a t.length) (b := t.length) (Nat.min_le_right _ _) (by rw [Sg.len]; exact Nat.le_refl _)
    rw [e, h]
    show (t.drop (min a t.length)).take (t.length - min a t.length) = _
    rw [List.take_of_length_le (by rw [List.length_drop]; exact Nat.le_refl _)]
    rcases Nat.le_total a t.length with z | z
    · rw [Nat.min_eq_left z]
    · rw [Nat.min_eq_right z, List.drop_length, List.drop_of_length_le z]
  unfold sliceMade
  rw [hc]
  split
  · rename_i hw
    have hl : (slicePicked (Sg t) (some ((a : Int), t1)) none none).length = (Sg t).length := by
      have := (Bool.and_eq_true _ _ ▸ hw).2
      exact beq_iff_eq.mp this
    rw [hp, List.length_map, List.length_range, Sg.len] at hl
    have : t.drop a = t := by
      rcases Nat.eq_zero_or_pos a with z | z
      · rw [z]; rfl
      · have : t.length = 0 := by omega
        rw [List.length_eq_zero_iff.mp this]
        simp
    rw [this] at q
    exact ⟨.str (Sg t), H, I, ⟨_, rfl⟩, q⟩
  · refine ⟨?_, .str _, H, I.tok _, ⟨_, rfl⟩, q⟩
    show (t.drop a).toArray.size ≤ sizeLine
    rw [List.size_toArray, List.length_drop]
    omega
end
end L2
namespace L2
open PySem PySem.Spec PyProof.Rows
def Its (t : List Nat) : It := ⟨fun i _ => i < t.length, fun i H x H' => H' = H ∧ ∃ c, t[i]? = some c ∧ x = .str (Sg [c]), fun i _ => t.length ≤ i⟩
theorem turn_str {P : Program} {w : World} {K : PySem.W.Frag} {tg : Expr} (t : List Nat) (tk : Tok) (it : Addr) : Turn P w K tg (Its t) [it] it (fun i h => h.IsStrIter it "str_ascii_iterator" (Sg t) tk i) where
  mem := by simp
  obj := fun i h st b hb => by
    have e : b = it := by simpa using hb
    subst e
    obtain ⟨o, e, c, d⟩ := st
    exact ⟨o, e, fun v z => by rw [d] at z; cases z⟩
  keep := fun i h h' st k => let ⟨o, ho, r⟩ := st; ⟨o, k it (by simp) o ho, r⟩
  item := by
    intro X hP hw hK hc i pins s σ H E I hf st hg
    subst hP hw hK
    have hi : i < t.length := hg
    have hci : (Sg t).cps[i]? = some t[i] := by simp [Sg, hi]
    obtain ⟨f0, f1, f2, f3, f4, f5⟩ := hf it (by simp)
    refine wpAny_pyNext_ascii_item st (c := t[i]) hci fun h' st' sb => ?_
    have I1 : Inv X pins σ H { s with heap := h', toks := s.toks + 1 } := I.turned (t' := s.toks + 1) (fun b o hb e => sb.extBut b o hb e) f0 f1 f3 f4 f5
    obtain ⟨o, e, c, d⟩ := id st'
    exact ⟨_, rfl, go_of (s := { s with heap := h', toks := s.toks + 1 }) e c d (by decide) ⟨.str (Sg [t[i]]), H, I1, ⟨_, rfl⟩, ⟨rfl, t[i], List.getElem?_eq_getElem hi, rfl⟩, st', fun b hb => (hf b hb).1⟩⟩
  done := by
    intro X hP hw hK hc i pins s σ H E I hf st hg
    subst hP hw hK
    have hi : t.length ≤ i := hg
    obtain ⟨f0, f1, f2, f3, f4, f5⟩ := hf it (by simp)
    exact wpAny_pyNext_ascii_end (I.ok.hd hc) st (by simp [Sg, hi]) fun h' eb => ⟨rfl, I.turned (t' := s.toks) (fun b o hb e => eb b o hb e) f0 f1 f3 f4 f5⟩
  self := fun _ _ _ _ _ st h => wpAny_pyIter_striter_ascii st h
section
variable {X : Cx} {tg : Expr}
def iStr (tl : TE) : TI := fun σ H R => tl σ H fun x H1 => ∃ t : List Nat, x = .str (Sg t) ∧ (∀ c ∈ t, c < 128) ∧ R (Its t) H1
theorem pi_str {l : Expr} {tl : TE} (hl : PE X l tl) : PI X tg l (iStr tl) := by
  intro pins s σ H R I h
  refine thn (hl pins s σ H _ I h) fun v s1 ⟨x, H1, I1, r1, q1⟩ => ?_
  obtain ⟨t, e, ha, q⟩ := q1
  subst e
  obtain ⟨tk, rfl⟩ := r1
  refine wpAny_pyIter_ascii (by simpa [Sg] using ha) ?_
  refine ⟨s1.heap.objs.size, [s1.heap.objs.size], _, _, H1, rfl, I1.kept (t' := s1.toks) fun b o e => Heap.get?_push_of_some _ e, turn_str t tk _, ⟨_, Heap.get?_push_size _ rfl, rfl, rfl⟩, fun b hb => ?_, q⟩
  have e : b = s1.heap.objs.size := by simpa using hb
  subst e
  exact I1.fpOk (Nat.le_refl _) (I1.hok.fresh (Nat.le_refl _))
end
end L2
namespace L2
open PySem PySem.Spec PyProof.Rows
section
variable {X : Cx}
def tySet (i : Nat) (ta : TA) (sp : Sp) : TY := fun D EK σ H => ta σ H fun vs H1 => sp vs H1 (fun v H2 => D.nx (σ.set i (some v)) H2) EK
theorem py_set {i k : Nat} {x : Str} {f : Addr} {fd : FuncData} {ps : List Str} {sp : Sp} {st : Stmt} {fx : Str} {p p0 cpos apos : Pos} {e : Expr} {es : List Expr} {ta : TA}
    (hN : X.N.Nodup) (hi : X.N[i]? = some x) (hx : Loc X.env.scope x)
    (D : Dn X.K X.mg fx st ps f fd) (G : FnOk X.prog X.w X.K X.mg X.base (CXd X.prog X.w) k f fd ps sp) (hr : Room k X.A) (hg : Gl X fx) (ha : PA X.nox (e :: es) ta)
    (hdf : (fx == ("__debug__" : Str)) = false := by decide) (hst' : starEach (e :: es) X.env = (false, eval e X.env) :: starEach es X.env := by rfl) (hpl : (backTo cpos (starEach es X.env)).any (·.1) = false := by rfl)
    (hsw : swapsWith (.Call (.Name fx p) (e :: es) [] cpos) (some (.Name x p0)) apos.line X.env = pure false := by rfl) (hf : X.fn x = true ∨ X.env.scope.names.lookup x = some .local := by first | exact .inl rfl | exact .inr rfl | assumption) :
    PTry X [.Assign [.Name x p0] (.Call (.Name fx p) (e :: es) [] cpos) apos] (tySet i ta sp) := by
  intro pins s σ H D' EK I h
  refine wpAny_execs_cons (wpAny_Assign_Name ?_ hsw)
  refine wpAny_Call_Name_kw (ld_glob I hg D.gl ?_ hdf)
  refine PySem.W.callWith_K (h₀ := X.base) I.ok.mod.kin D.fn.kp (wpAny_mono (ha cpos pins s σ H _ (I.wish _) h) (fun us s1 ⟨vs, H1, I1', r, q⟩ => ?_) fun _ _ z => z.elim) hst' hpl
  have I1 : Inv X pins σ H1 s1 := I1'.unwish
  refine ⟨I1.kIn, ?_⟩
  have hl : us.length = ps.length := by rw [← r.length]; exact G.len _ _ _ _ q
  have hb := D.bd s1 us I1.kIn (by rw [List.append_nil]; exact hl)
  rw [List.append_nil] at hb
  refine wpAny_call (codeAny_mono (G.run X.A X.stack s1 H1 ⟨us, []⟩ us vs _ _ hr I1.env0 hb r q) fun rr s' hq => ?_)
  cases rr with
  | error ev => exact ⟨H1, s1, I1, hq⟩
  | ok fl =>
    cases fl with
    | ret uv =>
      obtain ⟨v, H2, I2, r2, q2⟩ := I1.after hq
      exact store_ok I2 hN hi hx r2 (fun s2 I3 => wpAny_execs_nil ⟨_, H2, I3, q2⟩) hf
    | next => exact False.elim hq
    | brk => exact False.elim hq
    | cont => exact False.elim hq
theorem reps_is (l : List Nat) : ∀ (k : Nat) (acc : List Nat), (List.replicate k (Sg l).cps).foldl (· ++ ·) acc.toArray = (acc ++ (List.replicate k l).flatten).toArray
  | 0, acc => by simp
  | k + 1, acc => by
    rw [List.replicate_succ, List.foldl_cons, show acc.toArray ++ (Sg l).cps = (acc ++ l).toArray by simp [Sg], reps_is l k (acc ++ l), List.replicate_succ, List.flatten_cons, List.append_assoc]
theorem op_repS : OpR X (binaryOp .Mult) (fun x y H Q => ∃ (t : List Nat) (k : Nat), x = .str (Sg t) ∧ y = .int (k : Int) ∧ 2 ≤ k ∧ 0 < t.length ∧ t.length * k ≤ 10000 ∧ Q (.str (Sg (List.replicate k t).flatten)) H) := by
  intro pins s σ H x y v u Q I rx ry h
  obtain ⟨t, k, rfl, rfl, hk, ht, hz, q⟩ := h
  obtain ⟨a, rfl⟩ := rx
  obtain ⟨b, rfl⟩ := ry
  have hk' : k ≤ 10000 := Nat.le_trans (Nat.le_mul_of_pos_left k ht) hz
  have e1 : ((k : Int) == 1 || (Sg t).length == 0) = false := by
    rw [Sg.len, show ((k : Int) == 1) = false from beq_eq_false_iff_ne.mpr (by omega), show (t.length == 0) = false from beq_eq_false_iff_ne.mpr (by omega)]
    rfl
  refine PySem.P.mul_str ?_ (fun _ _ => ?_) (fun _ _ => ?_) ?_
  · rw [decide_eq_false (by omega), decide_eq_false (by omega)]; rfl
  · rw [Sg.len]
    have : (t.length : Int) * (k : Int) ≤ 10000 := by exact_mod_cast hz
    have h2 : (t.length : Int) ≤ (2 ^ 63 - 1) / (k : Int) := by
      rw [Int.le_ediv_iff_mul_le (by omega)]
      omega
    omega
  · rw [Sg.len, Int.toNat_natCast]
    unfold Builtin.Str.tooLong
    rw [decide_eq_false]
    have : (10000 : Nat) ≤ sizeLine := by decide
    omega
  · rw [if_neg (by omega), e1, if_neg (by decide), Int.toNat_natCast]
    have := reps_is t k []
    rw [List.nil_append] at this
    refine ⟨?_, ?_⟩
    · show (Str.mk ((List.replicate k (Sg t).cps).foldl (· ++ ·) #[])).length ≤ _
      rw [show (#[] : Array Nat) = ([] : List Nat).toArray from rfl, this]
      show (Sg (List.replicate k t).flatten).length ≤ _
      rw [Sg.len, len_rep, Nat.mul_comm]
      exact Nat.le_trans hz (by decide)
    · rw [show (#[] : Array Nat) = ([] : List Nat).toArray from rfl, this]
      exact ⟨.str _, H, I.tok _, ⟨_, rfl⟩, q⟩
end
end L2
namespace My
open PySem L2 PyProof.Rows
def codes (z : Int) : List Nat := (Str.ofString (toString z)).cps.toList
def Zs : List Int := [0, 1, -1, 7, 10 ^ 59 + 3, -(10 ^ 60 - 1), 2, -3, -2, 10 ^ 60 - 1]
def Zk (z : Int) : Prop := z ∈ Zs
def isFig (c : Nat) : Bool := decide (48 ≤ c) && decide (c ≤ 57)
def numB (z : Int) : Bool :=
  let ds := if z < 0 then (codes z).drop 1 else codes z
  (if z < 0 then (codes z).head? == some 45 else true) && ds.all isFig && !ds.isEmpty && decide (ds.length ≤ 60) && (decide (ds.head? ≠ some 48) || ds == [48]) && (PySem.intText? (Sg ds) == some (if z < 0 then -z else z)) && decide (z.natAbs.log2 < 1920)
set_option maxRecDepth 100000
theorem nums_ok : Zs.all numB = true := by decide +kernel
end My
namespace My
open PySem L2 PyProof.Rows
def top (i : Nat) : Stmt := PySem.Challenge.pw_evenkin_k92_web_texts_refused.main.body.getD i (.Pass ⟨0, 0, 0, 0⟩)
def clsBody (s : Stmt) (i : Nat) : Stmt := match s with
  | .ClassDef _ _ _ b _ _ _ _ _ _ _ => b.getD i (.Pass ⟨0, 0, 0, 0⟩)
  | _ => .Pass ⟨0, 0, 0, 0⟩
abbrev sInit : Stmt := clsBody (top 3) 0
abbrev sInitR : Stmt := clsBody (top 12) 0
abbrev sRefuse : Stmt := clsBody (top 12) 1
abbrev sTakes : Stmt := clsBody (top 12) 2
abbrev sMust : Stmt := clsBody (top 12) 3
abbrev sEnd : Stmt := clsBody (top 12) 4
abbrev sFigs : Stmt := clsBody (top 12) 5
abbrev sFrom0 : Stmt := clsBody (top 12) 6
abbrev sNumb : Stmt := clsBody (top 12) 7
abbrev sHas : Stmt := top 14
abbrev sTurned : Stmt := top 15
abbrev sRight : Stmt := top 16
abbrev sLook : Stmt := top 17
abbrev sReadN : Stmt := top 20
abbrev sReadR : Stmt := top 21
abbrev sReadW : Stmt := top 22
abbrev sMix : Stmt := top 26
abbrev sBegun : Stmt := top 27
abbrev sTake : Stmt := top 28
abbrev sWeight : Stmt := top 29
abbrev sWeb : Stmt := top 30
abbrev sIs : Stmt := top 31
abbrev sText : Stmt := top 32
abbrev sNumOf : Stmt := top 33
abbrev sNums : Stmt := top 34
abbrev sWebOf : Stmt := top 35
abbrev sBent : Stmt := top 36
abbrev sJudged : Stmt := top 37
abbrev sOdd : Stmt := top 38
abbrev sLaw : Stmt := top 39
section
variable {P : Program} {w : World} {K : PySem.W.Frag} {mg : Str → Option Value} {base : Heap}
def Drw (H : Hp) (p : Addr) (n : Nat) : Prop := ∃ a b c : Int, H p = some (.lst [.int a, .int b, .int c]) ∧ 0 ≤ b ∧ b ≤ (n : Int)
def But (p : Addr) (H H' : Hp) : Prop := ∀ b o, b ≠ p → H b = some o → H' b = some o
theorem But.refl (p : Addr) (H : Hp) : But p H H := fun _ _ _ h => h
theorem But.trans {p : Addr} {H H1 H2 : Hp} (a : But p H H1) (b : But p H1 H2) : But p H H2 := fun c o n h => b c o n (a c o n h)
theorem But.upd {p : Addr} {H : Hp} {o : HO} : But p H (upd H p o) := fun b u n h => by rw [upd_ne n]; exact h
theorem But.new {p q : Addr} {H : Hp} {o : HO} (h : H q = none) : But p H (L2.upd H q o) := fun b u _ e => by rw [upd_ne (ne_of_none e h)]; exact e
theorem Drw.new {p q : Addr} {H : Hp} {o : HO} {n : Nat} (d : Drw H p n) (h : H q = none) : Drw (L2.upd H q o) p n := by
  obtain ⟨a, b, c, e, r⟩ := d
  exact ⟨a, b, c, by rw [upd_ne (ne_of_none e h)]; exact e, r⟩
theorem Drw.mono {p : Addr} {H : Hp} {n m : Nat} (d : Drw H p n) (h : n ≤ m) : Drw H p m := by
  obtain ⟨a, b, c, e, r1, r2⟩ := d
  exact ⟨a, b, c, e, r1, by omega⟩
def spMix : Sp := fun vs H Q _ => ∃ c k : Int, vs = [.int c, .int k] ∧ 0 ≤ k ∧ k < 2 ^ 40 ∧ ∀ r : Int, Q (.int r) H
def spBegun : Sp := fun vs H Q _ => ∃ c : Int, vs = [.int c] ∧ ∀ p H', H p = none → Same H H' → Drw H' p 1 → Q (.ref p) H'
def spTake : Sp := fun vs H Q _ => ∃ (p : Addr) (m : Int) (n : Nat), vs = [.ref p, .int m] ∧ 0 < m ∧ m < 1073741824 ∧ Drw H p n ∧ n ≤ 1000000 ∧ ∀ (r : Int) H', 0 ≤ r → r < m → But p H H' → Drw H' p (n + 2) → Q (.int r) H'
theorem cmul_l {x y : Int} (h1 : -(2 ^ 64) < x) (h2 : x < 2 ^ 64) : CMul x y := .inl ⟨h1, h2⟩
theorem cmul_r {x y : Int} (h1 : -(2 ^ 64) < y) (h2 : y < 2 ^ 64) : CMul x y := .inr ⟨h1, h2⟩
theorem scMix : FnScope ["_law_cell", "_law_k", "_law_x"] ["_law_cell", "_law_k"] (defScope sMix) := ⟨rfl, rfl, rfl, by decide +kernel, rfl, by decide +kernel, by decide +kernel⟩
theorem ok_mix {f : Addr} {fd : FuncData} (F : Fun K "_law_mix" "_law_mix" sMix f fd) : FnOk P w K mg base CX0 1 f fd ["_law_cell", "_law_k"] spMix := by
  refine F.ok scMix (fun vs H Q E h => ?_) (fun cdv A outer s H vs Q E hr h => ?_)
  · obtain ⟨a, b, rfl, _⟩ := h
    rfl
  · obtain ⟨c, k, rfl, h0, h1, q⟩ := h
    refine ⟨_, pss_cons (ps_set (i := 2) scMix.nd rfl (Or.inl rfl) (pe_op op_mod (pe_op op_add (pe_op op_mod (pv 0) pe_int) (pe_op op_mul pe_int (pv 1))) pe_int))
      (pss_cons (ps_set (i := 2) scMix.nd rfl (Or.inl rfl) (pe_op op_mod (pe_op op_add (pe_op op_add (pe_op op_add (pe_op op_mul (pv 2) (pv 2)) (pe_op op_mul pe_int (pv 2))) (pe_op op_mul (pe_op op_mul (pv 1) (pv 1)) (pv 1))) pe_int) pe_int))
      (pss_one (ps_ret (pe_op op_mod (pe_op op_mul (pv 2) (pv 2)) pe_int)))), ?_⟩
    refine ⟨_, rfl, _, _, rfl, rfl, (by show (0 : Int) < 2147483647; decide), _, rfl, _, _, rfl, rfl, cmul_l (by decide) (by decide), _, _, rfl, rfl, _, _, rfl, rfl, (by show (0 : Int) < 2147483629; decide), ?_⟩
    have b1 := Int.emod_nonneg (c % 2147483647 + 31 * k) (b := 2147483629) (by decide)
    have b2 := Int.emod_lt_of_pos (c % 2147483647 + 31 * k) (b := 2147483629) (by decide)
    generalize (c % 2147483647 + 31 * k) % 2147483629 = x at b1 b2 ⊢
    refine ⟨_, rfl, _, rfl, _, _, rfl, rfl, cmul_l (by omega) (by omega), _, rfl, _, _, rfl, rfl, cmul_l (by decide) (by decide), _, _, rfl, rfl, _, rfl, _, rfl, _, _, rfl, rfl, cmul_l (by omega) (by omega), _, rfl, _, _, rfl, rfl, cmul_r (by omega) (by omega), _, _, rfl, rfl, _, _, rfl, rfl, _, _, rfl, rfl, (by show (0 : Int) < 2147483629; decide), ?_⟩
    have c1 := Int.emod_nonneg (x * x + 16807 * x + k * k * k + 7) (b := 2147483629) (by decide)
    have c2 := Int.emod_lt_of_pos (x * x + 16807 * x + k * k * k + 7) (b := 2147483629) (by decide)
    generalize (x * x + 16807 * x + k * k * k + 7) % 2147483629 = y at c1 c2 ⊢
    refine ⟨_, rfl, _, rfl, _, _, rfl, rfl, cmul_l (by omega) (by omega), _, _, rfl, rfl, (by show (0 : Int) < 2147483587; decide), q _⟩
theorem scBegun : FnScope ["_law_cell"] ["_law_cell"] (defScope sBegun) := ⟨rfl, rfl, rfl, by decide +kernel, rfl, by decide +kernel, by decide +kernel⟩
theorem ok_begun {f : Addr} {fd : FuncData} (F : Fun K "_law_begun" "_law_begun" sBegun f fd) : FnOk P w K mg base CX0 1 f fd ["_law_cell"] spBegun := by
  refine F.ok scBegun (fun vs H Q E h => ?_) (fun cdv A outer s H vs Q E hr h => ?_)
  · obtain ⟨a, rfl, _⟩ := h
    rfl
  · obtain ⟨c, rfl, q⟩ := h
    refine ⟨_, pss_one (ps_ret (pe_lst (pa_cons (pe_op op_fdiv (pv 0) pe_int) (pa_cons (pe_op op_mod (pv 0) pe_int) (pa_cons (pv 0) pa_nil))))), ?_⟩
    refine ⟨_, rfl, _, _, rfl, rfl, ⟨by decide, by decide⟩, _, rfl, _, _, rfl, rfl, (by show (0 : Int) < 2; decide), _, rfl, (by show 3 ≤ sizeLine; decide), fun p hp => ?_⟩
    have b1 := Int.emod_nonneg c (b := 2) (by decide)
    have b2 := Int.emod_lt_of_pos c (b := 2) (by decide)
    exact q p _ hp (Same.upd hp) ⟨_, _, _, upd_same, b1, by omega⟩
theorem ix0 (a b c : V) : atI [a, b, c] 0 = some a := rfl
theorem ix1 (a b c : V) : atI [a, b, c] 1 = some b := rfl
theorem ix2 (a b c : V) : atI [a, b, c] 2 = some c := rfl
theorem scTake : FnScope ["_law_draw", "_law_most", "_law_found"] ["_law_draw", "_law_most"] (defScope sTake) := ⟨rfl, rfl, rfl, by decide +kernel, rfl, by decide +kernel, by decide +kernel⟩
theorem ok_take {f fM : Addr} {fd fdM : FuncData} (F : Fun K "_law_take" "_law_take" sTake f fd) (DM : Dn K mg "_law_mix" sMix ["_law_cell", "_law_k"] fM fdM) : FnOk P w K mg base CX0 2 f fd ["_law_draw", "_law_most"] spTake := by
  have GM : FnOk P w K mg base CX0 1 fM fdM ["_law_cell", "_law_k"] spMix := ok_mix DM.fn
  refine F.ok scTake (fun vs H Q E h => ?_) (fun cdv A outer s H vs Q E hr h => ?_)
  · obtain ⟨p, m, n, rfl, _⟩ := h
    rfl
  · obtain ⟨p, m, n, rfl, hm0, hm1, ⟨a, b, c, hp, hb0, hb1⟩, hn, q⟩ := h
    refine ⟨_, pss_cons (ps_if (PW.pt (pw_and (pt_cmpR op_eq (pe_ix ix_list (pv 0) pe_int (fun _ _ => rfl)) pe_int (nomark _)) (pw_and1 (pt_cmpR op_in_seq (pe_ix ix_list (pv 0) pe_int (fun _ _ => rfl)) (pe_lst (pa_cons pe_int (pa_cons (pe_un un_neg pe_int) pa_nil))) rfl))))
        (pss_cons (ps_asg pe_int (pg_sub (pv 0) pe_int set_list)) (pss_one (ps_asg (pe_ix ix_list (pv 0) pe_int (fun _ _ => rfl)) (pg_sub (pv 0) pe_int set_list)))) pss_nil)
      (pss_cons (ps_if (pt_cmpR op_eq (pe_ix ix_list (pv 0) pe_int (fun _ _ => rfl)) pe_int (nomark _))
        (pss_cons (ps_set (i := 2) scTake.nd rfl (Or.inl rfl) (pe_op op_mod (pe_ix ix_list (pv 0) pe_int (fun _ _ => rfl)) (pv 1)))
        (pss_cons (ps_asg (pe_op op_fdiv (pe_ix ix_list (pv 0) pe_int (fun _ _ => rfl)) (pv 1)) (pg_sub (pv 0) pe_int set_list))
        (pss_one (ps_ret (pv 2))))) pss_nil)
      (pss_cons (ps_asg (pe_op op_add (pe_ix ix_list (pv 0) pe_int (fun _ _ => rfl)) pe_int) (pg_sub (pv 0) pe_int set_list))
      (pss_one (ps_ret (pe_op op_mod (pe_fn DM GM hr rfl (pa_cons (pe_ix ix_list (pv 0) pe_int (fun _ _ => rfl)) (pa_cons (pe_ix ix_list (pv 0) pe_int (fun _ _ => rfl)) pa_nil))) (pv 1)))))), ?_⟩
    have hc0 : ∀ (H1 : Hp) (a1 b1 : Int), But p H H1 → H1 p = some (.lst [.int a1, .int b1, .int c]) → 0 ≤ b1 → b1 ≤ (n : Int) + 1 → b1 = 0 → ∀ z : Int, But p H (upd H1 p (.lst [.int z, .int b1, .int c])) ∧ Drw (upd H1 p (.lst [.int z, .int b1, .int c])) p (n + 2) := fun H1 a1 b1 hB h1 h2 h3 _ z =>
      ⟨hB.trans But.upd, z, b1, c, upd_same, h2, by omega⟩
    refine ⟨_, rfl, p, _, _, _, rfl, rfl, SqL.of hp, ix1 _ _ _, rfl, _, rfl, ?_⟩
    by_cases hb : b = 0
    · refine itDP (by rw [hb]) ?_
      refine ⟨_, rfl, p, _, _, _, rfl, rfl, SqL.of hp, ix0 _ _ _, 1, rfl, (by show 2 ≤ sizeLine; decide), fun l hl => ⟨l, _, rfl, .inl (SqL.of upd_same), rfl, rfl, _, rfl, ?_⟩⟩
      have npl : p ≠ l := ne_of_none hp hl
      have hp1 : upd H l (.lst [.int 0, .int (-1)]) p = some (.lst [.int a, .int b, .int c]) := by rw [upd_ne npl]; exact hp
      have hB1 : But p H (upd H l (.lst [.int 0, .int (-1)])) := But.new hl
      generalize upd H l (.lst [.int 0, .int (-1)]) = H1 at hp1 hB1 ⊢
      generalize inV (V.int a) [V.int 0, V.int (-1)] = t
      cases t with
      | true =>
        refine iteT ?_
        refine ⟨_, rfl, p, _, 1, 1, rfl, rfl, hp1, rfl, ?_⟩
        refine ⟨_, rfl, p, _, _, _, rfl, rfl, SqL.of upd_same, ix2 _ _ _, _, rfl, p, _, 0, 0, rfl, rfl, upd_same, rfl, ?_⟩
        rw [upd_upd]
        have hp2 : upd H1 p (.lst [.int c, .int 1, .int c]) p = some (.lst [.int c, .int 1, .int c]) := upd_same
        have hB2 : But p H (upd H1 p (.lst [.int c, .int 1, .int c])) := hB1.trans But.upd
        refine ⟨_, rfl, p, _, _, _, rfl, rfl, SqL.of hp2, ix1 _ _ _, rfl, _, rfl, ?_⟩
        refine itDN (by intro z; cases z) ?_
        refine ⟨_, rfl, p, _, _, _, rfl, rfl, SqL.of hp2, ix1 _ _ _, _, _, rfl, rfl, _, rfl, p, _, 1, 1, rfl, rfl, hp2, rfl, ?_⟩
        rw [upd_upd]
        refine ⟨_, rfl, p, _, _, _, rfl, rfl, SqL.of upd_same, ix0 _ _ _, _, rfl, p, _, _, _, rfl, rfl, SqL.of upd_same, ix1 _ _ _, _, _, rfl, (by decide), (by decide), fun r => ?_⟩
        refine ⟨_, rfl, _, _, rfl, rfl, hm0, ?_⟩
        exact q _ _ (Int.emod_nonneg _ (Int.ne_of_gt hm0)) (Int.emod_lt_of_pos _ hm0) (hB1.trans But.upd) ⟨c, 1 + 1, c, upd_same, by decide, by omega⟩
      | false =>
        refine iteF ?_
        refine ⟨_, rfl, p, _, _, _, rfl, rfl, SqL.of hp1, ix1 _ _ _, rfl, _, rfl, ?_⟩
        refine itDP (by rw [hb]) ?_
        refine ⟨_, rfl, p, _, _, _, rfl, rfl, SqL.of hp1, ix0 _ _ _, _, rfl, _, _, rfl, rfl, hm0, ?_⟩
        refine ⟨_, rfl, p, _, _, _, rfl, rfl, SqL.of hp1, ix0 _ _ _, _, rfl, _, _, rfl, rfl, ⟨hm0, hm1⟩, _, rfl, p, _, 0, 0, rfl, rfl, hp1, rfl, ?_⟩
        refine ⟨_, rfl, ?_⟩
        exact q _ _ (Int.emod_nonneg _ (Int.ne_of_gt hm0)) (Int.emod_lt_of_pos _ hm0) (hB1.trans But.upd) ⟨_, b, c, upd_same, hb0, by omega⟩
    · refine itDN (fun z => hb (V.int.inj z)) ?_
      refine iteF ?_
      refine ⟨_, rfl, p, _, _, _, rfl, rfl, SqL.of hp, ix1 _ _ _, rfl, _, rfl, ?_⟩
      refine itDN (fun z => hb (V.int.inj z)) ?_
      refine ⟨_, rfl, p, _, _, _, rfl, rfl, SqL.of hp, ix1 _ _ _, _, _, rfl, rfl, _, rfl, p, _, 1, 1, rfl, rfl, hp, rfl, ?_⟩
      refine ⟨_, rfl, p, _, _, _, rfl, rfl, SqL.of upd_same, ix0 _ _ _, _, rfl, p, _, _, _, rfl, rfl, SqL.of upd_same, ix1 _ _ _, _, _, rfl, (by omega), (by omega), fun r => ?_⟩
      refine ⟨_, rfl, _, _, rfl, rfl, hm0, ?_⟩
      exact q _ _ (Int.emod_nonneg _ (Int.ne_of_gt hm0)) (Int.emod_lt_of_pos _ hm0) But.upd ⟨a, b + 1, c, upd_same, by omega, by omega⟩
theorem zk_2 {r : Int} (h0 : 0 ≤ r) (h1 : r < 2) : Zk r := by
  obtain ⟨j, rfl⟩ := Int.eq_ofNat_of_zero_le h0
  have : ∀ j : Nat, j < 2 → (j : Int) ∈ Zs := by decide +kernel
  exact this j (by omega)
theorem zk_5 {r : Int} (h0 : 0 ≤ r) (h1 : r < 5) : Zk (r - 2) := by
  obtain ⟨j, rfl⟩ := Int.eq_ofNat_of_zero_le h0
  have : ∀ j : Nat, j < 5 → (j : Int) - 2 ∈ Zs := by decide +kernel
  exact this j (by omega)
theorem zk_0 : Zk 0 := zk_2 (by decide) (by decide)
def spWeight : Sp := fun vs H Q _ => ∃ (p : Addr) (y : Int) (n : Nat), vs = [.ref p, .int y] ∧ Drw H p n ∧ n ≤ 900000 ∧ ∀ (r : Int) H', Zk r → But p H H' → Drw H' p (n + 2) → Q (.int r) H'
theorem p59 : (10 : Int) ^ (59 : Int).toNat = 100000000000000000000000000000000000000000000000000000000000 := by decide
theorem p60' : (10 : Int) ^ (60 : Int).toNat = 1000000000000000000000000000000000000000000000000000000000000 := by decide
theorem pow59 : CPow 10 59 := ⟨by decide, by decide, by decide⟩
theorem pow60 : CPow 10 60 := ⟨by decide, by decide, by decide⟩
theorem scWeight : FnScope ["_law_draw", "_law_way"] ["_law_draw", "_law_way"] (defScope sWeight) := ⟨rfl, rfl, rfl, by decide +kernel, rfl, by decide +kernel, by decide +kernel⟩
theorem ok_weight {f fT : Addr} {fd fdT : FuncData} (F : Fun K "_law_weight" "_law_weight" sWeight f fd) (DT : Dn K mg "_law_take" sTake ["_law_draw", "_law_most"] fT fdT) (GT : FnOk P w K mg base CX0 2 fT fdT ["_law_draw", "_law_most"] spTake) : FnOk P w K mg base CX0 3 f fd ["_law_draw", "_law_way"] spWeight := by
  refine F.ok scWeight (fun vs H Q E h => ?_) (fun cdv A outer s H vs Q E hr h => ?_)
  · obtain ⟨p, y, n, rfl, _⟩ := h
    rfl
  · obtain ⟨p, y, n, rfl, hd, hn, q⟩ := h
    refine ⟨_, pss_cons (ps_if (pt_cmpR op_eq (pv 1) pe_int (nomark _)) (pss_one (ps_ret (pe_fn DT GT hr rfl (pa_cons (pv 0) (pa_cons pe_int pa_nil))))) pss_nil)
      (pss_cons (ps_if (pt_cmpR op_eq (pv 1) pe_int (nomark _)) (pss_one (ps_ret (pe_op op_sub (pe_fn DT GT hr rfl (pa_cons (pv 0) (pa_cons pe_int pa_nil))) pe_int))) pss_nil)
      (pss_one (ps_ret (pe_ix ix_list (pe_lst (pa_cons pe_int (pa_cons pe_int (pa_cons (pe_un un_neg pe_int) (pa_cons pe_int (pa_cons (pe_op op_add (pe_op op_pow pe_int pe_int) pe_int) (pa_cons (pe_un un_neg (pe_op op_sub (pe_op op_pow pe_int pe_int) pe_int)) (pa_cons pe_int (pa_cons (pe_un un_neg pe_int) pa_nil)))))))))
        (pe_fn DT GT hr rfl (pa_cons (pv 0) (pa_cons pe_int pa_nil))) (fun _ _ => rfl))))), ?_⟩
    refine ⟨_, rfl, rfl, _, rfl, ?_⟩
    refine ite2 (fun _ => ?_) (fun _ => ?_)
    · exact ⟨_, rfl, p, 2, n, rfl, by decide, by decide, hd, by omega, fun r H' h0 h1 hB hD => q r H' (zk_2 h0 h1) hB hD⟩
    · refine ⟨_, rfl, rfl, _, rfl, ?_⟩
      refine ite2 (fun _ => ?_) (fun _ => ?_)
      · exact ⟨_, rfl, p, 5, n, rfl, by decide, by decide, hd, by omega, fun r H' h0 h1 hB hD => ⟨_, _, rfl, rfl, q _ H' (zk_5 h0 h1) hB hD⟩⟩
      · refine ⟨1, rfl, _, _, rfl, rfl, pow59, _, _, rfl, rfl, _, _, rfl, rfl, pow60, _, _, rfl, rfl, _, rfl, 3, rfl, (by show 8 ≤ sizeLine; decide), fun l hl => ?_⟩
        refine ⟨_, rfl, p, 8, n, rfl, by decide, by decide, hd.new hl, by omega, fun r H' h0 h1 hB hD => ?_⟩
        have hl' : H' l = some (.lst [.int 0, .int 1, .int (-1), .int 7, .int (10 ^ (59 : Int).toNat + 3), .int (-(10 ^ (60 : Int).toNat - 1)), .int 2, .int (-3)]) := hB l _ (by
          obtain ⟨a, b, c, e, _⟩ := hd
          exact (ne_of_none e hl).symm) upd_same
        obtain ⟨j, rfl⟩ := Int.eq_ofNat_of_zero_le h0
        have hj : j < 8 := by omega
        obtain ⟨v, hv, hw⟩ : ∃ v : Int, [V.int 0, .int 1, .int (-1), .int 7, .int (10 ^ (59 : Int).toNat + 3), .int (-(10 ^ (60 : Int).toNat - 1)), .int 2, .int (-3)][j]? = some (.int v) ∧ Zk v := by
          rw [p59, p60']
          match j, hj with
          | 0, _ => exact ⟨_, rfl, by unfold Zk; decide +kernel⟩
          | 1, _ => exact ⟨_, rfl, by unfold Zk; decide +kernel⟩
          | 2, _ => exact ⟨_, rfl, by unfold Zk; decide +kernel⟩
          | 3, _ => exact ⟨_, rfl, by unfold Zk; decide +kernel⟩
          | 4, _ => exact ⟨_, rfl, by unfold Zk; decide +kernel⟩
          | 5, _ => exact ⟨_, rfl, by unfold Zk; decide +kernel⟩
          | 6, _ => exact ⟨_, rfl, by unfold Zk; decide +kernel⟩
          | 7, _ => exact ⟨_, rfl, by unfold Zk; decide +kernel⟩
        refine ⟨l, _, _, .int v, rfl, rfl, SqL.of hl', atI_nat hv, ?_⟩
        exact q v H' hw ((But.new hl).trans hB) hD
end
section
variable {P : Program} {w : World} {K : PySem.W.Frag} {mg : Str → Option Value} {base : Heap}
structure RowsAt (H : Hp) (rs : List Addr) (M : List (List Int)) : Prop where
  len : rs.length = M.length
  row : ∀ (i : Nat) (r : Addr) (x : List Int), rs[i]? = some r → M[i]? = some x → H r = some (.lst (x.map V.int))
  nd : rs.Nodup
def ent (M : List (List Int)) (i j : Nat) : Int := ((M[i]?.getD [])[j]?).getD 0
structure Sq (n : Nat) (M : List (List Int)) : Prop where
  len : M.length = n
  row : ∀ (i : Nat) (x : List Int), M[i]? = some x → x.length = n ∧ ∀ z ∈ x, Zk z
  sym : ∀ i j : Nat, i < n → j < n → ent M i j = ent M j i
def put (M : List (List Int)) (i j : Nat) (z : Int) : List (List Int) := M.set i ((M[i]?.getD []).set j z)
theorem ent_put (M : List (List Int)) (n i j a b : Nat) (z : Int) (hl : M.length = n) (hr : ∀ (i : Nat) (x : List Int), M[i]? = some x → x.length = n) (hi : i < n) (hj : j < n) : ent (put M i j z) a b = if a = i ∧ b = j then z else ent M a b := by
  unfold ent put
  by_cases ha : a = i
  · subst ha
    rw [List.getElem?_set_self (by omega)]
    have hx : ∃ x, M[a]? = some x := ⟨M[a]'(by omega), by simp [hl, hi]⟩
    obtain ⟨x, hx⟩ := hx
    have lx := hr a x hx
    rw [hx]
    simp only [Option.getD_some]
    by_cases hb : b = j
    · subst hb
      rw [List.getElem?_set_self (by omega)]
      simp
    · rw [List.getElem?_set_ne (Ne.symm hb), if_neg (fun z => hb z.2)]
  · rw [List.getElem?_set_ne (Ne.symm ha), if_neg (fun z => ha z.1)]
theorem put_row {M : List (List Int)} {n i j : Nat} {z : Int} (hl : M.length = n) (hz : Zk z) (hr : ∀ (i : Nat) (x : List Int), M[i]? = some x → x.length = n ∧ ∀ z ∈ x, Zk z) :
    (put M i j z).length = n ∧ ∀ (k : Nat) (x : List Int), (put M i j z)[k]? = some x → x.length = n ∧ ∀ z ∈ x, Zk z := by
  unfold put
  refine ⟨by rw [List.length_set]; exact hl, fun k x hx => ?_⟩
  by_cases hk : k = i
  · subst hk
    by_cases hlt : k < M.length
    · rw [List.getElem?_set_self hlt] at hx
      have hx := Option.some.inj hx
      have hy : M[k]? = some M[k] := by simp [hlt]
      have hh := hr k _ hy
      subst hx
      rw [hy]
      simp only [Option.getD_some, List.length_set]
      refine ⟨hh.1, fun y hy' => ?_⟩
      rcases List.mem_or_eq_of_mem_set hy' with q | q
      · exact hh.2 y q
      · rw [q]; exact hz
    · rw [List.getElem?_eq_none (by rw [List.length_set]; omega)] at hx
      cases hx
  · rw [List.getElem?_set_ne (Ne.symm hk)] at hx
    exact hr k x hx
theorem Sq.put {n : Nat} {M : List (List Int)} (S : Sq n M) {i j : Nat} {z : Int} (hi : i < n) (hj : j < n) (hz : Zk z) : Sq n (put (put M i j z) j i z) := by
  obtain ⟨l1, r1⟩ := put_row (i := i) (j := j) S.len hz S.row
  obtain ⟨l2, r2⟩ := put_row (i := j) (j := i) l1 hz r1
  refine ⟨l2, r2, fun a b ha hb => ?_⟩
  have hr := fun (i : Nat) (x : List Int) h => (S.row i x h).1
  have hr1 := fun (k : Nat) (x : List Int) h => (r1 k x h).1
  rw [ent_put _ n j i a b z l1 hr1 hj hi, ent_put _ n j i b a z l1 hr1 hj hi, ent_put _ n i j a b z S.len hr hi hj, ent_put _ n i j b a z S.len hr hi hj]
  have := S.sym a b ha hb
  by_cases h1 : a = j ∧ b = i
  · rw [if_pos h1]
    by_cases h2 : b = j ∧ a = i
    · rw [if_pos h2]
    · rw [if_neg h2, if_pos ⟨h1.2, h1.1⟩]
  · rw [if_neg h1]
    by_cases h2 : a = i ∧ b = j
    · rw [if_pos h2, if_pos ⟨h2.2, h2.1⟩]
    · rw [if_neg h2, if_neg (fun q => h2 ⟨q.2, q.1⟩), if_neg (fun q => h1 ⟨q.2, q.1⟩)]
      exact this
theorem RowsAt.put {H : Hp} {rs : List Addr} {M : List (List Int)} (R : RowsAt H rs M) {i : Nat} {r : Addr} {x : List Int} {j : Nat} {z : Int} (hr : rs[i]? = some r) (hx : M[i]? = some x) :
    RowsAt (upd H r (.lst ((x.set j z).map V.int))) rs (put M i j z) := by
  unfold My.put
  refine ⟨by rw [List.length_set]; exact R.len, fun k r' x' h1 h2 => ?_, R.nd⟩
  by_cases hk : k = i
  · subst hk
    rw [hr] at h1; cases h1
    rw [List.getElem?_set_self (List.getElem?_eq_some_iff.mp hx).1, hx] at h2
    cases h2
    exact upd_same
  · rw [List.getElem?_set_ne (Ne.symm hk)] at h2
    have ne : r' ≠ r := fun e => by
      subst e
      obtain ⟨p1, q1⟩ := List.getElem?_eq_some_iff.mp h1
      obtain ⟨p2, q2⟩ := List.getElem?_eq_some_iff.mp hr
      exact hk ((List.getElem_inj R.nd).mp (q1.trans q2.symm))
    rw [upd_ne ne]
    exact R.row k r' x' h1 h2
theorem RowsAt.keep {H H' : Hp} {rs : List Addr} {M : List (List Int)} (R : RowsAt H rs M) (k : ∀ r ∈ rs, ∀ o, H r = some o → H' r = some o) : RowsAt H' rs M :=
  ⟨R.len, fun i r x h1 h2 => k r (List.mem_of_getElem? h1) _ (R.row i r x h1 h2), R.nd⟩
theorem But.updN {d a : Addr} {H H' : Hp} {o : HO} (c : But d H H') (h : H a = none) : But d H (L2.upd H' a o) := fun b u n e => by
  rw [upd_ne (ne_of_none e h)]
  exact c b u n e
theorem Drw.updN {d a : Addr} {H : Hp} {o : HO} {n : Nat} (D : Drw H d n) (h : a ≠ d) : Drw (L2.upd H a o) d n := by
  obtain ⟨x, y, z, e, r⟩ := D
  exact ⟨x, y, z, by rw [upd_ne h.symm]; exact e, r⟩
theorem RowsAt.snoc {H H' : Hp} {rs : List Addr} {M : List (List Int)} {l : Addr} {x : List Int} (R : RowsAt H rs M) (k : ∀ r ∈ rs, ∀ o, H r = some o → H' r = some o) (hl : H' l = some (.lst (x.map V.int))) (hn : l ∉ rs) : RowsAt H' (rs ++ [l]) (M ++ [x]) := by
  refine ⟨by rw [List.length_append, List.length_append, R.len]; rfl, fun i r y h1 h2 => ?_, ?_⟩
  · by_cases hi : i < rs.length
    · rw [List.getElem?_append_left hi] at h1
      rw [List.getElem?_append_left (by rw [← R.len]; exact hi)] at h2
      exact k r (List.mem_of_getElem? h1) _ (R.row i r y h1 h2)
    · rw [List.getElem?_append_right (by omega)] at h1
      rw [List.getElem?_append_right (by rw [← R.len]; omega), ← R.len] at h2
      cases e : i - rs.length with
      | zero => rw [e] at h1 h2; cases h1; cases h2; exact hl
      | succ j => rw [e] at h1; cases h1
  · rw [List.nodup_append]
    refine ⟨R.nd, by simp, fun a ha b hb e => ?_⟩
    rw [List.mem_singleton.mp hb] at e
    exact hn (e ▸ ha)
theorem RowsAt.get {H : Hp} {rs : List Addr} {M : List (List Int)} (R : RowsAt H rs M) {i : Nat} (h : i < rs.length) : ∃ r x, rs[i]? = some r ∧ M[i]? = some x ∧ H r = some (.lst (x.map V.int)) := by
  have h1 : rs[i]? = some rs[i] := by simp [h]
  have h' : i < M.length := by rw [← R.len]; exact h
  have h2 : M[i]? = some M[i] := by simp [h']
  exact ⟨_, _, h1, h2, R.row i _ _ h1 h2⟩
theorem ixN_nat {n j : Nat} (h : j < n) : ixN n (j : Int) = some j := by
  unfold ixN
  rw [if_pos (by omega), if_pos (by omega)]
  simp
structure WebAt (H : Hp) (p hA rA : Addr) (rs : List Addr) (n : Nat) (hs : List Int) (M : List (List Int)) : Prop where
  tup : H p = some (.tup [.ref hA, .ref rA])
  hue : H hA = some (.lst (hs.map V.int))
  rws : H rA = some (.lst (rs.map V.ref))
  row : RowsAt H rs M
  len : hs.length = n
  pos : ∀ z ∈ hs, 0 ≤ z ∧ Zk z
  sq : Sq n M
def spWeb : Sp := fun vs H Q _ => ∃ (d : Addr) (m : Int) (n : Nat), vs = [.ref d, .int m] ∧ 0 ≤ m ∧ m ≤ 8 ∧ Drw H d n ∧ n ≤ 800000 ∧
  ∀ (H' : Hp) (p hA rA : Addr) (rs : List Addr) (k : Nat) (hs : List Int) (M : List (List Int)), (k : Int) ≤ m → But d H H' → Drw H' d (n + 200) → WebAt H' p hA rA rs k hs M → (∀ a ∈ p :: hA :: rA :: rs, H a = none ∧ a ≠ d) → hA ≠ rA → hA ∉ rs → rA ∉ rs → Q (.ref p) H'
def bodyAt (s : Stmt) (i : Nat) : Stmt := (defBody s).getD i (.Pass ⟨0, 0, 0, 0⟩)
def asgVal (s : Stmt) : Expr := match s with
  | .Assign _ v _ => v
  | .Return (some v) _ => v
  | _ => .Constant .none 0 ⟨0, 0, 0, 0⟩
def lcScope (e : Expr) : Scope := match e with
  | .ListComp _ _ sc _ => sc
  | _ => { kind := .function, names := [], isGenerator := false, isCoroutine := false }
structure BltW (mg : Str → Option Value) : Prop where
  range : mg "range" = none
  int : mg "int" = none
abbrev nWeb : List Str := ["_law_draw", "_law_most", "_law_many", "_law_way", "_law_hues", "_law_u", "_law_rows", "_law_v", "_law_weight_here"]
theorem scWeb : FnScope nWeb ["_law_draw", "_law_most"] (defScope sWeb) := ⟨rfl, rfl, rfl, by decide +kernel, rfl, by decide +kernel, by decide +kernel⟩
theorem lcWeb : LcScopes (defScope sWeb) nWeb (lcScope (asgVal (bodyAt sWeb 4))) ["_law_u"] := ⟨by decide +kernel, rfl, by decide +kernel, by decide +kernel, by decide +kernel, by decide +kernel, by decide +kernel, by decide +kernel, by decide +kernel, by decide +kernel⟩
theorem zeros_map (k : Nat) : (List.replicate k [V.int 0]).flatten = (List.replicate k (0 : Int)).map V.int := by
  induction k with
  | zero => rfl
  | succ k ih => rw [List.replicate_succ, List.flatten_cons, ih, List.replicate_succ, List.map_cons]; rfl
theorem sq_zero (n : Nat) : Sq n (List.replicate n (List.replicate n 0)) := by
  refine ⟨List.length_replicate, fun i x hx => ?_, fun i j hi hj => ?_⟩
  · rw [List.getElem?_replicate] at hx
    split at hx
    · cases hx
      refine ⟨List.length_replicate, fun z hz => ?_⟩
      rw [List.eq_of_mem_replicate hz]
      exact zk_0
    · cases hx
  · unfold ent
    rw [List.getElem?_replicate, List.getElem?_replicate, if_pos hi, if_pos hj]
    simp only [Option.getD_some, List.getElem?_replicate, if_pos hi, if_pos hj]
theorem hues4 (r : Nat) (h : r < 4) : ∃ v : Int, [V.int 0, .int 1, .int 7, .int (10 ^ (60 : Int).toNat - 1)][r]? = some (.int v) ∧ 0 ≤ v ∧ Zk v := by
  rw [p60']
  match r, h with
  | 0, _ => exact ⟨_, rfl, by decide, by unfold Zk; decide +kernel⟩
  | 1, _ => exact ⟨_, rfl, by decide, by unfold Zk; decide +kernel⟩
  | 2, _ => exact ⟨_, rfl, by decide, by unfold Zk; decide +kernel⟩
  | 3, _ => exact ⟨_, rfl, by decide, by unfold Zk; decide +kernel⟩
theorem ok_web {f fT fW : Addr} {fd fdT fdW : FuncData} (B : BltW mg) (F : Fun K "_law_web" "_law_web" sWeb f fd) (DT : Dn K mg "_law_take" sTake ["_law_draw", "_law_most"] fT fdT) (GT : FnOk P w K mg base CX0 2 fT fdT ["_law_draw", "_law_most"] spTake)
    (DW : Dn K mg "_law_weight" sWeight ["_law_draw", "_law_way"] fW fdW) (GW : FnOk P w K mg base CX0 3 fW fdW ["_law_draw", "_law_way"] spWeight) : FnOk P w K mg base CX0 4 f fd ["_law_draw", "_law_most"] spWeb := by
  refine F.ok scWeb (fun vs H Q E h => ?_) (fun cdv A outer s H vs Q E hr h => ?_)
  · obtain ⟨d, m, n, rfl, _⟩ := h
    rfl
  · obtain ⟨d, m, n, rfl, hm0, hm1, hd, hn, q⟩ := h
    refine ⟨_, pss_cons (ps_set (i := 2) scWeb.nd rfl (Or.inr rfl) (pe_fn DT GT (hr.mono (by decide)) rfl (pa_cons (pv 0) (pa_cons (pe_op op_add (pv 1) pe_int) pa_nil))))
      (pss_cons (ps_set (i := 3) scWeb.nd rfl (Or.inl rfl) (pe_fn DT GT (hr.mono (by decide)) rfl (pa_cons (pv 0) (pa_cons pe_int pa_nil))))
      (pss_cons (ps_set (i := 4) scWeb.nd rfl (Or.inl rfl) (pe_lst pa_nil))
      (pss_cons (ps_for PassesOwn.never rfl (pi_range1 rfl B.range (pa_cons (pv 2) pa_nil)) (pg_name (i := 5) scWeb.nd rfl (Or.inl rfl))
        (pss_one (ps_expr (pe_bm PySem.F.plainAttrs_list PySem.F.slot_list_append PySem.F.type_list_append mt_append (pv 4) (pa_cons (pe_ix ix_list (pe_lst (pa_cons pe_int (pa_cons pe_int (pa_cons pe_int (pa_cons (pe_op op_sub (pe_op op_pow pe_int pe_int) pe_int) pa_nil)))))
          (pe_fn DT GT (hr.mono (by decide)) rfl (pa_cons (pv 0) (pa_cons (pe_op op_add pe_int (pe_op op_mul pe_int (pe_callTy call_int1 (by rfl) B.int boot_int (pa_cons (pe_cmpR op_eq (pv 3) pe_int (nomark _)) pa_nil)))) pa_nil))) (fun _ _ => rfl)) pa_nil)))))
      (pss_cons (ps_setLc1 (i := 6) scWeb.nd rfl (Or.inl rfl) rfl lcWeb rfl (pi_range1 rfl B.range (pa_cons (pv 2) pa_nil)) (fun _ _ _ => pe_op op_rep (pe_lst (pa_cons pe_int pa_nil)) (pv 2)))
      (pss_cons (ps_for PassesOwn.never rfl (pi_range1 rfl B.range (pa_cons (pv 2) pa_nil)) (pg_name (i := 5) scWeb.nd rfl (Or.inl rfl))
        (pss_one (ps_for PassesOwn.never rfl (pi_range1 rfl B.range (pa_cons (pe_op op_add (pv 5) pe_int) pa_nil)) (pg_name (i := 7) scWeb.nd rfl (Or.inl rfl))
          (pss_cons (ps_set (i := 8) scWeb.nd rfl (Or.inl rfl) (pe_fn DW GW hr rfl (pa_cons (pv 0) (pa_cons (pv 3) pa_nil))))
          (pss_cons (ps_asg (pv 8) (pg_sub (pe_ix ix_list (pv 6) (pv 5) (fun _ _ => rfl)) (pv 7) set_list))
          (pss_one (ps_asg (pv 8) (pg_sub (pe_ix ix_list (pv 6) (pv 7) (fun _ _ => rfl)) (pv 5) set_list))))))))
      (pss_one (ps_ret (pe_tup (pa_cons (pv 4) (pa_cons (pv 6) pa_nil)))))))))), ?_⟩
    refine ⟨_, rfl, _, rfl, _, _, rfl, rfl, d, m + 1, n, rfl, by omega, by omega, hd, by omega, fun k H1 k0 k1 hB1 hD1 => ?_⟩
    refine ⟨_, rfl, d, 3, n + 2, rfl, by decide, by decide, hD1, by omega, fun y H2 y0 y1 hB2 hD2 => ?_⟩
    obtain ⟨k, rfl⟩ := Int.eq_ofNat_of_zero_le k0
    have hk : (k : Int) ≤ m := by omega
    refine ⟨Nat.zero_le _, fun hA hhA => ?_⟩
    have c2 := hB1.trans hB2
    have nd1 : ∀ {a : Addr} {Hx : Hp} {j : Nat}, Drw Hx d j → Hx a = none → a ≠ d := fun {a Hx j} D h e => by
      obtain ⟨_, _, _, e', _⟩ := D
      rw [e, e'] at h
      cases h
    have old : ∀ {a : Addr} {Hx : Hp}, But d H Hx → a ≠ d → Hx a = none → H a = none := fun {a Hx} hB hne h => by
      cases e : H a with
      | none => rfl
      | some o => rw [hB a o hne e] at h; cases h
    have hAd := nd1 hD2 hhA
    have hA0 := old c2 hAd hhA
    refine ⟨_, rfl, (k : Int), rfl, by omega, by omega, for_range (n := k) (fun i σ H' => ∃ (o5 : Option V) (hs : List Int), σ = [some (.ref d), some (.int m), some (.int (k : Int)), some (.int y), some (.ref hA), o5, none, none, none] ∧ But d H H' ∧ Drw H' d (n + 4 + 2 * i) ∧
      H' hA = some (.lst (hs.map V.int)) ∧ hs.length = i ∧ ∀ z ∈ hs, 0 ≤ z ∧ Zk z) ⟨none, [], rfl, c2.trans (But.new hhA), hD2.new hhA, upd_same, rfl, fun z hz => by cases hz⟩ ?_ ?_⟩
    · rintro i σ H3 hi ⟨o5, hs, rfl, c3, hD3, e3, l3, p3⟩
      refine ⟨_, rfl, .inl ⟨rfl, _, SqL.of e3⟩, _, _, rfl, rfl, pow60, _, _, rfl, rfl, (by show 4 ≤ sizeLine; decide), fun l hl => ?_⟩
      have nld := nd1 hD3 hl
      have nlA : hA ≠ l := ne_of_none e3 hl
      refine ⟨_, rfl, _, rfl, rfl, .inr ⟨_, rfl, _, _, rfl, rfl, cmul_l (by decide) (by decide), _, _, rfl, rfl, d, _, n + 4 + 2 * i, rfl, by split <;> decide, by split <;> decide, hD3.new hl, by omega, fun r H4 r0 r1 hB4 hD4 => ?_⟩⟩
      obtain ⟨r, rfl⟩ := Int.eq_ofNat_of_zero_le r0
      have hr4 : r < 4 := by
        have : (r : Int) < 4 := Int.lt_of_lt_of_le r1 (by split <;> decide)
        omega
      obtain ⟨v, hv, v0, v1⟩ := hues4 r hr4
      have el : H4 l = some (.lst [V.int 0, .int 1, .int 7, .int (10 ^ (60 : Int).toNat - 1)]) := hB4 l _ nld upd_same
      have eA : H4 hA = some (.lst (hs.map V.int)) := hB4 hA _ hAd (by rw [upd_ne nlA]; exact e3)
      refine ⟨l, _, _, .int v, rfl, rfl, SqL.of el, atI_nat hv, ?_⟩
      refine ⟨hA, _, _, rfl, rfl, eA, small1000 (by rw [List.length_map]; omega), ?_⟩
      refine ⟨_, hs ++ [v], rfl, (c3.trans ((But.new hl).trans hB4)).updN hA0, (hD4.mono (by omega)).updN hAd, by rw [List.map_append]; exact upd_same, by rw [List.length_append, l3]; rfl, fun z hz => ?_⟩
      rcases List.mem_append.mp hz with z1 | z1
      · exact p3 z z1
      · rw [List.mem_singleton.mp z1]; exact ⟨v0, v1⟩
    · rintro σ H3 ⟨o5, hs, rfl, c3, hD3, e3, l3, p3⟩
      refine ⟨_, rfl, (k : Int), rfl, by omega, by omega, fun D hDn => ?_⟩
      have hDd := nd1 hD3 hDn
      have hD0 := old c3 hDd hDn
      have nDA : hA ≠ D := ne_of_none e3 hDn
      refine ⟨fun i mm ys H' => mm = k - i ∧ i ≤ k ∧ ∃ rs : List Addr, ys = rs.map V.ref ∧ rs.length = i ∧ But d H H' ∧ Drw H' d (n + 4 + 2 * k) ∧ H' hA = some (.lst (hs.map V.int)) ∧ H' D = some (.lst ys) ∧
        RowsAt H' rs (List.replicate i (List.replicate k 0)) ∧ ∀ r ∈ rs, H r = none ∧ r ≠ d ∧ r ≠ hA ∧ r ≠ D, ⟨k, by simp, Nat.zero_le _, [], rfl, rfl, c3.updN hD0, hD3.updN hDd, by rw [upd_ne nDA]; exact e3, upd_same, ⟨rfl, (fun i r x h _ => by cases h), List.nodup_nil⟩, (fun r hr => by cases hr)⟩, ?_⟩
      rintro i mm ys H4 ⟨rfl, hi, rs, rfl, l4, c4, hD4, e4, eD, R4, o4⟩
      refine ⟨eD, ?_⟩
      by_cases hlt : i < k
      · refine .inr ⟨hlt, ?_⟩
        rintro z H5 ⟨eH, rfl⟩
        have eH := eH.symm
        subst eH
        refine ⟨(by show 1 ≤ sizeLine; decide), fun l1 hl1 => ?_⟩
        refine ⟨_, rfl, l1, (k : Int), _, rfl, rfl, upd_same, by omega, by omega, Nat.le_of_lt (small1000 (by show 1 * (k : Int).toNat ≤ 1000; omega)), fun l2 hl2 => ?_⟩
        have n21 : l2 ≠ l1 := (ne_of_none upd_same hl2).symm
        have hl2' : H4 l2 = none := by rw [upd_ne n21] at hl2; exact hl2
        have sm : Same H4 (upd (upd H4 l1 (.lst [.int 0])) l2 (.lst (List.replicate (k : Int).toNat [V.int 0]).flatten)) := (Same.upd hl1).trans (Same.upd hl2)
        have el : upd (upd H4 l1 (.lst [.int 0])) l2 (.lst (List.replicate (k : Int).toNat [V.int 0]).flatten) l2 = some (.lst ((List.replicate k (0 : Int)).map V.int)) := by
          rw [upd_same, Int.toNat_natCast, zeros_map]
        have cx : But d H (upd (upd H4 l1 (.lst [.int 0])) l2 (.lst (List.replicate (k : Int).toNat [V.int 0]).flatten)) := fun b o nb e => sm b o (c4 b o nb e)
        have dx : Drw (upd (upd H4 l1 (.lst [.int 0])) l2 (.lst (List.replicate (k : Int).toNat [V.int 0]).flatten)) d (n + 4 + 2 * k) := (hD4.new hl1).new hl2
        generalize upd (upd H4 l1 (.lst [.int 0])) l2 (.lst (List.replicate (k : Int).toNat [V.int 0]).flatten) = H5 at sm el cx dx ⊢
        have l2d : l2 ≠ d := nd1 hD4 hl2'
        have l2A : l2 ≠ hA := (ne_of_none e4 hl2').symm
        have l2D : l2 ≠ D := (ne_of_none eD hl2').symm
        have l2r : l2 ∉ rs := fun hm => by
          obtain ⟨j, hj, e⟩ := List.getElem_of_mem hm
          obtain ⟨r, x, g1, g2, g3⟩ := R4.get hj
          have : rs[j]? = some l2 := by rw [List.getElem?_eq_getElem hj, e]
          rw [g1] at this
          cases this
          rw [g3] at hl2'
          cases hl2'
        refine ⟨sm _ _ eD, small1000 (by rw [List.length_map]; omega), k - (i + 1), by omega, rfl, hlt, rs ++ [l2], by rw [List.map_append]; rfl, by rw [List.length_append, l4]; rfl, cx.updN hD0, dx.updN hDd, by rw [upd_ne nDA]; exact sm _ _ e4, upd_same, ?_, ?_⟩
        · have R5 : RowsAt H5 (rs ++ [l2]) (List.replicate i (List.replicate k 0) ++ [List.replicate k 0]) := R4.snoc (fun r _ o e => sm r o e) el l2r
          rw [← List.replicate_succ'] at R5
          refine R5.keep fun r hr o e => ?_
          have : r ≠ D := by
            rcases List.mem_append.mp hr with z | z
            · exact (o4 r z).2.2.2
            · rw [List.mem_singleton.mp z]; exact l2D
          rw [upd_ne this]
          exact e
        · intro r hr
          rcases List.mem_append.mp hr with z | z
          · exact o4 r z
          · rw [List.mem_singleton.mp z]
            exact ⟨old c4 l2d hl2', l2d, l2A, l2D⟩
      · have : i = k := by omega
        subst this
        refine .inl ⟨Nat.le_refl _, ?_⟩
        refine ⟨_, rfl, (i : Int), rfl, by omega, by omega, for_range (n := i) (fun u σ H' => ∃ (o5 o7 o8 : Option V) (M : List (List Int)), σ = [some (.ref d), some (.int m), some (.int (i : Int)), some (.int y), some (.ref hA), o5, some (.ref D), o7, o8] ∧ But d H H' ∧ Drw H' d (n + 4 + 2 * i + 18 * u) ∧
          H' hA = some (.lst (hs.map V.int)) ∧ H' D = some (.lst (rs.map V.ref)) ∧ RowsAt H' rs M ∧ Sq i M) ⟨_, _, _, _, rfl, c4, hD4, e4, eD, R4, sq_zero i⟩ ?_ ?_⟩
        · rintro u σ H5 hu ⟨o5, o7, o8, M, rfl, c5, hD5, e5, eD5, R5, S5⟩
          refine ⟨_, rfl, _, _, rfl, rfl, (0 + (u : Nat) : Int) + 1, rfl, by omega, by omega, ?_⟩
          have eu : ((0 + (u : Nat) : Int) + 1).toNat = u + 1 := by omega
          rw [eu]
          refine for_range (n := u + 1) (fun v σ H' => ∃ (o7 o8 : Option V) (M : List (List Int)), σ = [some (.ref d), some (.int m), some (.int (i : Int)), some (.int y), some (.ref hA), some (.int (0 + (u : Nat))), some (.ref D), o7, o8] ∧ But d H H' ∧ Drw H' d (n + 4 + 2 * i + 18 * u + 2 * v) ∧
            H' hA = some (.lst (hs.map V.int)) ∧ H' D = some (.lst (rs.map V.ref)) ∧ RowsAt H' rs M ∧ Sq i M) ⟨_, _, M, rfl, c5, hD5, e5, eD5, R5, S5⟩ ?_ ?_
          · rintro v σ H6 hv ⟨o7, o8, M, rfl, c6, hD6, e6, eD6, R6, S6⟩
            refine ⟨_, rfl, _, rfl, d, y, _, rfl, hD6, by omega, fun z H7 hz hB7 hD7 => ?_⟩
            have c7 := c6.trans hB7
            have e7 := hB7 hA _ hAd e6
            have eD7 := hB7 D _ hDd eD6
            have R7 : RowsAt H7 rs M := R6.keep fun r hr o e => hB7 r o (o4 r hr).2.1 e
            obtain ⟨ru, xu, g1, g2, g3⟩ := R7.get (i := u) (by omega)
            have hru := o4 ru (List.mem_of_getElem? g1)
            have lxu := (S6.row u xu g2).1
            have a1 : atI (rs.map V.ref) (0 + (u : Nat) : Int) = some (.ref ru) := by rw [Int.zero_add]; exact atI_nat (by rw [List.getElem?_map, g1]; rfl)
            refine ⟨_, rfl, _, rfl, _, rfl, D, _, _, _, rfl, rfl, SqL.of eD7, a1, _, rfl, ru, _, _, v, rfl, rfl, g3, by rw [Int.zero_add, List.length_map]; exact ixN_nat (by omega), ?_⟩
            rw [← List.map_set]
            have R8 := R7.put (j := v) (z := z) g1 g2
            have c8 : But d H (upd H7 ru (.lst ((xu.set v z).map V.int))) := c7.updN hru.1
            have hD8 : Drw (upd H7 ru (.lst ((xu.set v z).map V.int))) d _ := hD7.updN hru.2.1
            have e8 : upd H7 ru (.lst ((xu.set v z).map V.int)) hA = _ := (upd_ne hru.2.2.1.symm).trans e7
            have eD8 : upd H7 ru (.lst ((xu.set v z).map V.int)) D = _ := (upd_ne hru.2.2.2.symm).trans eD7
            generalize upd H7 ru (.lst ((xu.set v z).map V.int)) = H8 at R8 c8 hD8 e8 eD8 ⊢
            obtain ⟨rv, xv, k1, k2, k3⟩ := R8.get (i := v) (by omega)
            have hrv := o4 rv (List.mem_of_getElem? k1)
            have lxv := ((put_row (i := u) (j := v) S6.len hz S6.row).2 v xv k2).1
            have a2 : atI (rs.map V.ref) (0 + (v : Nat) : Int) = some (.ref rv) := by rw [Int.zero_add]; exact atI_nat (by rw [List.getElem?_map, k1]; rfl)
            refine ⟨_, rfl, _, rfl, _, rfl, D, _, _, _, rfl, rfl, SqL.of eD8, a2, _, rfl, rv, _, _, u, rfl, rfl, k3, by rw [Int.zero_add, List.length_map]; exact ixN_nat (by omega), ?_⟩
            rw [← List.map_set]
            exact ⟨_, _, _, rfl, c8.updN hrv.1, (hD8.mono (by omega)).updN hrv.2.1, (upd_ne hrv.2.2.1.symm).trans e8, (upd_ne hrv.2.2.2.symm).trans eD8, R8.put (j := u) (z := z) k1 k2, S6.put (by omega) (by omega) hz⟩
          · rintro σ H6 ⟨o7, o8, M, rfl, c6, hD6, e6, eD6, R6, S6⟩
            exact ⟨_, _, _, M, rfl, c6, hD6.mono (by omega), e6, eD6, R6, S6⟩
        · rintro σ H5 ⟨o5, o7, o8, M, rfl, c5, hD5, e5, eD5, R5, S5⟩
          refine ⟨_, rfl, _, rfl, (by show 2 ≤ sizeLine; decide), fun p hp => ?_⟩
          have npd := nd1 hD5 hp
          have np := fun {a : Addr} {o : HO} (e : H5 a = some o) => ne_of_none e hp
          have R6 : RowsAt (upd H5 p (.tup [.ref hA, .ref D])) rs M := R5.keep fun r hr o e => by rw [upd_ne (np e)]; exact e
          refine q _ p hA D rs i hs M hk (c5.trans (But.new hp)) ((hD5.new hp).mono (by omega)) ⟨upd_same, by rw [upd_ne (np e5)]; exact e5, by rw [upd_ne (np eD5)]; exact eD5, R6, l3, p3, S5⟩ ?_ nDA (fun z => (o4 _ z).2.2.1 rfl) (fun z => (o4 _ z).2.2.2 rfl)
          intro a ha
          rcases List.mem_cons.mp ha with rfl | ha
          · exact ⟨old c5 npd hp, npd⟩
          · rcases List.mem_cons.mp ha with rfl | ha
            · exact ⟨hA0, hAd⟩
            · rcases List.mem_cons.mp ha with rfl | ha
              · exact ⟨hD0, hDd⟩
              · exact ⟨(o4 a ha).1, (o4 a ha).2.1⟩
end
section
variable {P : Program} {w : World} {K : PySem.W.Frag} {mg : Str → Option Value} {base : Heap}
structure BltO (mg : Str → Option Value) : Prop where
  range : mg "range" = none
  list : mg "list" = none
  len : mg "len" = none
  max : mg "max" = none
  min : mg "min" = none
  sorted : mg "sorted" = none
  isi : mg "isinstance" = none
  tuple : mg "tuple" = none
  verr : mg "ValueError" = none
def dI (ns : List Int) : PyData := .list (ns.map .int)
theorem lay_ints : ∀ ns : List Int, PyData.canLayAll0 (ns.map .int) = true ∧ PyData.depthAll (ns.map .int) = 0
  | [] => ⟨rfl, rfl⟩
  | n :: ns => by
    obtain ⟨h1, h2⟩ := lay_ints ns
    refine ⟨?_, ?_⟩
    · rw [List.map_cons]
      simp only [PyData.canLayAll0, PyData.canLay0, h1, Bool.and_self]
    · rw [List.map_cons]
      simp only [PyData.depthAll, PyData.depth, h2, Nat.max_self]
theorem lay_dI (ns : List Int) : (dI ns).canLay0 = true ∧ (dI ns).depth ≤ 1 := by
  obtain ⟨h1, h2⟩ := lay_ints ns
  unfold dI
  exact ⟨by simp only [PyData.canLay0, h1], by simp only [PyData.depth, h2]; exact Nat.le_refl _⟩
theorem das_ints {ok : Addr → Prop} {H : Hp} : ∀ ns : List Int, DAs K ok H (ns.map V.int) (ns.map .int)
  | [] => .nil
  | n :: ns => .cons (.int n) (das_ints ns)
theorem daI {ok : Addr → Prop} {H : Hp} {a : Addr} {ns : List Int} (n : ok a) (h : SqL K H a (ns.map V.int)) : DA K ok H (.ref a) (dI ns) := .lst n h (das_ints ns)
structure WR (H : Hp) (p : Addr) (hs : List Int) (M : List (List Int)) : Prop where
  ex : ∃ hA rA rs, H p = some (.tup [.ref hA, .ref rA]) ∧ H hA = some (.lst (hs.map V.int)) ∧ H rA = some (.lst (rs.map V.ref)) ∧ RowsAt H rs M
theorem take_snoc {α : Type} {xs : List α} {i : Nat} {x : α} (h : xs[i]? = some x) : xs.take (i + 1) = xs.take i ++ [x] := by
  rw [List.take_succ, h]
  rfl
theorem eqv_ints : ∀ a b : List Int, PyData.eqvAll (a.map .int) (b.map .int) = decide (a = b)
  | [], [] => rfl
  | [], b :: bs => rfl
  | a :: as, [] => rfl
  | a :: as, b :: bs => by
    rw [List.map_cons, List.map_cons]
    simp only [PyData.eqvAll, PyData.eqv, eqv_ints as bs]
    by_cases h : a = b
    · subst h
      by_cases h2 : as = bs
      · subst h2; simp
      · simp [h2]
    · simp [h]
theorem eqv_dI (a b : List Int) : PyData.eqv (dI a) (dI b) = decide (a = b) := by
  unfold dI
  simp only [PyData.eqv]
  exact eqv_ints a b
theorem at_ref {rs : List Addr} {j : Nat} {r : Addr} (h : rs[j]? = some r) : atI (rs.map V.ref) (j : Int) = some (.ref r) := atI_nat (by rw [List.getElem?_map, h]; rfl)
theorem getD_some {α : Type} {xs : List α} {j : Nat} {x d : α} (h : xs[j]? = some x) : xs.getD j d = x := by rw [List.getD_eq_getElem?_getD, h]; rfl
theorem rows_some {H : Hp} {rs : List Addr} {M : List (List Int)} (R : RowsAt H rs M) {r : Addr} (h : r ∈ rs) : ∃ o, H r = some o := by
  obtain ⟨j, hj, e⟩ := List.getElem_of_mem h
  obtain ⟨r', x', h1, h2, h3⟩ := R.get hj
  have : rs[j]? = some r := by rw [List.getElem?_eq_getElem hj, e]
  rw [h1] at this
  cases this
  exact ⟨_, h3⟩
theorem Same.sq {H H' : Hp} {a : Addr} {xs : List V} (e : Same H H') (h : SqL K H a xs) : SqL K H' a xs := (Same.keep (ok := any) e).seq trivial h
theorem map_get {α β : Type} {f : α → β} {xs : List α} {i : Nat} {y : β} (h : (xs.map f)[i]? = some y) : ∃ x, xs[i]? = some x ∧ y = f x := by
  rw [List.getElem?_map] at h
  obtain ⟨x, h1, h2⟩ := Option.map_eq_some_iff.mp h
  exact ⟨x, h1, h2.symm⟩
def dW (hs : List Int) (M : List (List Int)) : PyData := .tuple [dI hs, .list (M.map dI)]
theorem lay_rows : ∀ M : List (List Int), PyData.canLayAll0 (M.map dI) = true ∧ PyData.depthAll (M.map dI) ≤ 1
  | [] => ⟨rfl, Nat.zero_le _⟩
  | x :: M => by
    obtain ⟨h1, h2⟩ := lay_rows M
    obtain ⟨a1, a2⟩ := lay_dI x
    rw [List.map_cons]
    simp only [PyData.canLayAll0, PyData.depthAll, h1, a1, Bool.and_self, true_and]
    omega
theorem lay_dW (hs : List Int) (M : List (List Int)) : (dW hs M).canLay0 = true ∧ (dW hs M).depth ≤ 3 := by
  obtain ⟨h1, h2⟩ := lay_rows M
  obtain ⟨a1, a2⟩ := lay_dI hs
  unfold dW
  simp only [PyData.canLay0, PyData.canLayAll0, PyData.depth, PyData.depthAll, h1, a1, Bool.and_self, true_and]
  omega
theorem eqv_rows : ∀ M : List (List Int), PyData.eqvAll (M.map dI) (M.map dI) = true
  | [] => rfl
  | x :: M => by
    rw [List.map_cons]
    simp only [PyData.eqvAll, eqv_dI, eqv_rows M, decide_true, Bool.and_self]
theorem eqv_dW (hs : List Int) (M : List (List Int)) : PyData.eqv (dW hs M) (dW hs M) = true := by
  unfold dW
  simp only [PyData.eqv, PyData.eqvAll, eqv_dI, eqv_rows M, decide_true, Bool.and_self]
theorem das_rows {H : Hp} : ∀ {rs : List Addr} {M : List (List Int)}, rs.length = M.length → (∀ (i : Nat) (r : Addr) (x : List Int), rs[i]? = some r → M[i]? = some x → H r = some (.lst (x.map V.int))) → DAs K any H (rs.map V.ref) (M.map dI)
  | [], [], _, _ => .nil
  | r :: rs, x :: M, l, h => .cons (daI trivial (SqL.of (h 0 r x rfl rfl))) (das_rows (by simpa using l) fun i r' x' h1 h2 => h (i + 1) r' x' h1 h2)
theorem WR.da {H : Hp} {p : Addr} {hs : List Int} {M : List (List Int)} (W : WR H p hs M) : DA K any H (.ref p) (dW hs M) := by
  obtain ⟨hA, rA, rs, h1, h2, h3, R⟩ := W.ex
  exact .tup trivial (SqT.of h1) (.cons (daI trivial (SqL.of h2)) (.cons (.lst trivial (SqL.of h3) (das_rows R.len R.row)) .nil))
end
section
variable {P : Program} {w : World} {K : PySem.W.Frag} {mg : Str → Option Value} {base : Heap}
def hasRow (M : List (List Int)) (n u : Nat) : Bool := decide (u < M.length) && decide ((M.getD u []).length = n)
def turned (M : List (List Int)) (n u : Nat) : Bool := (List.range n).all fun v => !(hasRow M n v && !decide (ent M u v = ent M v u))
def right (hs : List Int) (M : List (List Int)) (u : Nat) : Bool := decide (0 ≤ hs.getD u 0) && (hasRow M hs.length u && turned M hs.length u)
def due (hs : List Int) (M : List (List Int)) : Option Nat := ((List.range hs.length).find? fun u => !right hs M u).or (if hs.length < M.length then some hs.length else none)
theorem due_at {hs : List Int} {M : List (List Int)} {u : Nat} (h : u < hs.length) (h1 : right hs M u = false) (h2 : ∀ v < u, right hs M v = true) : due hs M = some u := by
  have : ((List.range hs.length).find? fun u => !right hs M u) = some u := by
    rw [List.find?_range_eq_some]
    refine ⟨by rw [h1]; rfl, List.mem_range.mpr h, fun j hj => by rw [h2 j hj]; rfl⟩
  unfold due
  rw [this]
  rfl
theorem due_end {hs : List Int} {M : List (List Int)} (h : ∀ v < hs.length, right hs M v = true) : due hs M = if hs.length < M.length then some hs.length else none := by
  have : ((List.range hs.length).find? fun u => !right hs M u) = none := by
    rw [List.find?_range_eq_none]
    exact fun j hj => by rw [h j hj]; rfl
  unfold due
  rw [this]
  rfl
structure RR (H : Hp) (rA : Addr) (M : List (List Int)) : Prop where
  ex : ∃ rs, H rA = some (.lst (rs.map V.ref)) ∧ RowsAt H rs M
theorem ent_some {M : List (List Int)} {u v : Nat} {x : List Int} (h : M[u]? = some x) (hv : v < x.length) : x[v]? = some (ent M u v) := by
  unfold ent
  rw [h]
  simp only [Option.getD_some]
  rw [List.getElem?_eq_getElem hv]
  rfl
theorem at_ent {M : List (List Int)} {u v : Nat} {x : List Int} (h : M[u]? = some x) (hv : v < x.length) : atI (x.map V.int) (v : Int) = some (.int (ent M u v)) := atI_nat (by rw [List.getElem?_map, ent_some h hv]; rfl)
theorem has_get {M : List (List Int)} {n u : Nat} (h : hasRow M n u = true) : ∃ x, M[u]? = some x ∧ x.length = n ∧ u < M.length := by
  unfold hasRow at h
  rw [Bool.and_eq_true, decide_eq_true_eq, decide_eq_true_eq] at h
  have e : M[u]? = some M[u] := List.getElem?_eq_getElem h.1
  rw [getD_some e] at h
  exact ⟨_, e, h.2, h.1⟩
def spHas : Sp := fun vs H Q _ => ∃ (rA : Addr) (M : List (List Int)) (u n : Nat), vs = [.ref rA, .int (u : Int), .int (n : Int)] ∧ RR H rA M ∧ Q (.bl (hasRow M n u)) H
abbrev nHas : List Str := ["rows", "place", "size"]
theorem scHas : FnScope nHas nHas (defScope sHas) := ⟨rfl, rfl, rfl, by decide +kernel, rfl, by decide +kernel, by decide +kernel⟩
theorem ok_has {f : Addr} {fd : FuncData} (B : BltO mg) (F : Fun K "has_row" "has_row" sHas f fd) : FnOk P w K mg base CX0 1 f fd nHas spHas := by
  refine F.ok scHas (fun vs H Q E h => ?_) (fun cdv A outer s H vs Q E hr h => ?_)
  · obtain ⟨rA, M, u, n, rfl, _⟩ := h
    rfl
  · obtain ⟨rA, M, u, n, rfl, hR, q⟩ := h
    obtain ⟨rs, h1, R⟩ := hR.ex
    refine ⟨_, pss_one (ps_ret (pe_and (pe_cmpR op_lt (pv 1) (pe_callB call_len_seq (by rfl) B.len PySem.boot_len (pa_cons (pv 0) pa_nil)) (nomark _))
      (pe_one (pe_cmpR op_eq (pe_callB call_len_seq (by rfl) B.len PySem.boot_len (pa_cons (pe_ix ix_list (pv 0) (pv 1) (fun _ _ => rfl)) pa_nil)) (pv 2) (nomark _))))), ?_⟩
    refine ⟨_, rfl, _, rfl, rA, _, rfl, .inl (SqL.of h1), _, _, rfl, rfl, _, rfl, ?_⟩
    rw [List.length_map, R.len]
    unfold hasRow at q
    by_cases hu : u < M.length
    · refine itDP (by omega) ?_
      obtain ⟨r, x, g1, g2, g3⟩ := R.get (i := u) (by rw [R.len]; exact hu)
      rw [decide_eq_true hu, Bool.true_and, getD_some g2] at q
      refine ⟨_, rfl, _, rfl, rA, _, _, _, rfl, rfl, SqL.of h1, at_ref g1, r, _, rfl, .inl (SqL.of g3), _, rfl, rfl, ?_⟩
      rw [List.length_map]
      have : decide ((V.int (x.length : Int)) = V.int (n : Int)) = decide (x.length = n) := by
        by_cases hx : x.length = n
        · rw [hx]; simp
        · have : ¬ (V.int (x.length : Int)) = V.int (n : Int) := fun z => hx (by have := V.int.inj z; omega)
          rw [decide_eq_false this, decide_eq_false hx]
      rw [this]
      exact q
    · refine itDN (by omega) ?_
      rw [decide_eq_false hu, Bool.false_and] at q
      exact q
def spTurned : Sp := fun vs H Q _ => ∃ (rA : Addr) (M : List (List Int)) (u n : Nat), vs = [.ref rA, .int (u : Int), .int (n : Int)] ∧ RR H rA M ∧ n ≤ 100 ∧ u < n ∧ hasRow M n u = true ∧ Q (.bl (turned M n u)) H
abbrev nTurned : List Str := ["rows", "place", "size", "other"]
theorem scTurned : FnScope nTurned ["rows", "place", "size"] (defScope sTurned) := ⟨rfl, rfl, rfl, by decide +kernel, rfl, by decide +kernel, by decide +kernel⟩
theorem ok_turned {f fH : Addr} {fd fdH : FuncData} (B : BltO mg) (F : Fun K "is_turned_alike" "is_turned_alike" sTurned f fd) (DH : Dn K mg "has_row" sHas nHas fH fdH) (GH : FnOk P w K mg base CX0 1 fH fdH nHas spHas) : FnOk P w K mg base CX0 2 f fd ["rows", "place", "size"] spTurned := by
  refine F.ok scTurned (fun vs H Q E h => ?_) (fun cdv A outer s H vs Q E hr h => ?_)
  · obtain ⟨rA, M, u, n, rfl, _⟩ := h
    rfl
  · obtain ⟨rA, M, u, n, rfl, hR, hn, un, hu, q⟩ := h
    obtain ⟨rs, h1, R⟩ := hR.ex
    obtain ⟨xu, gu, lu, uM⟩ := has_get hu
    obtain ⟨ru, xu', k1, k2, k3⟩ := R.get (i := u) (by rw [R.len]; exact uM)
    rw [gu] at k2
    cases k2
    refine ⟨_, pss_cons (ps_for PassesOwn.never rfl (pi_range1 rfl B.range (pa_cons (pv 2) pa_nil)) (pg_name (i := 3) scTurned.nd rfl (Or.inl rfl))
        (pss_one (ps_if (PW.pt (pw_and (pt_val (pe_fn DH GH hr rfl (pa_cons (pv 0) (pa_cons (pv 3) (pa_cons (pv 2) pa_nil))))) (pw_and1 (pt_cmpR op_ne (pe_ix ix_list (pe_ix ix_list (pv 0) (pv 1) (fun _ _ => rfl)) (pv 3) (fun _ _ => rfl)) (pe_ix ix_list (pe_ix ix_list (pv 0) (pv 3) (fun _ _ => rfl)) (pv 1) (fun _ _ => rfl)) (nomark _)))))
          (pss_one (ps_ret pe_bl)) pss_nil)))
      (pss_one (ps_ret pe_bl)), ?_⟩
    refine ⟨_, rfl, (n : Int), rfl, by omega, by omega, for_range (n := n) (fun i σ H' => ∃ o3 : Option V, σ = [some (.ref rA), some (.int (u : Int)), some (.int (n : Int)), o3] ∧ H' = H ∧ ∀ v < i, (!(hasRow M n v && !decide (ent M u v = ent M v u))) = true) ⟨none, rfl, rfl, fun v hv => by omega⟩ ?_ ?_⟩
    · rintro i σ H1 hi ⟨o3, rfl, rfl, hp⟩
      refine ⟨_, rfl, _, rfl, _, rfl, rA, M, i, n, by rw [Int.zero_add]; rfl, hR, _, rfl, ?_⟩
      have next : (!(hasRow M n i && !decide (ent M u i = ent M i u))) = true → ∀ v < i + 1, (!(hasRow M n v && !decide (ent M u v = ent M v u))) = true := fun h v hv => by
        by_cases hv' : v = i
        · subst hv'; exact h
        · exact hp v (by omega)
      cases hh : hasRow M n i with
      | false =>
        refine iteF (iteF ?_)
        exact ⟨_, rfl, rfl, next (by rw [hh]; rfl)⟩
      | true =>
        refine iteT ?_
        obtain ⟨xi, gi, li, iM⟩ := has_get hh
        obtain ⟨ri, xi', m1, m2, m3⟩ := R.get (i := i) (by rw [R.len]; exact iM)
        rw [gi] at m2
        cases m2
        have a1 : atI (rs.map V.ref) (0 + (i : Nat) : Int) = some (.ref ri) := by rw [Int.zero_add]; exact at_ref m1
        have a2 : atI (xu.map V.int) (0 + (i : Nat) : Int) = some (.int (ent M u i)) := by rw [Int.zero_add]; exact at_ent gu (by omega)
        refine ⟨_, rfl, _, rfl, rA, _, _, _, rfl, rfl, SqL.of h1, at_ref k1, _, rfl, ru, _, _, _, rfl, rfl, SqL.of k3, a2, _, rfl, _, rfl, rA, _, _, _, rfl, rfl, SqL.of h1, a1, _, rfl, ri, _, _, _, rfl, rfl, SqL.of m3, at_ent gi (by omega), rfl, _, rfl, ?_⟩
        by_cases he : ent M u i = ent M i u
        · refine iteNS (by rw [he]) ?_
          exact ⟨_, rfl, rfl, next (by rw [hh, decide_eq_true he]; rfl)⟩
        · refine iteNP (fun z => he (V.int.inj z)) ?_
          have : turned M n u = false := by
            unfold turned
            rw [List.all_eq_false]
            exact ⟨i, List.mem_range.mpr hi, by rw [hh, decide_eq_false he]; simp⟩
          rw [this] at q
          exact q
    · rintro σ H1 ⟨o3, rfl, rfl, hp⟩
      have : turned M n u = true := by
        unfold turned
        rw [List.all_eq_true]
        exact fun v hv => hp v (List.mem_range.mp hv)
      rw [this] at q
      exact q
def spRight : Sp := fun vs H Q _ => ∃ (hA rA : Addr) (hs : List Int) (M : List (List Int)) (u : Nat), vs = [.ref hA, .ref rA, .int (u : Int)] ∧ H hA = some (.lst (hs.map V.int)) ∧ RR H rA M ∧ hs.length ≤ 100 ∧ u < hs.length ∧ Q (.bl (right hs M u)) H
abbrev nRight : List Str := ["hues", "rows", "place", "size"]
theorem scRight : FnScope nRight ["hues", "rows", "place"] (defScope sRight) := ⟨rfl, rfl, rfl, by decide +kernel, rfl, by decide +kernel, by decide +kernel⟩
theorem at_hue {hs : List Int} {u : Nat} (h : u < hs.length) : atI (hs.map V.int) (u : Int) = some (.int (hs.getD u 0)) := by
  have e : hs[u]? = some hs[u] := List.getElem?_eq_getElem h
  rw [getD_some e]
  exact atI_nat (by rw [List.getElem?_map, e]; rfl)
theorem ok_right {f fH fT : Addr} {fd fdH fdT : FuncData} (B : BltO mg) (F : Fun K "is_right_place" "is_right_place" sRight f fd) (DH : Dn K mg "has_row" sHas nHas fH fdH) (GH : FnOk P w K mg base CX0 1 fH fdH nHas spHas)
    (DT : Dn K mg "is_turned_alike" sTurned ["rows", "place", "size"] fT fdT) (GT : FnOk P w K mg base CX0 2 fT fdT ["rows", "place", "size"] spTurned) : FnOk P w K mg base CX0 3 f fd ["hues", "rows", "place"] spRight := by
  refine F.ok scRight (fun vs H Q E h => ?_) (fun cdv A outer s H vs Q E hr h => ?_)
  · obtain ⟨hA, rA, hs, M, u, rfl, _⟩ := h
    rfl
  · obtain ⟨hA, rA, hs, M, u, rfl, hh, hR, hn, hu, q⟩ := h
    refine ⟨_, pss_cons (ps_set (i := 3) scRight.nd rfl (Or.inl rfl) (pe_callB call_len_seq (by rfl) B.len PySem.boot_len (pa_cons (pv 0) pa_nil)))
      (pss_one (ps_ret (pe_and (pe_cmpR op_ge (pe_ix ix_list (pv 0) (pv 2) (fun _ _ => rfl)) pe_int (nomark _)) (pe_and (pe_fn DH GH (hr.mono (by decide)) rfl (pa_cons (pv 1) (pa_cons (pv 2) (pa_cons (pv 3) pa_nil)))) (pe_one (pe_fn DT GT hr rfl (pa_cons (pv 1) (pa_cons (pv 2) (pa_cons (pv 3) pa_nil))))))))), ?_⟩
    refine ⟨_, rfl, hA, _, rfl, .inl (SqL.of hh), ?_⟩
    rw [List.length_map]
    refine ⟨_, rfl, _, rfl, hA, _, _, _, rfl, rfl, SqL.of hh, at_hue hu, _, _, rfl, rfl, _, rfl, ?_⟩
    unfold right at q
    by_cases h0 : 0 ≤ hs.getD u 0
    · refine itDP (by show hs.getD u 0 ≥ 0; exact h0) ?_
      rw [decide_eq_true h0, Bool.true_and] at q
      refine ⟨_, rfl, _, rfl, _, rfl, rA, M, u, hs.length, rfl, hR, _, rfl, ?_⟩
      cases hw : hasRow M hs.length u with
      | false =>
        rw [hw, Bool.false_and] at q
        exact iteF q
      | true =>
        rw [hw, Bool.true_and] at q
        refine iteT ?_
        exact ⟨_, rfl, _, rfl, _, rfl, rA, M, u, hs.length, rfl, hR, hn, hu, hw, q⟩
    · refine itDN (by show ¬ hs.getD u 0 ≥ 0; exact h0) ?_
      rw [decide_eq_false h0, Bool.false_and] at q
      exact q
def spInit (CW : Addr) : Sp := fun vs H Q _ => ∃ (x : Addr) (u : Nat), vs = [.ref x, .int (u : Int)] ∧ H x = some (rawHO x CW none) ∧ u ≤ 8 ∧ ∀ dx, H dx = none → dx ≠ x → Q .non (upd (upd H dx (.xd [("place", .int (u : Int))])) x (rawHO x CW (some dx)))
abbrev nInit : List Str := ["self", "place"]
theorem scInit : FnScope nInit nInit (defScope sInit) := ⟨rfl, rfl, rfl, by decide +kernel, rfl, by decide +kernel, by decide +kernel⟩
theorem upd_id {H : Hp} {a : Addr} {o : HO} (h : H a = some o) : upd H a o = H := by
  funext b
  by_cases hb : b = a
  · subst hb; rw [upd_same, h]
  · rw [upd_ne hb]
theorem small_place {u : Nat} (h : u ≤ 8) : (u : Int).natAbs.log2 < 1920 := by
  match u, h with
  | 0, _ => decide
  | 1, _ => decide
  | 2, _ => decide
  | 3, _ => decide
  | 4, _ => decide
  | 5, _ => decide
  | 6, _ => decide
  | 7, _ => decide
  | 8, _ => decide
theorem msg_fits0 : (Str.empty ++ Str.ofString "no web: wrong at place ").length ≤ sizeLine := by decide +kernel
theorem msg_fits {u : Nat} (h : u ≤ 8) : (Str.empty ++ Str.ofString "no web: wrong at place " ++ Str.ofString (toString (u : Int))).length ≤ sizeLine := by
  match u, h with
  | 0, _ => decide +kernel
  | 1, _ => decide +kernel
  | 2, _ => decide +kernel
  | 3, _ => decide +kernel
  | 4, _ => decide +kernel
  | 5, _ => decide +kernel
  | 6, _ => decide +kernel
  | 7, _ => decide +kernel
  | 8, _ => decide +kernel
theorem ok_init {f CW CK : Addr} {fd : FuncData} (Z : ExcI K CW CK f) (BI : BInit K CK) (hK : mg "KinError" = some (.ref CK)) (hp : PySem.W.findIn K (.ref CW) "place" = some none) (F : Fun K "__init__" "NoWeb.__init__" sInit f fd) : FnOk P w K mg base CX0 1 f fd nInit (spInit CW) := by
  refine F.ok scInit (fun vs H Q E h => ?_) (fun cdv A outer s H vs Q E hr h => ?_)
  · obtain ⟨x, u, rfl, _⟩ := h
    rfl
  · obtain ⟨x, u, rfl, hx, hu, q⟩ := h
    refine ⟨_, pss_cons (ps_expr (pe_binit Z BI rfl hK (pa_cons (pv 0) (pa_cons (pe_joined (pj_cons pe_str (pj_cons (pe_fmtI (pv 1)) pj_nil))) pa_nil))))
      (pss_one (ps_setX Z hp (pv 0) (pv 1))), ?_⟩
    refine ⟨_, rfl, _, rfl, msg_fits0, _, rfl, (u : Int), rfl, small_place hu, _, rfl, msg_fits hu, msg_fits hu, x, _, rfl, hx, (by show 1 ≤ sizeLine; decide), ?_⟩
    rw [upd_id hx]
    exact ⟨_, rfl, _, rfl, x, rfl, hx, q⟩
end
section
variable {P : Program} {w : World} {K : PySem.W.Frag} {mg : Str → Option Value} {base : Heap}
def spLook (CW : Addr) : Sp := fun vs H Q E => ∃ (wA : Addr) (hs : List Int) (M : List (List Int)), vs = [.ref wA] ∧ WR H wA hs M ∧ hs.length ≤ 8 ∧ (due hs M = none → Q .non H) ∧
  ∀ u, due hs M = some u → ∀ dx, H dx = none → E (.ref CW) (some dx) (upd H dx (.xd [("place", .int (u : Int))]))
abbrev nLook : List Str := ["web", "hues", "rows", "place"]
theorem scLook : FnScope nLook ["web"] (defScope sLook) := ⟨rfl, rfl, rfl, by decide +kernel, rfl, by decide +kernel, by decide +kernel⟩
theorem del_back {H : Hp} {x dx : Addr} {o o1 o2 : HO} (hx : H x = none) (hd : dx ≠ x) : del (upd (upd (upd H x o1) dx o) x o2) x = upd H dx o := by
  rw [del_upd, del_comm hd, del_upd, del_new hx]
theorem ok_look {f fR fI CW CK : Addr} {fd fdR fdI : FuncData} (B : BltO mg) (Z : ExcI K CW CK fI) (kp : PySem.W.keepIn K (.ref CW) = true) (hW : mg "NoWeb" = some (.ref CW)) (bI : Binds K fdI nInit []) (GI : FnOk P w K mg base CX0 1 fI fdI nInit (spInit CW))
    (F : Fun K "look_at_web" "look_at_web" sLook f fd) (DR : Dn K mg "is_right_place" sRight ["hues", "rows", "place"] fR fdR) (GR : FnOk P w K mg base CX0 3 fR fdR ["hues", "rows", "place"] spRight) : FnOk P w K mg base (CXd P w) 4 f fd ["web"] (spLook CW) := by
  refine F.okD scLook (fun vs H Q E h => ?_) (fun cdv A outer s H vs Q E hr h => ?_)
  · obtain ⟨wA, hs, M, rfl, _⟩ := h
    rfl
  · obtain ⟨wA, hs, M, rfl, hW', hl, q1, q2⟩ := h
    obtain ⟨hA, rA, rs, w1, w2, w3, R⟩ := hW'.ex
    have hRR : RR H rA M := ⟨rs, w3, R⟩
    refine ⟨_, pss_cons (ps_set (i := 1) scLook.nd rfl (Or.inl rfl) (pe_ix ix_tup (pv 0) pe_int (fun _ _ => rfl)))
      (pss_cons (ps_set (i := 2) scLook.nd rfl (Or.inl rfl) (pe_ix ix_tup (pv 0) pe_int (fun _ _ => rfl)))
      (pss_cons (ps_for PassesOwn.leaving rfl (pi_range1 rfl B.range (pa_cons (pe_callB call_len_seq (by rfl) B.len PySem.boot_len (pa_cons (pv 1) pa_nil)) pa_nil)) (pg_name (i := 3) scLook.nd rfl (Or.inl rfl))
        (pss_one (ps_if (pt_not (pt_val (pe_fn DR GR hr rfl (pa_cons (pv 1) (pa_cons (pv 2) (pa_cons (pv 3) pa_nil)))))) (pss_one (ps_raiseE rfl Z.w (pe_makeX Z kp GI (hr.mono (by decide)) bI rfl hW (pa_cons (pv 3) pa_nil)) raise_okD)) pss_nil)))
      (pss_one (ps_if (pt_cmpR op_gt (pe_callB call_len_seq (by rfl) B.len PySem.boot_len (pa_cons (pv 2) pa_nil)) (pe_callB call_len_seq (by rfl) B.len PySem.boot_len (pa_cons (pv 1) pa_nil)) (nomark _))
        (pss_one (ps_raiseE rfl Z.w (pe_makeX Z kp GI (hr.mono (by decide)) bI rfl hW (pa_cons (pe_callB call_len_seq (by rfl) B.len PySem.boot_len (pa_cons (pv 1) pa_nil)) pa_nil)) raise_okD)) pss_nil)))), ?_⟩
    refine ⟨_, rfl, wA, _, _, _, rfl, rfl, SqT.of w1, rfl, ?_⟩
    refine ⟨_, rfl, wA, _, _, _, rfl, rfl, SqT.of w1, rfl, ?_⟩
    refine ⟨_, rfl, hA, _, rfl, .inl (SqL.of w2), ?_⟩
    rw [List.length_map]
    refine ⟨(hs.length : Int), rfl, by omega, by omega, for_range (n := hs.length) (fun i σ H' => ∃ o3 : Option V, σ = [some (.ref wA), some (.ref hA), some (.ref rA), o3] ∧ H' = H ∧ ∀ v < i, right hs M v = true) ⟨none, rfl, rfl, fun v hv => by omega⟩ ?_ ?_⟩
    · rintro i σ H1 hi ⟨o3, rfl, rfl, hp⟩
      refine ⟨_, rfl, _, rfl, _, rfl, hA, rA, hs, M, i, by rw [Int.zero_add]; rfl, w2, hRR, by omega, hi, _, rfl, ?_⟩
      cases hh : right hs M i with
      | true =>
        refine iteF ⟨_, rfl, rfl, fun v hv => ?_⟩
        by_cases hv' : v = i
        · subst hv'; exact hh
        · exact hp v (by omega)
      | false =>
        refine iteT ?_
        refine ⟨_, rfl, (by show 1 ≤ sizeLine; decide), fun x hx => ⟨x, i, by rw [Int.zero_add], upd_same, by omega, fun dx hdx hne => ⟨rfl, x, some dx, rfl, upd_same, hx, ?_⟩⟩⟩
        rw [del_back hx hne]
        exact q2 i (due_at hi hh hp) dx (by rw [upd_ne hne] at hdx; exact hdx)
    · rintro σ H1 ⟨o3, rfl, rfl, hp⟩
      have hd := due_end hp
      refine ⟨_, rfl, rA, _, rfl, .inl (SqL.of w3), _, rfl, hA, _, rfl, .inl (SqL.of w2), _, _, rfl, rfl, _, rfl, ?_⟩
      rw [List.length_map, List.length_map, R.len]
      by_cases hm : hs.length < M.length
      · rw [if_pos hm] at hd
        refine itDP (by show (M.length : Int) > (hs.length : Int); omega) ?_
        refine ⟨_, rfl, hA, _, rfl, .inl (SqL.of w2), (by show 1 ≤ sizeLine; decide), fun x hx => ?_⟩
        rw [List.length_map]
        refine ⟨x, hs.length, rfl, upd_same, hl, fun dx hdx hne => ⟨rfl, x, some dx, rfl, upd_same, hx, ?_⟩⟩
        rw [del_back hx hne]
        exact q2 _ hd dx (by rw [upd_ne hne] at hdx; exact hdx)
      · rw [if_neg hm] at hd
        refine itDN (by show ¬ (M.length : Int) > (hs.length : Int); omega) ?_
        exact q1 hd
end
section
variable {P : Program} {w : World} {K : PySem.W.Frag} {mg : Str → Option Value} {base : Heap}
structure BltX (mg : Str → Option Value) : Prop where
  range : mg "range" = none
  list : mg "list" = none
  len : mg "len" = none
  int : mg "int" = none
  bool : mg "bool" = none
  str : mg "str" = none
  isi : mg "isinstance" = none
  sum : mg "sum" = none
  tuple : mg "tuple" = none
theorem fig_lt {c : Nat} (h : isFig c = true) : 48 ≤ c ∧ c ≤ 57 := by
  unfold isFig at h
  rw [Bool.and_eq_true, decide_eq_true_iff, decide_eq_true_iff] at h
  exact h
abbrev figS : Str := Str.ofString "0123456789"
theorem fig_in : ∀ c : Nat, c < 128 → (!(Builtin.Str.occurrences figS ⟨#[c]⟩ 0 figS.length 1).isEmpty) = isFig c := by decide +kernel
def Rdr (C : Addr) (H : Hp) (a : Addr) (t : List Nat) (p : Nat) : Prop := ∃ dx, H a = some (.ins C dx [("text", .str (Sg t)), ("place", .int (p : Int))])
structure ClsR (K : PySem.W.Frag) (C : Addr) : Prop where
  cl : Cls K C
  tx : NoAttr K C "text"
  pl : NoAttr K C "place"
structure GlX (mg : Str → Option Value) : Prop where
  fig : ∃ t, mg "FIGURES" = some (.str figS t)
  most : ∃ t, mg "MOST_FIGURES" = some (.int 60 t)
  places : ∃ t, mg "MOST_PLACES" = some (.int 8 t)
def spInitR (C : Addr) : Sp := fun vs H Q _ => ∃ (a dx : Addr) (t : List Nat), vs = [.ref a, .str (Sg t)] ∧ H a = some (.ins C dx []) ∧ ∀ H', But a H H' → Rdr C H' a t 0 → Q .non H'
theorem scInitR : FnScope ["self", "text"] ["self", "text"] (defScope sInitR) := ⟨rfl, rfl, rfl, by decide +kernel, rfl, by decide +kernel, by decide +kernel⟩
theorem ok_initR {f C : Addr} {fd : FuncData} (T : ClsR K C) (F : Fun K "__init__" "Reader.__init__" sInitR f fd) : FnOk P w K mg base CX0 1 f fd ["self", "text"] (spInitR C) := by
  refine F.ok scInitR (fun vs H Q E h => ?_) (fun cdv A outer s H vs Q E hr h => ?_)
  · obtain ⟨a, dx, t, rfl, _⟩ := h
    rfl
  · obtain ⟨a, dx, t, rfl, e, q⟩ := h
    refine ⟨_, pss_cons (ps_fld (pv 0) (pv 1) rfl) (pss_one (ps_fld (pv 0) pe_int rfl)), ?_⟩
    refine ⟨_, rfl, _, rfl, a, C, dx, _, rfl, e, T.cl, T.tx, by decide, ?_⟩
    refine ⟨_, rfl, a, C, dx, _, rfl, upd_same, T.cl, T.pl, (by show 1 < 1000; decide), ?_⟩
    rw [upd_upd]
    exact q _ But.upd ⟨dx, upd_same⟩
def spTakes (C : Addr) : Sp := fun vs H Q _ => ∃ (a : Addr) (t y : List Nat) (p : Nat), vs = [.ref a, .str (Sg y)] ∧ Rdr C H a t p ∧ p ≤ t.length ∧ t.length ≤ 100000 ∧ (y.isPrefixOf (t.drop p) = false → Q (.bl false) H) ∧ (y.isPrefixOf (t.drop p) = true → ∀ H', But a H H' → Rdr C H' a t (p + y.length) → Q (.bl true) H')
theorem scTakes : FnScope ["self", "word"] ["self", "word"] (defScope sTakes) := ⟨rfl, rfl, rfl, by decide +kernel, rfl, by decide +kernel, by decide +kernel⟩
theorem sz100 {n : Nat} (h : n ≤ 100000) : n ≤ sizeLine := Nat.le_trans h (by decide)
theorem ok_takes {f C : Addr} {fd : FuncData} (B : BltX mg) (T : ClsR K C) (F : Fun K "takes" "Reader.takes" sTakes f fd) : FnOk P w K mg base CX0 1 f fd ["self", "word"] (spTakes C) := by
  refine F.ok scTakes (fun vs H Q E h => ?_) (fun cdv A outer s H vs Q E hr h => ?_)
  · obtain ⟨a, t, y, p, rfl, _⟩ := h
    rfl
  · obtain ⟨a, t, y, p, rfl, ⟨dx, e⟩, hp, hz, q0, q1⟩ := h
    refine ⟨_, pss_cons (ps_if (pt_not (pt_val (pe_bm PySem.F.plainAttrs_str PySem.F.slot_str_startswith PySem.F.type_str_startswith mt_starts (pe_fld (pv 0) rfl) (pa_cons (pv 1) (pa_cons (pe_fld (pv 0) rfl) pa_nil))))) (pss_one (ps_ret pe_bl)) pss_nil)
      (pss_cons (ps_fld (pv 0) (pe_op op_add (pe_fld (pv 0) rfl) (pe_callB call_len_str (by rfl) B.len PySem.boot_len (pa_cons (pv 1) pa_nil))) rfl)
      (pss_one (ps_ret pe_bl))), ?_⟩
    refine ⟨_, rfl, a, C, dx, _, _, rfl, e, T.cl, T.tx, rfl, rfl, _, rfl, _, rfl, a, C, dx, _, _, rfl, e, T.cl, T.pl, rfl, t, y, p, rfl, rfl, hp, _, rfl, ?_⟩
    cases hy : y.isPrefixOf (t.drop p) with
    | false => exact iteT (q0 hy)
    | true =>
      refine iteF ?_
      have ly : y.length ≤ t.length := by
        have := (List.isPrefixOf_iff_prefix.mp hy).length_le
        rw [List.length_drop] at this
        omega
      refine ⟨_, rfl, a, C, dx, _, _, rfl, e, T.cl, T.pl, rfl, _, rfl, Sg y, rfl, by rw [Sg.len]; exact sz100 (by omega), _, _, rfl, rfl, _, rfl, a, C, dx, _, rfl, e, T.cl, T.pl, (by show 2 < 1000; decide), ?_⟩
      refine q1 hy _ But.upd ⟨dx, ?_⟩
      rw [upd_same, Sg.len]
      rfl
structure Mn (K : PySem.W.Frag) (C : Addr) (x q : Str) (st : Stmt) (ps : List Str) (f : Addr) (fd : FuncData) : Prop where
  fn : Fun K x q st f fd
  me : Meth K C x f
  bd : Binds K fd ps []
theorem lit_minus : Str.ofString "-" = Sg [45] := by decide +kernel
theorem lit_blank : Str.ofString " " = Sg [32] := by decide +kernel
theorem lit_semi : Str.ofString "; " = Sg [59, 32] := by decide +kernel
theorem lit_row : Str.ofString "row" = Sg [114, 111, 119] := by decide +kernel
theorem lit_hues : Str.ofString "hues" = Sg [104, 117, 101, 115] := by decide +kernel
theorem pre_app (a b : List Nat) : a.isPrefixOf (a ++ b) = true := List.isPrefixOf_iff_prefix.mpr (List.prefix_append a b)
end
section
variable {P : Program} {w : World} {K : PySem.W.Frag} {mg : Str → Option Value} {base : Heap}
structure NoT (K : PySem.W.Frag) (mg : Str → Option Value) (CT : Addr) : Prop where
  ex : ∃ bm, Exc K CT bm
  gl : mg "NoText" = some (.ref CT)
def spRefuse (C CT : Addr) : Sp := fun vs H _ E => ∃ (a : Addr) (t y : List Nat) (p : Nat), vs = [.ref a, .str (Sg y)] ∧ Rdr C H a t p ∧ p ≤ 100000 ∧ y.length ≤ 100 ∧ E (.ref CT) none H
theorem scRefuse : FnScope ["self", "wrong", "place"] ["self", "wrong"] (defScope sRefuse) := ⟨rfl, rfl, rfl, by decide +kernel, rfl, by decide +kernel, by decide +kernel⟩
theorem small_sign {p : Nat} (h : p ≤ 100000) : (p : Int).natAbs.log2 < 1920 := by
  rcases Nat.eq_zero_or_pos p with rfl | hp
  · decide
  · have : (p : Int).natAbs < 2 ^ 17 := by have : (2 : Nat) ^ 17 = 131072 := rfl; omega
    exact Nat.lt_of_lt_of_le ((Nat.log2_lt (by omega)).mpr this) (by decide)
theorem dec_len {p : Nat} (h : p ≤ 100000) : (Str.ofString (toString (p : Int))).length ≤ 1000 := by
  have h1 := int_text_length_le (a := (p : Int)) (k := 17) (by decide) (by
    rcases Nat.eq_zero_or_pos p with rfl | hp
    · decide
    · exact (Nat.log2_lt (by omega)).mpr (by have : (2 : Nat) ^ 17 = 131072 := rfl; omega))
  rw [PySem.ofString_length]
  omega
theorem ok_refuse {f C CT : Addr} {fd : FuncData} (T : ClsR K C) (N : NoT K mg CT) (F : Fun K "refuse" "Reader.refuse" sRefuse f fd) : FnOk P w K mg base (CXd P w) 1 f fd ["self", "wrong"] (spRefuse C CT) := by
  obtain ⟨bm, Z⟩ := N.ex
  refine F.okD scRefuse (fun vs H Q E h => ?_) (fun cdv A outer s H vs Q E hr h => ?_)
  · obtain ⟨a, t, y, p, rfl, _⟩ := h
    rfl
  · obtain ⟨a, t, y, p, rfl, ⟨dx, e⟩, hp, hy, q⟩ := h
    refine ⟨_, pss_cons (ps_set (i := 2) scRefuse.nd rfl (Or.inl rfl) (pe_fld (pv 0) rfl))
      (pss_one (ps_raise0 rfl Z rfl N.gl (pa_cons (pe_joined (pj_cons pe_str (pj_cons (pe_fmtS (pv 1)) (pj_cons pe_str (pj_cons (pe_fmtI (pv 2)) pj_nil))))) pa_nil) raise_okD)), ?_⟩
    have l0 : (Str.empty ++ Str.ofString "no text: ").length = 9 := by decide +kernel
    have ly : (Sg y).length ≤ 100 := by rw [Sg.len]; exact hy
    have ld := dec_len hp
    have big : ∀ n, n ≤ 2000 → n ≤ sizeLine := fun n h => Nat.le_trans h (by decide)
    refine ⟨_, rfl, a, C, dx, _, _, rfl, e, T.cl, T.pl, rfl, ?_⟩
    have l1 : (Str.ofString " at sign ").length = 9 := by decide +kernel
    have a1 : (Str.empty ++ Str.ofString "no text: " ++ Sg y).length ≤ 109 := by rw [Str.length_append]; omega
    have a2 : (Str.empty ++ Str.ofString "no text: " ++ Sg y ++ Str.ofString " at sign ").length ≤ 118 := by rw [Str.length_append]; omega
    have a3 : (Str.empty ++ Str.ofString "no text: " ++ Sg y ++ Str.ofString " at sign " ++ Str.ofString (toString (p : Int))).length ≤ 1118 := by rw [Str.length_append]; omega
    refine ⟨_, rfl, big _ (by omega), _, rfl, _, rfl, big _ (by omega), _, rfl, big _ (by omega), _, rfl, big _ (by omega), _, rfl, (p : Int), rfl, small_sign hp, _, rfl, big _ (by omega), big _ (by omega), (by show 1 ≤ sizeLine; decide), fun x hx => ⟨hx, ?_⟩⟩
    rw [del_upd, del_new hx]
    exact q
end
section
variable {P : Program} {w : World} {K : PySem.W.Frag} {mg : Str → Option Value} {base : Heap}
def Tl (tl : List Nat) : Prop := ∀ c, tl.head? = some c → c < 128 ∧ isFig c = false
def spMust (C CT : Addr) : Sp := fun vs H Q E => ∃ (a : Addr) (t y : List Nat) (p : Nat), vs = [.ref a, .str (Sg y)] ∧ Rdr C H a t p ∧ p ≤ t.length ∧ t.length ≤ 100000 ∧ y.length ≤ 9 ∧ (∀ c ∈ y, c < 128) ∧
  (y.isPrefixOf (t.drop p) = true → ∀ H', But a H H' → Rdr C H' a t (p + y.length) → Q .non H') ∧ (y.isPrefixOf (t.drop p) = false → E (.ref CT) none H)
theorem scMust : FnScope ["self", "word"] ["self", "word"] (defScope sMust) := ⟨rfl, rfl, rfl, by decide +kernel, rfl, by decide +kernel, by decide +kernel⟩
theorem ok_must {f fT fR C CT : Addr} {fd fdT fdR : FuncData} (T : ClsR K C) (F : Fun K "must_take" "Reader.must_take" sMust f fd) (MT : Mn K C "takes" "Reader.takes" sTakes ["self", "word"] fT fdT) (GT : FnOk P w K mg base CX0 1 fT fdT ["self", "word"] (spTakes C))
    (MR : Mn K C "refuse" "Reader.refuse" sRefuse ["self", "wrong"] fR fdR) (GR : FnOk P w K mg base (CXd P w) 1 fR fdR ["self", "wrong"] (spRefuse C CT)) : FnOk P w K mg base (CXd P w) 2 f fd ["self", "word"] (spMust C CT) := by
  refine F.okD scMust (fun vs H Q E h => ?_) (fun cdv A outer s H vs Q E hr h => ?_)
  · obtain ⟨a, t, y, p, rfl, _⟩ := h
    rfl
  · obtain ⟨a, t, y, p, rfl, R, hp, hz, hy, hc, q1, q0⟩ := h
    obtain ⟨dx, e⟩ := id R
    refine ⟨_, pss_one (ps_if (pt_not (pt_val (pe_meth (pv 0) T.cl MT.me GT (hr.mono (by decide)) MT.bd .nil pass0 (pa_cons (pv 1) pa_nil))))
      (pss_one (ps_expr (pe_meth (pv 0) T.cl MR.me GR (hr.mono (by decide)) MR.bd .nil pass_okD (pa_cons (pe_joined (pj_cons pe_str (pj_cons (pe_fmtR (pv 1)) pj_nil))) pa_nil)))) pss_nil), ?_⟩
    refine ⟨_, rfl, a, dx, _, rfl, e, rfl, _, rfl, a, t, y, p, rfl, R, hp, hz, fun z => ⟨_, rfl, iteT ?_⟩, fun z H' b R' => ⟨_, rfl, iteF (q1 z H' b R')⟩⟩
    have l0 : (Str.empty ++ Str.ofString "no ").length = 3 := by decide +kernel
    have lr := StrLaws.reprText_len (Sg y) fun c h => Nat.lt_of_lt_of_le (hc c (by simpa [Sg] using h)) (by decide)
    rw [Sg.len] at lr
    have a1 : (Str.empty ++ Str.ofString "no " ++ reprText (Sg y)).length ≤ 95 := by rw [Str.length_append]; omega
    have big : ∀ n, n ≤ 2000 → n ≤ sizeLine := fun n h => Nat.le_trans h (by decide)
    refine ⟨_, rfl, a, dx, _, rfl, e, rfl, _, rfl, big _ (by omega), _, rfl, _, rfl, big _ (by omega), _, rfl, big _ (by omega), big _ (by omega), a, t, (Str.empty ++ Str.ofString "no " ++ reprText (Sg y)).cps.toList, p, ?_, R, by omega, ?_, q0 z⟩
    · rw [Sg.of]; rfl
    · have : (Str.empty ++ Str.ofString "no " ++ reprText (Sg y)).cps.toList.length = (Str.empty ++ Str.ofString "no " ++ reprText (Sg y)).length := Array.length_toList
      omega
def spFigs (C : Addr) : Sp := fun vs H Q _ => ∃ (a : Addr) (t ds tl : List Nat) (p : Nat), vs = [.ref a] ∧ Rdr C H a t p ∧ p ≤ t.length ∧ t.length ≤ 100000 ∧ t.drop p = ds ++ tl ∧ (∀ c ∈ ds, isFig c = true) ∧ Tl tl ∧ Q (.str (Sg ds)) H
theorem scFigs : FnScope ["self", "end"] ["self"] (defScope sFigs) := ⟨rfl, rfl, rfl, by decide +kernel, rfl, by decide +kernel, by decide +kernel⟩
theorem ok_figs {f C : Addr} {fd : FuncData} (B : BltX mg) (T : ClsR K C) (G : GlX mg) (F : Fun K "figures" "Reader.figures" sFigs f fd) : FnOk P w K mg base CX0 1 f fd ["self"] (spFigs C) := by
  obtain ⟨tk, gF⟩ := G.fig
  refine F.ok scFigs (fun vs H Q E h => ?_) (fun cdv A outer s H vs Q E hr h => ?_)
  · obtain ⟨a, t, ds, tl, p, rfl, _⟩ := h
    rfl
  · obtain ⟨a, t, ds, tl, p, rfl, ⟨dx, e⟩, hp, hz, ht, hd, hl, q⟩ := h
    have lt : t.length = p + ds.length + tl.length := by
      have := congrArg List.length ht
      rw [List.length_drop, List.length_append] at this
      omega
    have at_ : ∀ j c, (ds ++ tl)[j]? = some c → t[p + j]? = some c := fun j c h => by
      rw [← ht, List.getElem?_drop] at h
      exact h
    refine ⟨_, pss_cons (ps_set (i := 1) scFigs.nd rfl (Or.inl rfl) (pe_fld (pv 0) rfl))
      (pss_cons (ps_while PassesOwn.never (PW.pt (pw_and (pt_cmpR op_lt (pv 1) (pe_callB call_len_str (by rfl) B.len PySem.boot_len (pa_cons (pe_fld (pv 0) rfl) pa_nil)) (nomark _)) (pw_and1 (pt_cmpR op_in_str (pe_ix ix_str (pe_fld (pv 0) rfl) (pv 1) (fun _ _ => rfl)) (pe_glob (v := .str figS) rfl gF ⟨_, rfl⟩) rfl))))
        (pss_one (ps_aug (i := 1) scFigs.nd rfl (Or.inl rfl) pe_int ip_add)))
      (pss_one (ps_ret (pe_slice sl_text (pe_fld (pv 0) rfl) (po_some (pe_fld (pv 0) rfl)) (po_some (pv 1)))))), ?_⟩
    refine ⟨_, rfl, a, C, dx, _, _, rfl, e, T.cl, T.pl, rfl, ?_⟩
    refine ⟨fun m σ H' => ∃ j, m = ds.length - j ∧ j ≤ ds.length ∧ σ = [some (.ref a), some (.int ((p + j : Nat) : Int))] ∧ H' = H, ⟨_, 0, rfl, Nat.zero_le _, rfl, rfl⟩, ?_⟩
    rintro m σ H1 ⟨j, rfl, hj, rfl, rfl⟩
    have done : j = ds.length → Q (.str (Sg ((t.drop p).take (p + j - p)))) H1 := fun ej => by
      rw [ht, Nat.add_sub_cancel_left, ej, List.take_left]
      exact q
    refine ⟨_, rfl, _, rfl, a, C, dx, _, _, rfl, e, T.cl, T.tx, rfl, Sg t, rfl, by rw [Sg.len]; exact sz100 hz, _, _, rfl, rfl, _, rfl, ?_⟩
    rw [Sg.len]
    by_cases hlt : p + j < t.length
    · refine itDP (by omega) ?_
      obtain ⟨c, hc⟩ : ∃ c, (ds ++ tl)[j]? = some c := ⟨_, List.getElem?_eq_getElem (by rw [List.length_append]; omega)⟩
      have hc' := at_ j c hc
      have c60 : c < 128 ∧ (isFig c = true ↔ j < ds.length) := by
        by_cases hjd : j < ds.length
        · rw [List.getElem?_append_left hjd] at hc
          have f := hd c (List.mem_of_getElem? hc)
          have := fig_lt f
          exact ⟨by omega, fun _ => hjd, fun _ => f⟩
        · rw [List.getElem?_append_right (by omega), show j - ds.length = 0 by omega, ← List.head?_eq_getElem?] at hc
          obtain ⟨h1, h2⟩ := hl c hc
          exact ⟨h1, (fun z => by rw [h2] at z; cases z), fun z => absurd z hjd⟩
      refine ⟨_, rfl, a, C, dx, _, _, rfl, e, T.cl, T.tx, rfl, _, rfl, Sg t, _, c, rfl, rfl, by rw [Sg.len]; exact sz100 hz, atI_nat (by simpa [Sg] using hc'), _, figS, rfl, rfl, _, rfl, ?_⟩
      rw [fig_in c c60.1]
      cases hf : isFig c with
      | true =>
        have hjd := c60.2.mp hf
        refine iteT ⟨_, fun _ _ z => z, ?_⟩
        exact ⟨_, rfl, _, _, rfl, rfl, ds.length - (j + 1), by omega, j + 1, rfl, hjd, rfl, rfl⟩
      | false =>
        have hjd : j = ds.length := by
          have : ¬ j < ds.length := fun z => by rw [c60.2.mpr z] at hf; cases hf
          omega
        refine iteF ?_
        exact ⟨_, rfl, a, C, dx, _, _, rfl, e, T.cl, T.tx, rfl, _, rfl, a, C, dx, _, _, rfl, e, T.cl, T.pl, rfl, _, rfl, _, rfl, _, rfl, t, p, p + j, rfl, rfl, rfl, by omega, by omega, sz100 hz, done hjd⟩
    · have hjd : j = ds.length := by omega
      refine itDN (by omega) (iteF ?_)
      exact ⟨_, rfl, a, C, dx, _, _, rfl, e, T.cl, T.tx, rfl, _, rfl, a, C, dx, _, _, rfl, e, T.cl, T.pl, rfl, _, rfl, _, rfl, _, rfl, t, p, p + j, rfl, rfl, rfl, by omega, by omega, sz100 hz, done hjd⟩
end
section
variable {P : Program} {w : World} {K : PySem.W.Frag} {mg : Str → Option Value} {base : Heap}
theorem lit_any (x : String) : V.str (Str.ofString x) = .str (Sg (Str.ofString x).cps.toList) := by rw [Sg.of]
def spEndR (C CT : Addr) : Sp := fun vs H Q E => ∃ (a : Addr) (t : List Nat) (p : Nat), vs = [.ref a] ∧ Rdr C H a t p ∧ p ≤ t.length ∧ t.length ≤ 100000 ∧ (p = t.length → Q .non H) ∧ (p < t.length → E (.ref CT) none H)
theorem scEndR : FnScope ["self"] ["self"] (defScope sEnd) := ⟨rfl, rfl, rfl, by decide +kernel, rfl, by decide +kernel, by decide +kernel⟩
theorem ok_endR {f fR C CT : Addr} {fd fdR : FuncData} (B : BltX mg) (T : ClsR K C) (F : Fun K "must_end" "Reader.must_end" sEnd f fd)
    (MR : Mn K C "refuse" "Reader.refuse" sRefuse ["self", "wrong"] fR fdR) (GR : FnOk P w K mg base (CXd P w) 1 fR fdR ["self", "wrong"] (spRefuse C CT)) : FnOk P w K mg base (CXd P w) 2 f fd ["self"] (spEndR C CT) := by
  refine F.okD scEndR (fun vs H Q E h => ?_) (fun cdv A outer s H vs Q E hr h => ?_)
  · obtain ⟨a, t, p, rfl, _⟩ := h
    rfl
  · obtain ⟨a, t, p, rfl, R, hp, hz, q1, q0⟩ := h
    obtain ⟨dx, e⟩ := id R
    refine ⟨_, pss_one (ps_if (pt_cmpR op_lt (pe_fld (pv 0) rfl) (pe_callB call_len_str (by rfl) B.len PySem.boot_len (pa_cons (pe_fld (pv 0) rfl) pa_nil)) (nomark _)) (pss_one (ps_expr (pe_meth (pv 0) T.cl MR.me GR hr MR.bd .nil pass_okD (pa_cons pe_str pa_nil)))) pss_nil), ?_⟩
    refine ⟨_, rfl, a, C, dx, _, _, rfl, e, T.cl, T.pl, rfl, _, rfl, a, C, dx, _, _, rfl, e, T.cl, T.tx, rfl, Sg t, rfl, by rw [Sg.len]; exact sz100 hz, _, _, rfl, rfl, _, rfl, ?_⟩
    rw [Sg.len]
    by_cases c : p < t.length
    · refine itDP (by omega) ?_
      exact ⟨_, rfl, a, dx, _, rfl, e, rfl, a, t, _, p, by rw [lit_any]; rfl, R, by omega, by decide +kernel, q0 c⟩
    · exact itDN (by omega) (q1 (by omega))
def okF (ds : List Nat) : Bool := decide (ds ≠ []) && (decide (ds.length ≤ 60) && (decide (ds.head? ≠ some 48) || decide (ds = [48])))
def valF (ds : List Nat) : Int := ((PySem.NumText.digitsVal ds : Nat) : Int)
def figsOf (l : List Nat) : List Nat := l.takeWhile isFig
theorem figs_fig {l : List Nat} : ∀ c ∈ figsOf l, isFig c = true := fun c h => by
  induction l with
  | nil => cases h
  | cons x l ih =>
    unfold figsOf at h ih
    rw [List.takeWhile_cons] at h
    by_cases f : isFig x = true
    · rw [if_pos f] at h
      rcases List.mem_cons.mp h with rfl | h
      · exact f
      · exact ih h
    · rw [if_neg f] at h
      cases h
theorem figs_split (l : List Nat) : l = figsOf l ++ l.dropWhile isFig := (List.takeWhile_append_dropWhile ..).symm
theorem figs_tl {l : List Nat} (h : ∀ c ∈ l, c < 128) : Tl (l.dropWhile isFig) := fun c hc => by
  induction l with
  | nil => cases hc
  | cons x l ih =>
    rw [List.dropWhile_cons] at hc
    by_cases f : isFig x = true
    · rw [if_pos f] at hc
      exact ih (fun c h' => h c (List.mem_cons_of_mem _ h')) hc
    · rw [if_neg f] at hc
      cases hc
      exact ⟨h _ List.mem_cons_self, by simpa using f⟩
theorem val_text {ds : List Nat} (hf : ∀ c ∈ ds, isFig c = true) (ne : ds ≠ []) (l : ds.length ≤ 60) : PySem.intText? (Sg ds) = some (valF ds) := by
  have e : (Sg ds).cps.toList = ds := by simp [Sg]
  have := PySem.intText_digits (x := Sg ds) (by rw [e]; exact fun c h => fig_lt (hf c h)) (by rw [e]; exact ne) (by rw [Sg.len]; omega)
  rw [e] at this
  exact this
def spFrom0 (C CT : Addr) : Sp := fun vs H Q E => ∃ (a : Addr) (t : List Nat) (p : Nat), vs = [.ref a] ∧ Rdr C H a t p ∧ p ≤ t.length ∧ t.length ≤ 100000 ∧ (∀ c ∈ t, c < 128) ∧
  (okF (figsOf (t.drop p)) = true → ∀ H', But a H H' → Rdr C H' a t (p + (figsOf (t.drop p)).length) → Q (.int (valF (figsOf (t.drop p)))) H') ∧ (okF (figsOf (t.drop p)) = false → E (.ref CT) none H)
theorem scFrom0 : FnScope ["self", "figures"] ["self"] (defScope sFrom0) := ⟨rfl, rfl, rfl, by decide +kernel, rfl, by decide +kernel, by decide +kernel⟩
theorem ok_from0 {f fF fR C CT : Addr} {fd fdF fdR : FuncData} (B : BltX mg) (T : ClsR K C) (G : GlX mg) (F : Fun K "number_from_nought" "Reader.number_from_nought" sFrom0 f fd) (MF : Mn K C "figures" "Reader.figures" sFigs ["self"] fF fdF) (GF : FnOk P w K mg base CX0 1 fF fdF ["self"] (spFigs C))
    (MR : Mn K C "refuse" "Reader.refuse" sRefuse ["self", "wrong"] fR fdR) (GR : FnOk P w K mg base (CXd P w) 1 fR fdR ["self", "wrong"] (spRefuse C CT)) : FnOk P w K mg base (CXd P w) 2 f fd ["self"] (spFrom0 C CT) := by
  obtain ⟨tk, gM⟩ := G.most
  refine F.okD scFrom0 (fun vs H Q E h => ?_) (fun cdv A outer s H vs Q E hr h => ?_)
  · obtain ⟨a, t, p, rfl, _⟩ := h
    rfl
  · obtain ⟨a, t, p, rfl, R, hp, hz, hc, q1, q0⟩ := h
    obtain ⟨dx, e⟩ := id R
    refine ⟨_, pss_cons (ps_set (i := 1) scFrom0.nd rfl (Or.inl rfl) (pe_meth0 (pv 0) T.cl MF.me GF (hr.mono (by decide)) MF.bd .nil pass0))
      (pss_cons (ps_if (PW.pt (pw_or (pt_cmpR op_eq (pv 1) pe_str (nomark _)) (pw_or (pt_cmpR op_gt (pe_callB call_len_str (by rfl) B.len PySem.boot_len (pa_cons (pv 1) pa_nil)) (pe_glob (v := .int 60) rfl gM ⟨_, rfl⟩) (nomark _))
        (pw_or1 (PW.pt (pw_and (pt_cmpR op_eq (pe_ix ix_str (pv 1) pe_int (fun _ _ => rfl)) pe_str (nomark _)) (pw_and1 (pt_cmpR op_ne (pv 1) pe_str (nomark _))))))))) (pss_one (ps_expr (pe_meth (pv 0) T.cl MR.me GR hr MR.bd .nil pass_okD (pa_cons pe_str pa_nil)))) pss_nil)
      (pss_cons (ps_fld (pv 0) (pe_op op_add (pe_fld (pv 0) rfl) (pe_callB call_len_str (by rfl) B.len PySem.boot_len (pa_cons (pv 1) pa_nil))) rfl)
      (pss_one (ps_ret (pe_callTy call_int_text (by rfl) B.int boot_int (pa_cons (pv 1) pa_nil)))))), ?_⟩
    have hsp := figs_split (t.drop p)
    have hfg := figs_fig (l := t.drop p)
    have htl := figs_tl (l := t.drop p) fun c h => hc c (List.mem_of_mem_drop h)
    have hlen : (figsOf (t.drop p)).length ≤ t.length := by
      have := congrArg List.length hsp
      rw [List.length_drop, List.length_append] at this
      omega
    refine ⟨_, rfl, a, dx, _, rfl, e, rfl, a, t, figsOf (t.drop p), _, p, rfl, R, hp, hz, hsp, hfg, htl, ?_⟩
    have val := val_text hfg
    generalize figsOf (t.drop p) = ds at *
    by_cases ne : ds = []
    · have k0 : okF ds = false := by rw [ne]; rfl
      refine ⟨_, rfl, rfl, _, rfl, itDP (by rw [ne]; exact (lit_any "").symm) ?_⟩
      exact ⟨_, rfl, a, dx, _, rfl, e, rfl, a, t, _, p, by rw [lit_any]; rfl, R, by omega, by decide +kernel, q0 k0⟩
    refine ⟨_, rfl, rfl, _, rfl, itDN (fun z => ne (Sg.inj (b := []) (V.str.inj z))) ?_⟩
    refine ⟨_, rfl, Sg ds, rfl, by rw [Sg.len]; exact sz100 (by omega), _, _, rfl, rfl, _, rfl, ?_⟩
    rw [Sg.len]
    by_cases few : ds.length ≤ 60
    · refine itDN (by omega) ?_
      obtain ⟨c, r, hcr⟩ : ∃ c r, ds = c :: r := by
        cases hd : ds with
        | nil => exact absurd hd ne
        | cons c r => exact ⟨c, r, rfl⟩
      refine ⟨_, rfl, Sg ds, 0, c, rfl, rfl, by rw [Sg.len]; exact sz100 (by omega), (by rw [hcr]; exact atI_nat (j := 0) (by simp [Sg])), rfl, _, rfl, ?_⟩
      by_cases hc0 : c = 48
      · refine itDP (by rw [hc0]; rfl) ?_
        by_cases h48 : ds = [48]
        · have k1 : okF ds = true := by rw [h48]; rfl
          refine ⟨_, rfl, rfl, _, rfl, iteNS (by rw [h48]; rfl) ?_⟩
          refine ⟨_, rfl, a, C, dx, _, _, rfl, e, T.cl, T.pl, rfl, _, rfl, Sg ds, rfl, by rw [Sg.len]; exact sz100 (by omega), _, _, rfl, rfl, _, rfl, a, C, dx, _, rfl, e, T.cl, T.pl, (by show 2 < 1000; decide), ?_⟩
          refine ⟨_, rfl, Sg ds, _, rfl, val ne few, by rw [Sg.len]; omega, q1 k1 _ But.upd ⟨dx, ?_⟩⟩
          rw [upd_same, Sg.len]
          rfl
        · have k0 : okF ds = false := by
            unfold okF
            rw [decide_eq_true ne, decide_eq_true few, decide_eq_false h48, hcr, hc0]
            rfl
          refine ⟨_, rfl, rfl, _, rfl, iteNP (fun z => h48 ?_) ?_⟩
          · have e0 : Str.ofString "0" = Sg [48] := by decide +kernel
            rw [e0] at z
            exact Sg.inj (V.str.inj z)
          · exact ⟨_, rfl, a, dx, _, rfl, e, rfl, a, t, _, p, by rw [lit_any]; rfl, R, by omega, by decide +kernel, q0 k0⟩
      · have k1 : okF ds = true := by
          unfold okF
          rw [decide_eq_true ne, decide_eq_true few, hcr, decide_eq_true (show (c :: r).head? ≠ some 48 by intro z; exact hc0 (Option.some.inj z))]
          rfl
        refine itDN (fun z => hc0 ?_) (iteF ?_)
        · have := V.str.inj z
          have e1 := congrArg (fun x : Str => x.cps.toList) this
          have e0 : (Str.ofString "0").cps.toList = [48] := by decide +kernel
          have e2 : [c] = [48] := Eq.trans e1 e0
          exact List.head_eq_of_cons_eq e2
        refine ⟨_, rfl, a, C, dx, _, _, rfl, e, T.cl, T.pl, rfl, _, rfl, Sg ds, rfl, by rw [Sg.len]; exact sz100 (by omega), _, _, rfl, rfl, _, rfl, a, C, dx, _, rfl, e, T.cl, T.pl, (by show 2 < 1000; decide), ?_⟩
        refine ⟨_, rfl, Sg ds, _, rfl, val ne few, by rw [Sg.len]; omega, q1 k1 _ But.upd ⟨dx, ?_⟩⟩
        rw [upd_same, Sg.len]
        rfl
    · have k0 : okF ds = false := by
        unfold okF
        rw [decide_eq_false few, Bool.false_and, Bool.and_false]
      refine itDP (by omega) ?_
      exact ⟨_, rfl, a, dx, _, rfl, e, rfl, a, t, _, p, by rw [lit_any]; rfl, R, by omega, by decide +kernel, q0 k0⟩
end
section
variable {P : Program} {w : World} {K : PySem.W.Frag} {mg : Str → Option Value} {base : Heap}
def numP : List Nat → Option (Int × Nat)
  | 45 :: l => if okF (figsOf l) = true then if valF (figsOf l) = 0 then none else some (-valF (figsOf l), 1 + (figsOf l).length) else none
  | l => if okF (figsOf l) = true then some (valF (figsOf l), (figsOf l).length) else none
theorem numP_minus (l : List Nat) : numP (45 :: l) = if okF (figsOf l) = true then if valF (figsOf l) = 0 then none else some (-valF (figsOf l), 1 + (figsOf l).length) else none := rfl
theorem numP_plain {l : List Nat} (h : ([45] : List Nat).isPrefixOf l = false) : numP l = if okF (figsOf l) = true then some (valF (figsOf l), (figsOf l).length) else none := by
  unfold numP
  split
  · simp [List.isPrefixOf] at h
  · rfl
theorem pre_one {c : Nat} {l : List Nat} (h : ([c] : List Nat).isPrefixOf l = true) : ∃ r, l = c :: r := by
  obtain ⟨r, hr⟩ := List.isPrefixOf_iff_prefix.mp h
  exact ⟨r, hr.symm⟩
theorem figs_le (l : List Nat) : (figsOf l).length ≤ l.length := List.Sublist.length_le (List.takeWhile_sublist _)
theorem numP_le {l : List Nat} {z : Int} {k : Nat} (h : numP l = some (z, k)) : k ≤ l.length ∧ 0 < k := by
  have ne : ∀ ds, okF ds = true → 0 < ds.length := fun ds h => by
    unfold okF at h
    rw [Bool.and_eq_true, decide_eq_true_iff] at h
    exact List.length_pos_iff.mpr h.1
  unfold numP at h
  split at h
  · rename_i l
    have := figs_le l
    split at h
    · split at h
      · cases h
      · cases h
        rw [List.length_cons]
        omega
    · cases h
  · have := figs_le l
    split at h
    · rename_i hk
      cases h
      exact ⟨this, ne _ hk⟩
    · cases h
theorem drop_cons {t l : List Nat} {p c : Nat} (h : t.drop p = c :: l) : t.drop (p + 1) = l ∧ p < t.length := by
  refine ⟨?_, ?_⟩
  · rw [← List.drop_drop, h]
    rfl
  · rcases Nat.lt_or_ge p t.length with z | z
    · exact z
    · rw [List.drop_of_length_le z] at h
      cases h
def spNumb (C CT : Addr) : Sp := fun vs H Q E => ∃ (a : Addr) (t : List Nat) (p : Nat), vs = [.ref a] ∧ Rdr C H a t p ∧ p ≤ t.length ∧ t.length ≤ 90000 ∧ (∀ c ∈ t, c < 128) ∧
  (∀ z k, numP (t.drop p) = some (z, k) → ∀ H', But a H H' → Rdr C H' a t (p + k) → Q (.int z) H') ∧ (numP (t.drop p) = none → ∀ H', But a H H' → E (.ref CT) none H')
theorem scNumb : FnScope ["self", "number"] ["self"] (defScope sNumb) := ⟨rfl, rfl, rfl, by decide +kernel, rfl, by decide +kernel, by decide +kernel⟩
theorem ok_numb {f fT f0 fR C CT : Addr} {fd fdT fd0 fdR : FuncData} (T : ClsR K C) (F : Fun K "number" "Reader.number" sNumb f fd) (MT : Mn K C "takes" "Reader.takes" sTakes ["self", "word"] fT fdT) (GT : FnOk P w K mg base CX0 1 fT fdT ["self", "word"] (spTakes C))
    (M0 : Mn K C "number_from_nought" "Reader.number_from_nought" sFrom0 ["self"] f0 fd0) (G0 : FnOk P w K mg base (CXd P w) 2 f0 fd0 ["self"] (spFrom0 C CT))
    (MR : Mn K C "refuse" "Reader.refuse" sRefuse ["self", "wrong"] fR fdR) (GR : FnOk P w K mg base (CXd P w) 1 fR fdR ["self", "wrong"] (spRefuse C CT)) : FnOk P w K mg base (CXd P w) 3 f fd ["self"] (spNumb C CT) := by
  refine F.okD scNumb (fun vs H Q E h => ?_) (fun cdv A outer s H vs Q E hr h => ?_)
  · obtain ⟨a, t, p, rfl, _⟩ := h
    rfl
  · obtain ⟨a, t, p, rfl, R, hp, hz, hc, q1, q0⟩ := h
    obtain ⟨dx, e⟩ := id R
    refine ⟨_, pss_cons (ps_if (pt_not (pt_val (pe_meth (pv 0) T.cl MT.me GT (hr.mono (by decide)) MT.bd .nil pass0 (pa_cons pe_str pa_nil)))) (pss_one (ps_ret (pe_meth0 (pv 0) T.cl M0.me G0 hr M0.bd .nil pass_okD))) pss_nil)
      (pss_cons (ps_set (i := 1) scNumb.nd rfl (Or.inl rfl) (pe_meth0 (pv 0) T.cl M0.me G0 hr M0.bd .nil pass_okD))
      (pss_cons (ps_if (pt_cmpR op_eq (pv 1) pe_int (nomark _)) (pss_one (ps_expr (pe_meth (pv 0) T.cl MR.me GR (hr.mono (by decide)) MR.bd .nil pass_okD (pa_cons pe_str pa_nil)))) pss_nil)
      (pss_one (ps_ret (pe_un un_neg (pv 1)))))), ?_⟩
    refine ⟨_, rfl, a, dx, _, rfl, e, rfl, a, t, [45], p, by rw [lit_minus]; rfl, R, hp, by omega, fun hpre => ⟨_, rfl, iteT ?_⟩, fun hpre H1 b1 R1 => ⟨_, rfl, iteF ?_⟩⟩
    · have ep := numP_plain hpre
      refine ⟨_, rfl, a, dx, _, rfl, e, rfl, a, t, p, rfl, R, hp, by omega, hc, fun k1 H2 b2 R2 => ?_, fun k0 => ?_⟩
      · rw [if_pos k1] at ep
        exact q1 _ _ ep H2 b2 R2
      · rw [if_neg (by rw [k0]; decide)] at ep
        exact q0 ep H (But.refl a H)
    · obtain ⟨l, hl⟩ := pre_one hpre
      obtain ⟨d1, hlt⟩ := drop_cons hl
      obtain ⟨dx1, e1⟩ := id R1
      have ep := numP_minus l
      rw [← hl] at ep
      have hd1 : t.drop (p + [45].length) = l := d1
      refine ⟨_, rfl, a, dx1, _, rfl, e1, rfl, a, t, p + [45].length, rfl, R1, hlt, by omega, hc, fun k1 H2 b2 R2 => ?_, fun k0 => ?_⟩
      · rw [hd1] at k1 R2
        rw [if_pos k1] at ep
        rw [hd1]
        obtain ⟨dx2, e2⟩ := id R2
        refine ⟨_, rfl, rfl, _, rfl, ?_⟩
        by_cases z0 : valF (figsOf l) = 0
        · rw [if_pos z0] at ep
          refine itDP (by rw [z0]) ?_
          have hl2 := figs_le l
          have ll : l.length = t.length - (p + 1) := by rw [← d1, List.length_drop]
          exact ⟨_, rfl, a, dx2, _, rfl, e2, rfl, a, t, _, _, by rw [lit_any]; rfl, R2, by show p + 1 + _ ≤ 100000; omega, by decide +kernel, q0 ep H2 (b1.trans b2)⟩
        · rw [if_neg z0] at ep
          refine itDN (fun y => z0 (V.int.inj y)) ?_
          refine ⟨_, rfl, _, rfl, ?_⟩
          refine q1 _ _ ep H2 (b1.trans b2) ?_
          rw [← Nat.add_assoc]
          exact R2
      · rw [hd1] at k0
        rw [if_neg (by rw [k0]; decide)] at ep
        exact q0 ep H1 b1
end
section
variable {P : Program} {w : World} {K : PySem.W.Frag} {mg : Str → Option Value} {base : Heap}
inductive NumsOk : List Nat → List Int → List Nat → Prop
  | nil {l : List Nat} (h : ([32] : List Nat).isPrefixOf l = false) : NumsOk l [] l
  | cons {l : List Nat} {z : Int} {k : Nat} {zs : List Int} {r : List Nat} (h : numP l = some (z, k)) (n : NumsOk (l.drop k) zs r) : NumsOk (32 :: l) (z :: zs) r
inductive NumsBad : List Nat → Prop
  | here {l : List Nat} (h : numP l = none) : NumsBad (32 :: l)
  | there {l : List Nat} {z : Int} {k : Nat} (h : numP l = some (z, k)) (n : NumsBad (l.drop k)) : NumsBad (32 :: l)
theorem Rdr.ne {C : Addr} {H : Hp} {a b : Addr} {t : List Nat} {p : Nat} (R : Rdr C H a t p) (h : H b = none) : b ≠ a := fun e => by
  obtain ⟨dx, e'⟩ := R
  rw [e, e'] at h
  cases h
def spReadN (C CT : Addr) : Sp := fun vs H Q E => ∃ (a : Addr) (t : List Nat) (p : Nat), vs = [.ref a] ∧ Rdr C H a t p ∧ p ≤ t.length ∧ t.length ≤ 90000 ∧ (∀ c ∈ t, c < 128) ∧
  (∀ zs r, NumsOk (t.drop p) zs r → ∀ (nA : Addr) (p' : Nat) (H' : Hp), But a H H' → p' ≤ t.length → t.drop p' = r → Rdr C H' a t p' → H nA = none → nA ≠ a → zs.length ≤ t.length → H' nA = some (.lst (zs.map V.int)) → Q (.ref nA) H') ∧
  (NumsBad (t.drop p) → ∀ H', But a H H' → E (.ref CT) none H')
theorem scReadN : FnScope ["reader", "numbers"] ["reader"] (defScope sReadN) := ⟨rfl, rfl, rfl, by decide +kernel, rfl, by decide +kernel, by decide +kernel⟩
theorem ok_readN {f fT fN C CT : Addr} {fd fdT fdN : FuncData} (T : ClsR K C) (F : Fun K "read_numbers" "read_numbers" sReadN f fd) (MT : Mn K C "takes" "Reader.takes" sTakes ["self", "word"] fT fdT) (GT : FnOk P w K mg base CX0 1 fT fdT ["self", "word"] (spTakes C))
    (MN : Mn K C "number" "Reader.number" sNumb ["self"] fN fdN) (GN : FnOk P w K mg base (CXd P w) 3 fN fdN ["self"] (spNumb C CT)) : FnOk P w K mg base (CXd P w) 4 f fd ["reader"] (spReadN C CT) := by
  refine F.okD scReadN (fun vs H Q E h => ?_) (fun cdv A outer s H vs Q E hr h => ?_)
  · obtain ⟨a, t, p, rfl, _⟩ := h
    rfl
  · obtain ⟨a, t, p, rfl, R, hp, hz, hc, q1, q0⟩ := h
    refine ⟨_, pss_cons (ps_set (i := 1) scReadN.nd rfl (Or.inl rfl) (pe_lst pa_nil))
      (pss_cons (ps_while PassesOwn.leaving (pt_val (pe_meth (pv 0) T.cl MT.me GT (hr.mono (by decide)) MT.bd .nil pass0 (pa_cons pe_str pa_nil)))
        (pss_one (ps_expr (pe_bm PySem.F.plainAttrs_list PySem.F.slot_list_append PySem.F.type_list_append mt_append (pv 1) (pa_cons (pe_meth0 (pv 0) T.cl MN.me GN hr MN.bd .nil pass_okD) pa_nil)))))
      (pss_one (ps_ret (pv 1)))), ?_⟩
    refine ⟨Nat.zero_le _, fun nA hnA => ?_⟩
    have nAa := R.ne hnA
    have b0 : But a H (L2.upd H nA (.lst [])) := But.new hnA
    refine ⟨fun m σ H' => ∃ (ys : List Int) (p' : Nat), m = t.length - p' ∧ p' ≤ t.length ∧ ys.length ≤ p' ∧ σ = [some (.ref a), some (.ref nA)] ∧ But a H H' ∧ Rdr C H' a t p' ∧ H' nA = some (.lst (ys.map V.int)) ∧ (∀ zs r, NumsOk (t.drop p') zs r → NumsOk (t.drop p) (ys ++ zs) r) ∧ (NumsBad (t.drop p') → NumsBad (t.drop p)), ⟨_, [], p, rfl, hp, Nat.zero_le _, rfl, b0, ?_, upd_same, fun _ _ z => z, fun z => z⟩, ?_⟩
    · obtain ⟨dx, e⟩ := R
      exact ⟨dx, by rw [upd_ne nAa.symm]; exact e⟩
    rintro m σ H1 ⟨ys, p', rfl, hp', ly, rfl, b1, R1, e1, i1, i0⟩
    obtain ⟨dx, e⟩ := id R1
    refine ⟨_, rfl, a, dx, _, rfl, e, rfl, a, t, [32], p', by rw [lit_blank]; rfl, R1, hp', by omega, fun hpre => ⟨_, rfl, iteF ?_⟩, fun hpre H2 b2 R2 => ⟨_, rfl, iteT ⟨_, fun _ _ y => y, ?_⟩⟩⟩
    · have n1 := i1 [] _ (.nil hpre)
      rw [List.append_nil] at n1
      exact ⟨_, rfl, q1 ys _ n1 nA p' H1 b1 hp' rfl R1 hnA nAa (by omega) e1⟩
    · obtain ⟨l, hl⟩ := pre_one hpre
      obtain ⟨d1, hlt⟩ := drop_cons hl
      have e2 := b2 nA _ nAa e1
      obtain ⟨dx2, ea2⟩ := id R2
      refine ⟨_, rfl, .inl ⟨rfl, _, SqL.of e2⟩, _, rfl, a, dx2, _, rfl, ea2, rfl, a, t, p' + [32].length, rfl, R2, hlt, hz, hc, fun z k hk H3 b3 R3 => ?_, fun hk H3 b3 => ?_⟩
      · have hk' : numP l = some (z, k) := by rw [← d1]; exact hk
        have kl := numP_le hk'
        have ll : l.length = t.length - (p' + 1) := by rw [← d1, List.length_drop]
        have e3 := b3 nA _ nAa e2
        have d3 : t.drop (p' + [32].length + k) = l.drop k := by rw [← List.drop_drop]; show (t.drop (p' + 1)).drop k = _; rw [d1]
        refine ⟨nA, _, _, rfl, rfl, e3, Nat.lt_of_le_of_lt (show (ys.map V.int).length ≤ 90000 by rw [List.length_map]; omega) (by decide), ?_⟩
        refine ⟨t.length - (p' + [32].length + k), by show t.length - (p' + 1 + k) < _; omega, ys ++ [z], p' + [32].length + k, rfl, by show p' + 1 + k ≤ _; omega, by rw [List.length_append]; show ys.length + 1 ≤ p' + 1 + k; omega, rfl, ((b1.trans b2).trans b3).updN hnA, ?_, by rw [List.map_append]; exact upd_same, fun zs r n => ?_, fun n => i0 ?_⟩
        · obtain ⟨dx3, e3'⟩ := R3
          exact ⟨dx3, by rw [upd_ne nAa.symm]; exact e3'⟩
        · rw [List.append_assoc]
          refine i1 (z :: zs) r ?_
          rw [hl]
          rw [d3] at n
          exact .cons hk' n
        · rw [hl]
          rw [d3] at n
          exact .there hk' n
      · have hk' : numP l = none := by rw [← d1]; exact hk
        exact q0 (i0 (by rw [hl]; exact .here hk')) H3 ((b1.trans b2).trans b3)
end
section
variable {P : Program} {w : World} {K : PySem.W.Frag} {mg : Str → Option Value} {base : Heap}
theorem NumsOk.len {l r : List Nat} {zs : List Int} (n : NumsOk l zs r) : r.length ≤ l.length := by
  induction n with
  | nil _ => exact Nat.le_refl _
  | cons h n ih => rw [List.length_drop] at ih; rw [List.length_cons]; omega
inductive RowsOk : List Nat → List (List Int) → List Nat → Prop
  | nil {l : List Nat} (h : ([59, 32] : List Nat).isPrefixOf l = false) : RowsOk l [] l
  | cons {l r e : List Nat} {zs : List Int} {M : List (List Int)} (h : NumsOk l zs r) (n : RowsOk r M e) : RowsOk ([59, 32] ++ ([114, 111, 119] ++ l)) (zs :: M) e
inductive RowsBad : List Nat → Prop
  | word {l : List Nat} (h : ([114, 111, 119] : List Nat).isPrefixOf l = false) : RowsBad ([59, 32] ++ l)
  | nums {l : List Nat} (h : NumsBad l) : RowsBad ([59, 32] ++ ([114, 111, 119] ++ l))
  | there {l r : List Nat} {zs : List Int} (h : NumsOk l zs r) (n : RowsBad r) : RowsBad ([59, 32] ++ ([114, 111, 119] ++ l))
theorem pre_any {y l : List Nat} (h : y.isPrefixOf l = true) : ∃ r, l = y ++ r := by
  obtain ⟨r, hr⟩ := List.isPrefixOf_iff_prefix.mp h
  exact ⟨r, hr.symm⟩
theorem drop_pre {t y l : List Nat} {p : Nat} (h : t.drop p = y ++ l) (hp : p ≤ t.length) : t.drop (p + y.length) = l ∧ p + y.length ≤ t.length := by
  refine ⟨by rw [← List.drop_drop, h, List.drop_left], ?_⟩
  have := congrArg List.length h
  rw [List.length_drop, List.length_append] at this
  omega
def spReadR (C CT : Addr) : Sp := fun vs H Q E => ∃ (a : Addr) (t : List Nat) (p : Nat), vs = [.ref a] ∧ Rdr C H a t p ∧ p ≤ t.length ∧ t.length ≤ 90000 ∧ (∀ c ∈ t, c < 128) ∧
  (∀ M r, RowsOk (t.drop p) M r → ∀ (D : Addr) (rs : List Addr) (p' : Nat) (H' : Hp), But a H H' → p' ≤ t.length → t.drop p' = r → Rdr C H' a t p' → H D = none → D ≠ a → H' D = some (.lst (rs.map V.ref)) → RowsAt H' rs M → (∀ x ∈ rs, H x = none ∧ x ≠ a) → Q (.ref D) H') ∧
  (RowsBad (t.drop p) → ∀ H', But a H H' → E (.ref CT) none H')
theorem scReadR : FnScope ["reader", "rows"] ["reader"] (defScope sReadR) := ⟨rfl, rfl, rfl, by decide +kernel, rfl, by decide +kernel, by decide +kernel⟩
theorem ok_readR {f fT fM fN C CT : Addr} {fd fdT fdM fdN : FuncData} (T : ClsR K C) (F : Fun K "read_rows" "read_rows" sReadR f fd) (MT : Mn K C "takes" "Reader.takes" sTakes ["self", "word"] fT fdT) (GT : FnOk P w K mg base CX0 1 fT fdT ["self", "word"] (spTakes C))
    (MM : Mn K C "must_take" "Reader.must_take" sMust ["self", "word"] fM fdM) (GM : FnOk P w K mg base (CXd P w) 2 fM fdM ["self", "word"] (spMust C CT)) (DN : Dn K mg "read_numbers" sReadN ["reader"] fN fdN) (GN : FnOk P w K mg base (CXd P w) 4 fN fdN ["reader"] (spReadN C CT)) : FnOk P w K mg base (CXd P w) 5 f fd ["reader"] (spReadR C CT) := by
  refine F.okD scReadR (fun vs H Q E h => ?_) (fun cdv A outer s H vs Q E hr h => ?_)
  · obtain ⟨a, t, p, rfl, _⟩ := h
    rfl
  · obtain ⟨a, t, p, rfl, R, hp, hz, hc, q1, q0⟩ := h
    refine ⟨_, pss_cons (ps_set (i := 1) scReadR.nd rfl (Or.inl rfl) (pe_lst pa_nil))
      (pss_cons (ps_while PassesOwn.leaving (pt_val (pe_meth (pv 0) T.cl MT.me GT (hr.mono (by decide)) MT.bd .nil pass0 (pa_cons pe_str pa_nil)))
        (pss_cons (ps_expr (pe_meth (pv 0) T.cl MM.me GM (hr.mono (by decide)) MM.bd .nil pass_okD (pa_cons pe_str pa_nil)))
        (pss_one (ps_expr (pe_bm PySem.F.plainAttrs_list PySem.F.slot_list_append PySem.F.type_list_append mt_append (pv 1) (pa_cons (pe_fnX DN GN pass_okD hr rfl (pa_cons (pv 0) pa_nil)) pa_nil))))))
      (pss_one (ps_ret (pv 1)))), ?_⟩
    refine ⟨Nat.zero_le _, fun D hD => ?_⟩
    have nDa := R.ne hD
    have b0 : But a H (L2.upd H D (.lst [])) := But.new hD
    refine ⟨fun m σ H' => ∃ (Y : List (List Int)) (rs : List Addr) (p' : Nat), m = t.length - p' ∧ p' ≤ t.length ∧ Y.length ≤ p' ∧ σ = [some (.ref a), some (.ref D)] ∧ But a H H' ∧ Rdr C H' a t p' ∧ H' D = some (.lst (rs.map V.ref)) ∧ RowsAt H' rs Y ∧ (∀ x ∈ rs, H x = none ∧ x ≠ a ∧ x ≠ D) ∧ (∀ M r, RowsOk (t.drop p') M r → RowsOk (t.drop p) (Y ++ M) r) ∧ (RowsBad (t.drop p') → RowsBad (t.drop p)), ⟨_, [], [], p, rfl, hp, Nat.zero_le _, rfl, b0, ?_, upd_same, ⟨rfl, (fun i r x h _ => by cases h), List.nodup_nil⟩, (fun x h => by cases h), fun _ _ z => z, fun z => z⟩, ?_⟩
    · obtain ⟨dx, e⟩ := R
      exact ⟨dx, by rw [upd_ne nDa.symm]; exact e⟩
    rintro m σ H1 ⟨Y, rs, p', rfl, hp', lY, rfl, b1, R1, e1, A1, f1, i1, i0⟩
    obtain ⟨dx, e⟩ := id R1
    refine ⟨_, rfl, a, dx, _, rfl, e, rfl, a, t, [59, 32], p', by rw [lit_semi]; rfl, R1, hp', by omega, fun hpre => ⟨_, rfl, iteF ?_⟩, fun hpre H2 b2 R2 => ⟨_, rfl, iteT ⟨_, fun _ _ y => y, ?_⟩⟩⟩
    · have n1 := i1 [] _ (.nil hpre)
      rw [List.append_nil] at n1
      exact ⟨_, rfl, q1 Y _ n1 D rs p' H1 b1 hp' rfl R1 hD nDa e1 A1 fun x hx => ⟨(f1 x hx).1, (f1 x hx).2.1⟩⟩
    · obtain ⟨l, hl⟩ := pre_any hpre
      obtain ⟨d2, h2⟩ := drop_pre hl hp'
      obtain ⟨dx2, ea2⟩ := id R2
      have e2 := b2 D _ nDa e1
      refine ⟨_, rfl, a, dx2, _, rfl, ea2, rfl, a, t, [114, 111, 119], p' + [59, 32].length, by rw [lit_row]; rfl, R2, h2, by omega, by decide, by decide, fun hpre2 H3 b3 R3 => ?_, fun hpre2 => ?_⟩
      · rw [d2] at hpre2
        obtain ⟨l2, hl2⟩ := pre_any hpre2
        rw [hl2] at d2
        obtain ⟨d3, h3⟩ := drop_pre d2 h2
        have e3 := b3 D _ nDa e2
        refine ⟨_, rfl, .inl ⟨rfl, _, SqL.of e3⟩, _, rfl, a, t, p' + [59, 32].length + [114, 111, 119].length, rfl, R3, h3, hz, hc, fun zs r n nA p4 H4 b4 hp4 d4 R4 n4 n4a l4 e4 => ?_, fun n H4 b4 => ?_⟩
        · rw [d3] at n
          have b34 := b3.trans b4
          have b14 := b1.trans (b2.trans b34)
          have e4D := b4 D _ nDa e3
          have nl := n.len
          have ll2 : l2.length = t.length - (p' + [59, 32].length + [114, 111, 119].length) := by rw [← d3, List.length_drop]
          have lr : r.length = t.length - p4 := by rw [← d4, List.length_drop]
          have h3' : p' + 2 + 3 ≤ t.length := h3
          have ll2' : l2.length = t.length - (p' + 2 + 3) := ll2
          have nAD : nA ≠ D := fun z => by rw [z, e3] at n4; cases n4
          have nH : H nA = none := by
            cases hq : H nA with
            | none => rfl
            | some o => rw [(b1.trans (b2.trans b3)) nA o n4a hq] at n4; cases n4
          have b24 := b2.trans b34
          have A4 : RowsAt H4 rs Y := A1.keep fun r hr o z => b24 r o (f1 r hr).2.1 z
          have nAr : nA ∉ rs := fun z => by
            obtain ⟨o, ho⟩ := rows_some A1 z
            rw [(b2.trans b3) nA o n4a ho] at n4
            cases n4
          refine ⟨D, _, _, rfl, rfl, e4D, Nat.lt_of_le_of_lt (show (rs.map V.ref).length ≤ 90000 by rw [List.length_map, A1.len]; omega) (by decide), ?_⟩
          refine ⟨t.length - p4, by omega, Y ++ [zs], rs ++ [nA], p4, rfl, hp4, by rw [List.length_append]; show Y.length + 1 ≤ p4; omega, rfl, b14.updN hD, ?_, by rw [List.map_append]; exact upd_same, ?_, fun x hx => ?_, fun M r' n' => ?_, fun n' => i0 ?_⟩
          · obtain ⟨dx4, e4'⟩ := R4
            exact ⟨dx4, by rw [upd_ne nDa.symm]; exact e4'⟩
          · refine A4.snoc (fun r hr o z => by rw [upd_ne (f1 r hr).2.2]; exact z) (by rw [upd_ne nAD]; exact e4) nAr
          · rcases List.mem_append.mp hx with z | z
            · exact f1 x z
            · rw [List.mem_singleton.mp z]
              exact ⟨nH, n4a, nAD⟩
          · rw [List.append_assoc]
            refine i1 (zs :: M) r' ?_
            rw [hl, hl2]
            rw [d4] at n'
            exact .cons n n'
          · rw [hl, hl2]
            rw [d4] at n'
            exact .there n n'
        · rw [d3] at n
          exact q0 (i0 (by rw [hl, hl2]; exact .nums n)) H4 (b1.trans (b2.trans (b3.trans b4)))
      · rw [d2] at hpre2
        exact q0 (i0 (by rw [hl]; exact .word hpre2)) H2 (b1.trans b2)
end
section
variable {P : Program} {w : World} {K : PySem.W.Frag} {mg : Str → Option Value} {base : Heap}
theorem NumsOk.det {l r : List Nat} {zs : List Int} (n : NumsOk l zs r) : ∀ {zs' : List Int} {r' : List Nat}, NumsOk l zs' r' → zs = zs' ∧ r = r' := by
  induction n with
  | nil h =>
    intro zs' r' n'
    cases n' with
    | nil _ => exact ⟨rfl, rfl⟩
    | cons _ _ => simp [List.isPrefixOf] at h
  | cons h n ih =>
    intro zs' r' n'
    cases n' with
    | nil h' => simp [List.isPrefixOf] at h'
    | cons h' n' =>
      rw [h] at h'
      cases h'
      obtain ⟨e1, e2⟩ := ih n'
      exact ⟨by rw [e1], e2⟩
theorem NumsOk.bad {l r : List Nat} {zs : List Int} (n : NumsOk l zs r) : NumsBad l → False := by
  induction n with
  | nil h =>
    intro b
    cases b with
    | here _ => simp [List.isPrefixOf] at h
    | there _ _ => simp [List.isPrefixOf] at h
  | cons h n ih =>
    intro b
    cases b with
    | here h' => rw [h] at h'; cases h'
    | there h' b => rw [h] at h'; cases h'; exact ih b
theorem RowsOk.det {l e : List Nat} {M : List (List Int)} (n : RowsOk l M e) : ∀ {M' : List (List Int)} {e' : List Nat}, RowsOk l M' e' → M = M' ∧ e = e' := by
  induction n with
  | nil h =>
    intro M' e' n'
    cases n' with
    | nil _ => exact ⟨rfl, rfl⟩
    | cons _ _ => simp [List.isPrefixOf] at h
  | cons h n ih =>
    intro M' e' n'
    generalize hl : ([59, 32] ++ ([114, 111, 119] ++ _) : List Nat) = l' at n'
    cases n' with
    | nil h' => subst hl; simp [List.isPrefixOf] at h'
    | cons h' n' =>
      have := List.append_cancel_left (List.append_cancel_left hl)
      subst this
      obtain ⟨e1, e2⟩ := h.det h'
      subst e1 e2
      obtain ⟨e3, e4⟩ := ih n'
      exact ⟨by rw [e3], e4⟩
theorem RowsOk.bad {l e : List Nat} {M : List (List Int)} (n : RowsOk l M e) : RowsBad l → False := by
  induction n with
  | nil h =>
    intro b
    cases b with
    | word _ => simp [List.isPrefixOf] at h
    | nums _ => simp [List.isPrefixOf] at h
    | there _ _ => simp [List.isPrefixOf] at h
  | cons h n ih =>
    intro b
    generalize hl : ([59, 32] ++ ([114, 111, 119] ++ _) : List Nat) = l' at b
    cases b with
    | word h' =>
      have := List.append_cancel_left hl
      subst this
      simp [List.isPrefixOf] at h'
    | nums h' =>
      have := List.append_cancel_left (List.append_cancel_left hl)
      subst this
      exact h.bad h'
    | there h' b =>
      have := List.append_cancel_left (List.append_cancel_left hl)
      subst this
      obtain ⟨e1, e2⟩ := h.det h'
      subst e1 e2
      exact ih b
def WebOk (t : List Nat) (hs : List Int) (M : List (List Int)) : Prop := ∃ l r, t = [104, 117, 101, 115] ++ l ∧ NumsOk l hs r ∧ RowsOk r M []
def spReadW (CT : Addr) : Sp := fun vs H Q E => ∃ t : List Nat, vs = [.str (Sg t)] ∧ t.length ≤ 90000 ∧ (∀ c ∈ t, c < 128) ∧
  (∀ hs M, WebOk t hs M → hs.length ≤ 8 → due hs M = none → ∀ p H', Same H H' → WR H' p hs M → Q (.ref p) H') ∧ ((∀ hs M, WebOk t hs M → hs.length ≤ 8 → due hs M = none → False) → ∀ H', Same H H' → E (.ref CT) none H')
abbrev nReadW : List Str := ["text", "reader", "hues", "web", "refusal"]
theorem scReadW : FnScope nReadW ["text"] (defScope sReadW) := ⟨rfl, rfl, rfl, by decide +kernel, rfl, by decide +kernel, by decide +kernel⟩
theorem ok_readW {f fI fM fE fN fR fL fJ C CT CW CK : Addr} {fd fdI fdM fdE fdN fdR fdL : FuncData} (B : BltX mg) (T : ClsR K C) (G : GlX mg) (N : NoT K mg CT) (kp : PySem.W.keepIn K (.ref CT) = true) (Z : ExcI K CW CK fJ) (hW : mg "NoWeb" = some (.ref CW)) (F : Fun K "read_web" "read_web" sReadW f fd) (hC : mg "Reader" = some (.ref C)) (MK : Mk K C fI) (bI : Binds K fdI ["self", "text"] []) (GI : FnOk P w K mg base CX0 1 fI fdI ["self", "text"] (spInitR C))
    (MM : Mn K C "must_take" "Reader.must_take" sMust ["self", "word"] fM fdM) (GM : FnOk P w K mg base (CXd P w) 2 fM fdM ["self", "word"] (spMust C CT)) (ME : Mn K C "must_end" "Reader.must_end" sEnd ["self"] fE fdE) (GE : FnOk P w K mg base (CXd P w) 2 fE fdE ["self"] (spEndR C CT))
    (DN : Dn K mg "read_numbers" sReadN ["reader"] fN fdN) (GN : FnOk P w K mg base (CXd P w) 4 fN fdN ["reader"] (spReadN C CT)) (DR : Dn K mg "read_rows" sReadR ["reader"] fR fdR) (GR : FnOk P w K mg base (CXd P w) 5 fR fdR ["reader"] (spReadR C CT))
    (DL : Dn K mg "look_at_web" sLook ["web"] fL fdL) (GL : FnOk P w K mg base (CXd P w) 4 fL fdL ["web"] (spLook CW)) : FnOk P w K mg base (CXd P w) 6 f fd ["text"] (spReadW CT) := by
  obtain ⟨tk, gP⟩ := G.places
  obtain ⟨bmT, ZT⟩ := N.ex
  refine F.okD scReadW (fun vs H Q E h => ?_) (fun cdv A outer s H vs Q E hr h => ?_)
  · obtain ⟨t, rfl, _⟩ := h
    rfl
  · obtain ⟨t, rfl, hz, hc, q1, q0⟩ := h
    refine ⟨_, pss_cons (ps_set (i := 1) scReadW.nd rfl (Or.inl rfl) (pe_make MK GI (hr.mono (by decide)) rfl hC bI .nil pass0 (pa_cons (pv 0) pa_nil)))
      (pss_cons (ps_expr (pe_meth (pv 1) T.cl MM.me GM (hr.mono (by decide)) MM.bd .nil pass_okD (pa_cons pe_str pa_nil)))
      (pss_cons (ps_set (i := 2) scReadW.nd rfl (Or.inl rfl) (pe_fnX DN GN pass_okD (hr.mono (by decide)) rfl (pa_cons (pv 1) pa_nil)))
      (pss_cons (ps_set (i := 3) scReadW.nd rfl (Or.inl rfl) (pe_tup (pa_cons (pv 2) (pa_cons (pe_fnX DR GR pass_okD hr rfl (pa_cons (pv 1) pa_nil)) pa_nil))))
      (pss_cons (ps_expr (pe_meth0 (pv 1) T.cl ME.me GE (hr.mono (by decide)) ME.bd .nil pass_okD))
      (pss_cons (ps_if (pt_cmpR op_gt (pe_callB call_len_seq (by rfl) B.len PySem.boot_len (pa_cons (pv 2) pa_nil)) (pe_glob (v := .int 8) rfl gP ⟨_, rfl⟩) (nomark _)) (pss_one (ps_raise0 rfl ZT rfl N.gl (pa_cons pe_str pa_nil) raise_okD)) pss_nil)
      (pss_cons (ps_tryFrom (i := 4) rfl rfl rfl leave_okT DL GL (hr.mono (by decide)) rfl (pa_cons (pv 3) pa_nil) Z.w ZT ZT.w kp rfl hW (fun _ => rfl) N.gl (fun _ => pa_cons pe_str pa_nil) (fun σ H Q h => h _ (by show 1 ≤ sizeLine; decide)) scReadW.nd rfl rfl)
      (pss_one (ps_ret (pv 3))))))))), ?_⟩
    refine ⟨_, rfl, fun a dx ha hdx hne => ⟨a, dx, t, rfl, upd_same, fun H1 b1 R1 => ⟨rfl, ?_⟩⟩⟩
    have s1 : Same H H1 := fun c o z => b1 c o (ne_of_none z ha) (by rw [upd_ne (ne_of_none z ha), upd_ne (ne_of_none z hdx)]; exact z)
    have sb : ∀ {H'}, But a H1 H' → Same H H' := fun b c o z => b c o (ne_of_none z ha) (s1 c o z)
    obtain ⟨dx1, e1⟩ := id R1
    refine ⟨_, rfl, a, dx1, _, rfl, e1, rfl, a, t, [104, 117, 101, 115], 0, by rw [lit_hues]; rfl, R1, Nat.zero_le _, by omega, by decide, by decide, fun hpre H2 b2 R2 => ?_, fun hpre => q0 (fun hs M ⟨l, r, et, _⟩ _ _ => ?_) H1 s1⟩
    rotate_left
    · rw [List.drop_zero, et, pre_app] at hpre
      cases hpre
    rw [List.drop_zero] at hpre
    obtain ⟨l, hl⟩ := pre_any hpre
    have lt := congrArg List.length hl
    rw [List.length_append] at lt
    have lt' : t.length = 4 + l.length := lt
    have d2 : t.drop (0 + [104, 117, 101, 115].length) = l := by rw [hl]; rfl
    have cancel : ∀ {l' : List Nat}, t = [104, 117, 101, 115] ++ l' → l' = l := fun e => (List.append_cancel_left (hl.symm.trans e)).symm
    refine ⟨_, rfl, a, t, 0 + [104, 117, 101, 115].length, rfl, R2, by show 4 ≤ t.length; omega, hz, hc, fun hs r n hA p3 H3 b3 hp3 d3 R3 hhA hAa lh e3 => ?_, fun n H3 b3 => q0 (fun hs M ⟨l', r', et, n', _⟩ _ _ => ?_) H3 (sb (b2.trans b3))⟩
    rotate_left
    · rw [d2] at n
      rw [cancel et] at n'
      exact n'.bad n
    rw [d2] at n
    refine ⟨_, rfl, _, rfl, a, t, p3, rfl, R3, hp3, hz, hc, fun M e m rA rs p4 H4 b4 hp4 d4 R4 hrA rAa e4 W4 f4 => ?_, fun m H4 b4 => q0 (fun hs' M ⟨l', r', et, n', m'⟩ _ _ => ?_) H4 (sb (b2.trans (b3.trans b4)))⟩
    rotate_left
    · rw [d3] at m
      rw [cancel et] at n'
      obtain ⟨_, er⟩ := n.det n'
      subst er
      exact m'.bad m
    rw [d3] at m
    refine ⟨(by show 2 ≤ sizeLine; decide), fun p hp => ?_⟩
    have e3' := b4 hA _ hAa e3
    have s5 : Same H4 (L2.upd H4 p (.tup [.ref hA, .ref rA])) := Same.upd hp
    have e5 : L2.upd H4 p (.tup [.ref hA, .ref rA]) p = some (.tup [.ref hA, .ref rA]) := upd_same
    have sH : Same H (L2.upd H4 p (.tup [.ref hA, .ref rA])) := (sb (b2.trans (b3.trans b4))).trans s5
    generalize L2.upd H4 p (.tup [.ref hA, .ref rA]) = H5 at s5 e5 sH ⊢
    have R5 : Rdr C H5 a t p4 := let ⟨dx4, e4'⟩ := R4; ⟨dx4, s5 _ _ e4'⟩
    obtain ⟨dx5, ea5⟩ := id R5
    have W5 : WR H5 p hs M := ⟨hA, rA, rs, e5, s5 _ _ e3', s5 _ _ e4, W4.keep fun r _ o z => s5 r o z⟩
    have det : ∀ hs' M', WebOk t hs' M' → hs' = hs ∧ M' = M ∧ e = [] := fun hs' M' ⟨l', r', et, n', m'⟩ => by
      rw [cancel et] at n'
      obtain ⟨eh, er⟩ := n.det n'
      subst er
      obtain ⟨eM, ee⟩ := m.det m'
      exact ⟨eh.symm, eM.symm, ee⟩
    refine ⟨_, rfl, a, dx5, _, rfl, ea5, rfl, a, t, p4, rfl, R5, hp4, by omega, fun ep => ?_, fun hlt => q0 (fun hs' M' W _ _ => ?_) H5 sH⟩
    rotate_left
    · have := (det hs' M' W).2.2
      rw [← d4] at this
      have l4 := congrArg List.length this
      rw [List.length_drop] at l4
      simp at l4
      omega
    have ee : e = [] := by rw [← d4, ep, List.drop_length]
    subst ee
    have WO : WebOk t hs M := ⟨l, r, hl, n, m⟩
    refine ⟨_, rfl, hA, _, rfl, .inl (SqL.of (s5 _ _ e3')), _, _, rfl, rfl, _, rfl, ?_⟩
    rw [List.length_map]
    by_cases h8 : hs.length ≤ 8
    · refine itDN (by omega) ?_
      refine ⟨_, rfl, p, hs, M, rfl, W5, h8, fun hd => ⟨_, rfl, q1 hs M WO h8 hd p H5 sH W5⟩, fun u hu dx6 h6 => ⟨CW, _, rfl, Z.w, ?_, by simp, q0 (fun hs' M' W _ hd => ?_) _ (sH.trans (Same.upd h6)), fun b hb => ?_⟩⟩
      · rw [List.contains_cons, beq_self_eq_true, Bool.true_or]
      · obtain ⟨e1, e2, _⟩ := det hs' M' W
        rw [e1, e2, hu] at hd
        cases hd
      · cases hq : H b with
        | none => exact hq
        | some o => rw [(sH.trans (Same.upd h6)) _ _ hq] at hb; cases hb
    · refine itDP (by omega) ?_
      refine ⟨(by show 1 ≤ sizeLine; decide), fun x hx => ⟨?_, ?_⟩⟩
      · cases hq : H x with
        | none => rfl
        | some o => rw [sH _ _ hq] at hx; cases hx
      · rw [del_upd, del_new hx]
        exact q0 (fun hs' M' W h8' _ => h8 (by rw [← (det hs' M' W).1]; exact h8')) H5 sH
end
section
def figW (w : List Nat) : List Nat := if w.take 1 = [45] then w.drop 1 else w
def numO (w : List Nat) : Option Int := if figW w = [] ∨ 60 < (figW w).length ∨ ((figW w).head? = some 48 ∧ w ≠ [48]) then none else if (figW w).all isFig = true then PySem.intText? (Sg w) else none
theorem figs_app {ds r : List Nat} (h : ∀ c ∈ ds, isFig c = true) (hr : ∀ c, r.head? = some c → isFig c = false) : figsOf (ds ++ r) = ds := by
  unfold figsOf
  induction ds with
  | nil =>
    cases r with
    | nil => rfl
    | cons c r =>
      rw [List.nil_append, List.takeWhile_cons, if_neg (by rw [hr c rfl]; decide)]
  | cons d ds ih =>
    rw [List.cons_append, List.takeWhile_cons, if_pos (h d List.mem_cons_self), ih fun c hc => h c (List.mem_cons_of_mem _ hc)]
theorem okF_iff {ds : List Nat} : okF ds = true ↔ ds ≠ [] ∧ ds.length ≤ 60 ∧ (ds.head? ≠ some 48 ∨ ds = [48]) := by
  unfold okF
  rw [Bool.and_eq_true, Bool.and_eq_true, Bool.or_eq_true, decide_eq_true_iff, decide_eq_true_iff, decide_eq_true_iff, decide_eq_true_iff]
theorem val_zero {ds : List Nat} (hf : ∀ c ∈ ds, isFig c = true) (k : okF ds = true) : valF ds = 0 ↔ ds = [48] := by
  have pos : ∀ (cs : List Nat) (a : Nat), 0 < a → 0 < cs.foldl (fun acc c => acc * 10 + (c - 48)) a := fun cs => by
    induction cs with
    | nil => exact fun a h => h
    | cons c cs ih => exact fun a h => ih _ (show 0 < a * 10 + (c - 48) by omega)
  obtain ⟨ne, _, hd⟩ := okF_iff.mp k
  constructor
  · intro z
    rcases hd with h | h
    · exfalso
      cases ds with
      | nil => exact ne rfl
      | cons c cs =>
        have c1 := fig_lt (hf c List.mem_cons_self)
        have c2 : c ≠ 48 := fun e => h (by rw [e]; rfl)
        unfold valF PySem.NumText.digitsVal at z
        have := pos cs (0 * 10 + (c - 48)) (by omega)
        rw [List.foldl_cons] at z
        omega
    · exact h
  · rintro rfl
    rfl
theorem neg_text {ds : List Nat} (hf : ∀ c ∈ ds, isFig c = true) (ne : ds ≠ []) (l : ds.length ≤ 60) : PySem.intText? (Sg (45 :: ds)) = some (-valF ds) := by
  have e : (Sg (45 :: ds)).cps.toList = 45 :: ds := by simp [Sg]
  exact PySem.intText_neg (x := Sg (45 :: ds)) e (fun c h => fig_lt (hf c h)) ne (by rw [Sg.len, List.length_cons]; omega)
theorem num_law {l : List Nat} {z : Int} {k : Nat} (h : numP l = some (z, k)) : numO (l.take k) = some z ∧ ∀ c ∈ l.take k, c ≠ 32 ∧ c ≠ 59 := by
  have nf : ∀ c, isFig c = true → c ≠ 32 ∧ c ≠ 59 ∧ c ≠ 45 := fun c f => by have := fig_lt f; omega
  have plain : ∀ l : List Nat, okF (figsOf l) = true → figW (figsOf l) = figsOf l ∧ numO (figsOf l) = some (valF (figsOf l)) ∧ l.take (figsOf l).length = figsOf l := fun l k => by
    obtain ⟨ne, few, hd⟩ := okF_iff.mp k
    have hf := figs_fig (l := l)
    have e1 : l.take (figsOf l).length = figsOf l := (congrArg (List.take (figsOf l).length) (figs_split l)).trans List.take_left
    generalize figsOf l = ds at *
    have w1 : figW ds = ds := by
      unfold figW
      rw [if_neg fun z => ?_]
      cases ds with
      | nil => exact ne rfl
      | cons c cs =>
        have : c = 45 := by simpa using z
        exact (nf c (hf c List.mem_cons_self)).2.2 this
    refine ⟨w1, ?_, e1⟩
    unfold numO
    rw [w1, if_neg, if_pos (List.all_eq_true.mpr fun c hc => hf c hc), val_text hf ne few]
    rintro (z | z | ⟨z1, z2⟩)
    · exact ne z
    · omega
    · rcases hd with y | y
      · exact y z1
      · exact z2 y
  unfold numP at h
  split at h
  · rename_i l
    split at h
    · rename_i k
      split at h
      · cases h
      · rename_i vz
        cases h
        obtain ⟨w1, _, e1⟩ := plain l k
        obtain ⟨ne, few, hd⟩ := okF_iff.mp k
        have hf := figs_fig (l := l)
        rw [Nat.add_comm, List.take_succ_cons, e1]
        have n48 : figsOf l ≠ [48] := fun z => vz ((val_zero hf k).mpr z)
        refine ⟨?_, fun c hc => ?_⟩
        · unfold numO
          have w2 : figW (45 :: figsOf l) = figsOf l := rfl
          rw [w2, if_neg, if_pos (List.all_eq_true.mpr fun c hc => hf c hc), neg_text hf ne few]
          rintro (z | z | ⟨z1, _⟩)
          · exact ne z
          · omega
          · rcases hd with y | y
            · exact y z1
            · exact n48 y
        · rcases List.mem_cons.mp hc with rfl | hc
          · decide
          · have := nf c (hf c hc)
            exact ⟨this.1, this.2.1⟩
    · cases h
  · split at h
    · rename_i k
      cases h
      obtain ⟨_, n1, e1⟩ := plain l k
      rw [e1]
      exact ⟨n1, fun c hc => by have := nf c (figs_fig c hc); exact ⟨this.1, this.2.1⟩⟩
    · cases h
end
section
theorem num_prog {w r : List Nat} {z : Int} (h : numO w = some z) (hr : ∀ c, r.head? = some c → isFig c = false) : numP (w ++ r) = some (z, w.length) := by
  unfold numO at h
  split at h
  · cases h
  · rename_i hn
    split at h
    · rename_i ha
      have hf : ∀ c ∈ figW w, isFig c = true := fun c hc => List.all_eq_true.mp ha c hc
      have ne : figW w ≠ [] := fun z => hn (.inl z)
      have few : (figW w).length ≤ 60 := by
        rcases Nat.lt_or_ge 60 (figW w).length with y | y
        · exact absurd (.inr (.inl y)) hn
        · exact y
      by_cases hm : w.take 1 = [45]
      · have ew : figW w = w.drop 1 := if_pos hm
        obtain ⟨ds, rfl⟩ : ∃ ds, w = 45 :: ds := by
          cases w with
          | nil => cases hm
          | cons c cs =>
            have : c = 45 := by simpa using hm
            exact ⟨cs, by rw [this]⟩
        have e : figW (45 :: ds) = ds := ew
        rw [e] at hf ne few hn
        have k : okF ds = true := okF_iff.mpr ⟨ne, few, .inl fun z => hn (.inr (.inr ⟨z, by simp⟩))⟩
        have v0 : valF ds ≠ 0 := fun y => by
          have := (val_zero hf k).mp y
          exact hn (.inr (.inr ⟨by rw [this]; rfl, by simp⟩))
        rw [neg_text hf ne few] at h
        cases h
        rw [List.cons_append, numP_minus, figs_app hf hr, if_pos k, if_neg v0, List.length_cons, Nat.add_comm]
      · have ew : figW w = w := if_neg hm
        rw [ew] at hf ne few hn
        have k : okF w = true := okF_iff.mpr ⟨ne, few, by
          by_cases h48 : w = [48]
          · exact .inr h48
          · exact .inl fun z => hn (.inr (.inr ⟨z, h48⟩))⟩
        rw [val_text hf ne few] at h
        cases h
        have np : ([45] : List Nat).isPrefixOf (w ++ r) = false := by
          cases w with
          | nil => exact absurd rfl ne
          | cons c cs =>
            have := fig_lt (hf c List.mem_cons_self)
            show ((45 == c) && _) = false
            rw [show (45 == c) = false from beq_eq_false_iff_ne.mpr (by omega)]
            rfl
        rw [numP_plain np, figs_app hf hr, if_pos k]
    · cases h
def wordsT (ws : List (List Nat)) : List Nat := ws.flatMap fun w => 32 :: w
def Bhd (r : List Nat) : Prop := ∀ c, r.head? = some c → c = 59
theorem words_hd {ws : List (List Nat)} {r : List Nat} (h : Bhd r) : ∀ c, (wordsT ws ++ r).head? = some c → isFig c = false := fun c hc => by
  cases ws with
  | nil => rw [h c hc]; rfl
  | cons w ws =>
    have : c = 32 := by
      have := hc
      simp [wordsT] at this
      exact this.symm
    rw [this]
    rfl
theorem nums_of_words {r : List Nat} (hr : Bhd r) : ∀ (ws : List (List Nat)) (zs : List Int), ws.map numO = zs.map some → NumsOk (wordsT ws ++ r) zs r
  | [], [], _ => .nil (by
    cases r with
    | nil => rfl
    | cons c r =>
      have := hr c rfl
      subst this
      rfl)
  | [], _ :: _, h => by cases h
  | _ :: _, [], h => by cases h
  | w :: ws, z :: zs, h => by
    obtain ⟨h1, h2⟩ := List.cons.inj h
    have ih := nums_of_words hr ws zs h2
    have e : wordsT (w :: ws) ++ r = 32 :: (w ++ (wordsT ws ++ r)) := by
      unfold wordsT
      rw [List.flatMap_cons, List.cons_append, List.cons_append, List.append_assoc]
    rw [e]
    refine .cons (num_prog h1 (words_hd hr)) ?_
    rw [List.drop_left]
    exact ih
theorem words_of_nums {l r : List Nat} {zs : List Int} (n : NumsOk l zs r) : ∃ ws : List (List Nat), l = wordsT ws ++ r ∧ ws.map numO = zs.map some ∧ ∀ w ∈ ws, ∀ c ∈ w, c ≠ 32 ∧ c ≠ 59 := by
  induction n with
  | nil _ => exact ⟨[], rfl, rfl, fun w h => by cases h⟩
  | @cons l z k zs r h n ih =>
    obtain ⟨ws, e1, e2, e3⟩ := ih
    obtain ⟨g1, g2⟩ := num_law h
    refine ⟨l.take k :: ws, ?_, by rw [List.map_cons, List.map_cons, g1, e2], fun w hw => ?_⟩
    · unfold wordsT at e1 ⊢
      rw [List.flatMap_cons, List.cons_append, List.cons_append, List.append_assoc, ← e1, List.take_append_drop]
    · rcases List.mem_cons.mp hw with rfl | hw
      · exact g2
      · exact e3 w hw
end
section
open PySem.StrLaws PySem.Builtin.Str
theorem piece_free (x y : Str) (hy : 1 ≤ y.length) (a b : Nat) (hb : b ≤ x.length) (hn : ∀ k, a ≤ k → k < b → ¬At x y x.length k) (u v : List Nat) : (strSub x a b).cps.toList ≠ u ++ (y.cps.toList ++ v) := fun e => by
  rw [strSub_toList] at e
  have le := congrArg List.length e
  have ly : y.cps.toList.length = y.length := Array.length_toList
  have lx : x.cps.toList.length = x.length := Array.length_toList
  rw [List.length_take, List.length_drop, List.length_append, List.length_append, ly, lx] at le
  refine hn (a + u.length) (by omega) (by omega) ⟨by omega, ?_⟩
  rw [subAt_eq, beq_iff_eq, ← List.drop_drop]
  have e2 : x.cps.toList.drop a = u ++ (y.cps.toList ++ v) ++ (x.cps.toList.drop a).drop (b - a) := by rw [← e, List.take_append_drop]
  rw [e2, List.append_assoc, List.drop_left, List.append_assoc, ← ly, List.take_left]
theorem parts_freeN (x y : Str) (hy : 1 ≤ y.length) : ∀ (cuts : List Nat) (a f : Nat), ChainG x y x.length a cuts f → (∀ k, f ≤ k → ¬At x y x.length k) → ∀ p ∈ partsFrom x y.length a cuts, ∀ u v, p.cps.toList ≠ u ++ (y.cps.toList ++ v)
  | [], a, f, h, hn, p, hp => by
    have e : f = a := h
    subst e
    rw [List.mem_singleton.mp hp]
    exact piece_free x y hy f x.length (Nat.le_refl _) fun k h1 _ => hn k h1
  | d :: r, a, f, h, hn, p, hp => by
    rcases List.mem_cons.mp hp with rfl | hp'
    · exact piece_free x y hy a d (by have := h.2.1.1; omega) h.2.2.1
    · exact parts_freeN x y hy r _ f h.2.2.2 hn p hp'
theorem spl_free (t y : List Nat) (hy : y ≠ []) (h128 : ∀ c ∈ y, c < 256) : ∀ p ∈ splL t y, ∀ u v, p ≠ u ++ (y ++ v) := by
  have ly : 1 ≤ (Sg y).length := by rw [Sg.len]; exact List.length_pos_iff.mpr hy
  have ey : (Sg y).cps.toList = y := by simp [Sg]
  have ex : (Sg t).cps.toList = t := by simp [Sg]
  obtain ⟨f, hG, hn⟩ := occ_tight (Sg t) (Sg y) ly
  intro p hp u v
  obtain ⟨q, hq, rfl⟩ := List.mem_map.mp hp
  rw [← ey]
  unfold Txt.split at hq
  split at hq
  · rename_i hc
    rw [List.mem_singleton.mp hq]
    intro e
    rw [Bool.or_eq_true, decide_eq_true_eq, decide_eq_true_eq] at hc
    rcases hc with h | h
    · have le := congrArg List.length e
      rw [List.length_append, List.length_append, ey, ex] at le
      rw [Sg.len, Sg.len] at h
      omega
    · have k1 : Builtin.Str.strKind (Sg y) = 1 := if_pos (by simpa [Sg] using h128)
      rw [k1] at h
      unfold Builtin.Str.strKind at h
      split at h
      · omega
      · split at h <;> omega
  · split at hq
    · rename_i he
      rw [List.mem_singleton.mp hq]
      have e0 : occurrences (Sg t) (Sg y) 0 (Sg t).length ((Sg t).length + 1) = [] := List.isEmpty_iff.mp he
      rw [e0] at hG
      have ef : f = 0 := hG
      subst ef
      rw [← sub_whole (Sg t)]
      exact piece_free (Sg t) (Sg y) ly 0 (Sg t).length (Nat.le_refl _) (fun k h1 _ => hn k h1) u v
    · rw [partsBetween_eq] at hq
      exact parts_freeN (Sg t) (Sg y) ly _ 0 f hG hn q hq u v
theorem spl_ne (t y : List Nat) : splL t y ≠ [] := fun z => by
  have := split_pos (Sg t) (Sg y)
  have l := congrArg List.length z
  unfold splL at l
  rw [List.length_map, List.length_nil] at l
  omega
theorem glue_cons2 (sep : List Nat) (x y : List Nat) (r : List (List Nat)) : glueL sep (x :: y :: r) = x ++ (sep ++ glueL sep (y :: r)) := by
  simp [glueL]
theorem first_of {c : Nat} : ∀ {x y a b : List Nat}, c ∉ x → c ∉ y → x ++ c :: a = y ++ c :: b → x = y ∧ a = b
  | [], [], _, _, _, _, e => ⟨rfl, (List.cons.inj e).2⟩
  | [], z :: y, _, _, _, hy, e => absurd (by rw [(List.cons.inj e).1]; exact List.mem_cons_self) hy
  | z :: x, [], _, _, hx, _, e => absurd (by rw [← (List.cons.inj e).1]; exact List.mem_cons_self) hx
  | z :: x, z' :: y, a, b, hx, hy, e => by
    obtain ⟨e1, e2⟩ := List.cons.inj e
    subst e1
    obtain ⟨e3, e4⟩ := first_of (fun m => hx (List.mem_cons_of_mem _ m)) (fun m => hy (List.mem_cons_of_mem _ m)) e2
    exact ⟨by rw [e3], e4⟩
theorem glue_uniq {c : Nat} {sep : List Nat} (h2 : sep.head? ≠ some c) (hs : sep.length ≤ 1) : ∀ (P R : List (List Nat)), P ≠ [] → R ≠ [] → (∀ p ∈ P, ∀ u v, p ≠ u ++ (c :: sep ++ v)) → (∀ r ∈ R, c ∉ r) → glueL (c :: sep) P = glueL (c :: sep) R → P = R
  | [], _, h, _, _, _, _ => absurd rfl h
  | _, [], _, h, _, _, _ => absurd rfl h
  | [x], [y], _, _, _, _, e => by simpa [glueL] using e
  | [x], y :: y2 :: R, _, _, hP, _, e => by
    rw [glue_cons2] at e
    exact absurd (by simpa [glueL] using e) (hP x List.mem_cons_self y (glueL (c :: sep) (y2 :: R)))
  | x :: x2 :: P, [y], _, _, _, hR, e => by
    rw [glue_cons2] at e
    have : c ∈ y := by
      have e' : x ++ (c :: sep ++ glueL (c :: sep) (x2 :: P)) = y := by simpa [glueL] using e
      rw [← e']
      simp
    exact absurd this (hR y List.mem_cons_self)
  | x :: x2 :: P, y :: y2 :: R, _, _, hP, hR, e => by
    rw [glue_cons2, glue_cons2, List.cons_append, List.cons_append] at e
    have hy := hR y List.mem_cons_self
    have hx : c ∉ x := fun m => by
      obtain ⟨u, v, rfl, hu⟩ := List.eq_append_cons_of_mem m
      rw [List.append_assoc, List.cons_append] at e
      obtain ⟨e1, e2⟩ := first_of hu hy e
      cases v with
      | nil =>
        cases sep with
        | nil => exact hP (u ++ [c]) List.mem_cons_self u [] (by simp)
        | cons d sep =>
          have : c = d := by simpa using (List.cons.inj e2).1
          exact h2 (by rw [this]; rfl)
      | cons d v =>
        cases sep with
        | nil => exact hP (u ++ c :: d :: v) List.mem_cons_self u (d :: v) (by simp)
        | cons d2 sep2 =>
          have s2 : sep2 = [] := List.length_eq_zero_iff.mp (by rw [List.length_cons] at hs; omega)
          subst s2
          have : d = d2 := by simpa using (List.cons.inj e2).1
          subst this
          exact hP (u ++ c :: d :: v) List.mem_cons_self u v (by simp)
    obtain ⟨e1, e2⟩ := first_of hx hy e
    have ih := glue_uniq h2 hs (x2 :: P) (y2 :: R) (by simp) (by simp) (fun p hp => hP p (List.mem_cons_of_mem _ hp)) (fun r hr => hR r (List.mem_cons_of_mem _ hr)) (List.append_cancel_left e2)
    rw [e1, ih]
end
section
theorem numO_free {w : List Nat} {z : Int} (h : numO w = some z) : ∀ c ∈ w, c ≠ 32 ∧ c ≠ 59 := by
  have p := num_prog (r := []) h (fun c hc => by cases hc)
  rw [List.append_nil] at p
  have := (num_law p).2
  rwa [List.take_length] at this
theorem glue_words (w : List Nat) : ∀ ws : List (List Nat), glueL [32] (w :: ws) = w ++ wordsT ws := by
  have : ∀ (ws : List (List Nat)) (w : List Nat), glueL [32] (w :: ws) = w ++ wordsT ws := fun ws => by
    induction ws with
    | nil => intro w; simp [glueL, wordsT]
    | cons v ws ih =>
      intro w
      rw [glue_cons2, ih]
      simp [wordsT]
  exact fun ws => this ws w
theorem spl_words {w : List Nat} {ws : List (List Nat)} (hw : 32 ∉ w) (hs : ∀ v ∈ ws, 32 ∉ v) : splL (w ++ wordsT ws) [32] = w :: ws := by
  refine glue_uniq (c := 32) (sep := []) (by simp) (by simp) _ _ (spl_ne _ _) (by simp) (fun p hp u v => ?_) (fun r hr => ?_) ?_
  · exact spl_free _ [32] (by simp) (by decide) p hp u v
  · rcases List.mem_cons.mp hr with rfl | hr
    · exact hw
    · exact hs r hr
  · rw [splL_glue, glue_words]
def numsO (row word : List Nat) : Option (List Int) := match splL row [32] with
  | [] => none
  | w :: ws => if w = word ∧ (ws.map numO).all Option.isSome = true then some (ws.map fun v => (numO v).getD 0) else none
theorem some_map {ws : List (List Nat)} (h : (ws.map numO).all Option.isSome = true) : ws.map numO = (ws.map fun v => (numO v).getD 0).map some := by
  rw [List.map_map]
  refine List.map_congr_left fun v hv => ?_
  have := List.all_eq_true.mp h (numO v) (List.mem_map.mpr ⟨v, hv, rfl⟩)
  show numO v = some ((numO v).getD 0)
  cases hq : numO v with
  | none => rw [hq] at this; cases this
  | some z => rfl
theorem numsO_iff {row word : List Nat} {zs : List Int} (hw : 32 ∉ word) : numsO row word = some zs ↔ ∃ ws, row = word ++ wordsT ws ∧ ws.map numO = zs.map some := by
  constructor
  · intro h
    have g := splL_glue row [32]
    unfold numsO at h
    split at h
    · cases h
    · rename_i w ws e
      split at h
      · rename_i k
        cases h
        rw [e, glue_words, k.1] at g
        exact ⟨ws, g.symm, some_map k.2⟩
      · cases h
  · rintro ⟨ws, rfl, hm⟩
    have hv : ∀ v ∈ ws, ∃ z, numO v = some z := fun v hv => by
      have : numO v ∈ zs.map some := by rw [← hm]; exact List.mem_map.mpr ⟨v, hv, rfl⟩
      obtain ⟨z, _, hz⟩ := List.mem_map.mp this
      exact ⟨z, hz.symm⟩
    unfold numsO
    rw [spl_words hw fun v h m => let ⟨z, hz⟩ := hv v h; (numO_free hz 32 m).1 rfl]
    have k : (ws.map numO).all Option.isSome = true := List.all_eq_true.mpr fun o ho => by
      obtain ⟨v, h1, rfl⟩ := List.mem_map.mp ho
      obtain ⟨z, hz⟩ := hv v h1
      rw [hz]
      rfl
    show (if word = word ∧ _ then _ else _) = _
    rw [if_pos ⟨rfl, k⟩]
    have := hm.symm.trans (some_map k)
    exact congrArg some (List.map_inj_right (fun _ _ q => Option.some.inj q) |>.mp this).symm
def rowsT (rs : List (List Nat)) : List Nat := rs.flatMap fun r => [59, 32] ++ r
theorem glue_rows (w : List Nat) : ∀ rs : List (List Nat), glueL [59, 32] (w :: rs) = w ++ rowsT rs := by
  have : ∀ (rs : List (List Nat)) (w : List Nat), glueL [59, 32] (w :: rs) = w ++ rowsT rs := fun rs => by
    induction rs with
    | nil => intro w; simp [glueL, rowsT]
    | cons v rs ih =>
      intro w
      rw [glue_cons2, ih]
      simp [rowsT]
  exact fun rs => this rs w
theorem rows_bhd (rs : List (List Nat)) : Bhd (rowsT rs) := fun c hc => by
  cases rs with
  | nil => cases hc
  | cons r rs =>
    have : 59 = c := by simpa [rowsT] using hc
    exact this.symm
theorem rows_ok : ∀ (rs : List (List Nat)) (M : List (List Int)), rs.map (fun r => numsO r [114, 111, 119]) = M.map some → RowsOk (rowsT rs) M []
  | [], [], _ => .nil rfl
  | [], _ :: _, h => by cases h
  | _ :: _, [], h => by cases h
  | r :: rs, zs :: M, h => by
    obtain ⟨h1, h2⟩ := List.cons.inj h
    obtain ⟨ws, rfl, hm⟩ := (numsO_iff (by decide)).mp h1
    have e : rowsT (([114, 111, 119] ++ wordsT ws) :: rs) = [59, 32] ++ ([114, 111, 119] ++ (wordsT ws ++ rowsT rs)) := by simp [rowsT]
    rw [e]
    exact .cons (nums_of_words (rows_bhd rs) ws zs hm) (rows_ok rs M h2)
theorem ok_rows {l e : List Nat} {M : List (List Int)} (n : RowsOk l M e) : ∃ rs : List (List Nat), l = rowsT rs ++ e ∧ rs.map (fun r => numsO r [114, 111, 119]) = M.map some ∧ ∀ r ∈ rs, 59 ∉ r := by
  induction n with
  | nil _ => exact ⟨[], rfl, rfl, fun r h => by cases h⟩
  | @cons l r e zs M h n ih =>
    obtain ⟨rs, e1, e2, e3⟩ := ih
    obtain ⟨ws, g1, g2, g3⟩ := words_of_nums h
    refine ⟨([114, 111, 119] ++ wordsT ws) :: rs, ?_, by rw [List.map_cons, List.map_cons, e2, (numsO_iff (by decide)).mpr ⟨ws, rfl, g2⟩], fun r hr => ?_⟩
    · rw [g1, e1]
      simp [rowsT]
    · rcases List.mem_cons.mp hr with rfl | hr
      · intro m
        rcases List.mem_append.mp m with m | m
        · revert m; decide
        · unfold wordsT at m
          obtain ⟨w, hw, hc⟩ := List.mem_flatMap.mp m
          rcases List.mem_cons.mp hc with z | z
          · cases z
          · exact (g3 w hw 59 z).2 rfl
      · exact e3 r hr
theorem web_law {t : List Nat} {hs : List Int} {M : List (List Int)} : WebOk t hs M ↔ ∃ r rs, splL t [59, 32] = r :: rs ∧ numsO r [104, 117, 101, 115] = some hs ∧ rs.map (fun r => numsO r [114, 111, 119]) = M.map some := by
  constructor
  · rintro ⟨l, r, rfl, n, m⟩
    obtain ⟨ws, rfl, g2, g3⟩ := words_of_nums n
    obtain ⟨rs, e1, e2, e3⟩ := ok_rows m
    rw [List.append_nil] at e1
    subst e1
    refine ⟨[104, 117, 101, 115] ++ wordsT ws, rs, ?_, (numsO_iff (by decide)).mpr ⟨ws, rfl, g2⟩, e2⟩
    refine glue_uniq (c := 59) (sep := [32]) (by decide) (by decide) _ _ (spl_ne _ _) (by simp) (fun p hp u v => spl_free _ [59, 32] (by simp) (by decide) p hp u v) (fun r hr => ?_) ?_
    · rcases List.mem_cons.mp hr with rfl | hr
      · intro m
        rcases List.mem_append.mp m with m | m
        · revert m; decide
        · unfold wordsT at m
          obtain ⟨w, hw, hc⟩ := List.mem_flatMap.mp m
          rcases List.mem_cons.mp hc with z | z
          · cases z
          · exact (g3 w hw 59 z).2 rfl
      · exact e3 r hr
    · rw [splL_glue, glue_rows, List.append_assoc]
  · rintro ⟨r, rs, e, h1, h2⟩
    have g := splL_glue t [59, 32]
    rw [e, glue_rows] at g
    obtain ⟨ws, rfl, hm⟩ := (numsO_iff (by decide)).mp h1
    exact ⟨wordsT ws ++ rowsT rs, rowsT rs, by rw [← g, List.append_assoc], nums_of_words (rows_bhd rs) ws hs hm, rows_ok rs M h2⟩
end
section
theorem due_none {hs : List Int} {M : List (List Int)} : due hs M = none ↔ M.length = hs.length ∧ (∀ z ∈ hs, 0 ≤ z) ∧ (∀ x ∈ M, x.length = hs.length) ∧ ∀ u < hs.length, ∀ v < u, ent M u v = ent M v u := by
  have has : ∀ {u : Nat}, hasRow M hs.length u = true ↔ u < M.length ∧ (M.getD u []).length = hs.length := fun {u} => by
    unfold hasRow
    rw [Bool.and_eq_true, decide_eq_true_iff, decide_eq_true_iff]
  have rt : ∀ {u : Nat}, right hs M u = true ↔ 0 ≤ hs.getD u 0 ∧ hasRow M hs.length u = true ∧ ∀ v < hs.length, hasRow M hs.length v = true → ent M u v = ent M v u := fun {u} => by
    unfold right turned
    rw [Bool.and_eq_true, Bool.and_eq_true, decide_eq_true_iff, List.all_eq_true]
    refine and_congr Iff.rfl (and_congr Iff.rfl ⟨fun h v hv hr => ?_, fun h v hv => ?_⟩)
    · have := h v (List.mem_range.mpr hv)
      rw [hr] at this
      simpa using this
    · have := h v (List.mem_range.mp hv)
      cases hr : hasRow M hs.length v with
      | false => rfl
      | true => simpa using this hr
  constructor
  · intro h
    unfold due at h
    rw [Option.or_eq_none_iff] at h
    obtain ⟨h1, h2⟩ := h
    have all : ∀ u < hs.length, right hs M u = true := fun u hu => by
      have := List.find?_eq_none.mp h1 u (List.mem_range.mpr hu)
      simpa using this
    have le : ¬hs.length < M.length := fun z => by rw [if_pos z] at h2; cases h2
    have ge : hs.length ≤ M.length := by
      rcases Nat.eq_zero_or_pos hs.length with z | z
      · omega
      · have := (has.mp (rt.mp (all (hs.length - 1) (by omega))).2.1).1
        omega
    have el : M.length = hs.length := by omega
    refine ⟨el, fun z hz => ?_, fun x hx => ?_, fun u hu v hv => ?_⟩
    · obtain ⟨u, hu, rfl⟩ := List.getElem_of_mem hz
      have := (rt.mp (all u hu)).1
      rwa [List.getD_eq_getElem?_getD, List.getElem?_eq_getElem hu] at this
    · obtain ⟨u, hu, rfl⟩ := List.getElem_of_mem hx
      have := (has.mp (rt.mp (all u (by omega))).2.1).2
      rwa [List.getD_eq_getElem?_getD, List.getElem?_eq_getElem hu] at this
    · exact (rt.mp (all u hu)).2.2 v (by omega) (rt.mp (all v (by omega))).2.1
  · rintro ⟨el, hz, hx, hy⟩
    have row : ∀ u < hs.length, hasRow M hs.length u = true := fun u hu => has.mpr ⟨by omega, by
      rw [List.getD_eq_getElem?_getD, List.getElem?_eq_getElem (by omega)]
      exact hx _ (List.getElem_mem _)⟩
    have all : ∀ u < hs.length, right hs M u = true := fun u hu => rt.mpr ⟨by
      rw [List.getD_eq_getElem?_getD, List.getElem?_eq_getElem hu]
      exact hz _ (List.getElem_mem _), row u hu, fun v hv _ => by
        rcases Nat.lt_trichotomy v u with z | z | z
        · exact hy u hu v z
        · rw [z]
        · exact (hy v hv u z).symm⟩
    rw [due_end all, if_neg (by omega)]
end
section
variable {P : Program} {w : World} {K : PySem.W.Frag} {mg : Str → Option Value} {base : Heap}
def tMid (t u : TS) : TS := fun D σ H => ∃ J : L2.St → Hp → Prop, t { D with nx := J } σ H ∧ ∀ σ' H', J σ' H' → u D σ' H'
theorem pss_mid {X : Cx} {st : Stmt} {rest : List Stmt} {t u : TS} (h1 : PS X st t) (h2 : PSs X rest u) : PSs X (st :: rest) (tMid t u) := by
  intro pins s σ H D I h
  obtain ⟨J, h, k⟩ := h
  refine wpAny_execs_cons (thn (h1 pins s σ H { D with nx := J } I h) fun f s1 q => ?_)
  cases f with
  | next =>
    obtain ⟨σ', H', I', q⟩ := q
    exact h2 pins s1 σ' H' D I' (k σ' H' q)
  | ret v => exact q
  | brk => exact q
  | cont => exact q
theorem _root_.L2.Same.over {H H' : Hp} {a : Addr} {o : HO} (s : Same H H') (h : H a = none) : Same H (L2.upd H' a o) := fun b u e => by
  rw [upd_ne (ne_of_none e h)]
  exact s b u e
theorem set1S (σ : L2.St) (o : Option V) (x : V) : (σ ++ [o]).set σ.length (some x) = σ ++ [some x] := by
  rw [List.set_append_right _ _ (Nat.le_refl _), Nat.sub_self]
  rfl
theorem lc_signs {t : List Nat} {N : Nat} {tt : TT} {te : TE} {σ : L2.St} {H1 : Hp} {Q : VK} (hN : σ.length = N) (f : Nat → Bool) (hz : t.length ≤ 90000)
    (ht : ∀ (c : Nat) (H' : Hp) (R : Bool → Hp → Prop), c ∈ t → Same H1 H' → R (f c) H' → tt (σ ++ [some (.str (Sg [c]))]) H' R)
    (he : ∀ (c : Nat) (H' : Hp) (R : VK), R (.str (Sg [c])) H' → te (σ ++ [some (.str (Sg [c]))]) H' R)
    (hd : ∀ (D : Addr) (H' : Hp), Same H1 H' → H' D = some (.lst ((t.filter f).map fun c => V.str (Sg [c]))) → Q (.ref D) H') : LcW 1 (Its t) (gName N) tt te σ H1 Q := by
  subst hN
  intro D hD
  refine ⟨fun i m ys H' => m = t.length - i ∧ i ≤ t.length ∧ ys = ((t.take i).filter f).map (fun c => V.str (Sg [c])) ∧ Same H1 H' ∧ H' D = some (.lst ys), ⟨t.length, by simp, Nat.zero_le _, rfl, Same.upd hD, upd_same⟩, ?_⟩
  rintro i m ys H2 ⟨rfl, hi, rfl, s2, eD⟩
  refine ⟨eD, ?_⟩
  by_cases hlt : i < t.length
  · refine .inr ⟨hlt, ?_⟩
    rintro z H3 ⟨rfl, c, hc, rfl⟩ os los
    match os, los with
    | [o], _ =>
      refine ⟨⟨[some (.str (Sg [c]))], set1S σ o _, rfl⟩, ?_⟩
      rw [set1S σ o _]
      have sn : (t.take (i + 1)).filter f = (t.take i).filter f ++ (if f c = true then [c] else []) := by
        rw [take_snoc hc, List.filter_append]
        congr 1
        by_cases e : f c = true
        · rw [List.filter_cons_of_pos e, if_pos e]; rfl
        · rw [List.filter_cons_of_neg e, if_neg e]; rfl
      have lr : ((t.take i).filter f).length ≤ i := by
        refine Nat.le_trans (List.length_filter_le _ _) ?_
        rw [List.length_take]
        omega
      refine ht c _ _ (List.mem_of_getElem? hc) s2 ?_
      by_cases e : f c = true
      · rw [if_pos e] at sn
        rw [e, if_pos rfl]
        refine he c _ _ ⟨eD, Nat.lt_of_le_of_lt (show _ ≤ 90000 by rw [List.length_map]; omega) (by decide), t.length - (i + 1), by omega, rfl, hlt, ?_, s2.over hD, upd_same⟩
        rw [sn, List.map_append]
        rfl
      · rw [if_neg e, List.append_nil] at sn
        have e' : f c = false := by simpa using e
        rw [e', if_neg (by decide)]
        exact ⟨t.length - (i + 1), by omega, rfl, hlt, by rw [sn], s2, eD⟩
  · have : i = t.length := by omega
    subst this
    rw [List.take_length] at eD
    exact .inl ⟨Nat.le_refl _, hd D H2 s2 eD⟩
def cmpLS (s : Stmt) : Expr := match s with
  | .If (.Compare a _ _ _) _ _ _ => a
  | _ => .Constant .none 0 ⟨0, 0, 0, 0⟩
def numV : Option Int → V
  | none => .non
  | some z => .int z
abbrev nNumOf : List Str := ["_law_word", "_law_figures"]
theorem scNumOf : FnScope nNumOf ["_law_word"] (defScope sNumOf) := ⟨rfl, rfl, rfl, by decide +kernel, rfl, by decide +kernel, by decide +kernel⟩
theorem lcNumOf : LcScopes (defScope sNumOf) nNumOf (lcScope (cmpLS (bodyAt sNumOf 3))) ["_law_sign"] := ⟨by decide +kernel, rfl, by decide +kernel, by decide +kernel, by decide +kernel, by decide +kernel, by decide +kernel, by decide +kernel, by decide +kernel, by decide +kernel⟩
def spNumOf : Sp := fun vs H Q _ => ∃ wd : List Nat, vs = [.str (Sg wd)] ∧ wd.length ≤ 90000 ∧ (∀ c ∈ wd, c < 128) ∧ ∀ H', Same H H' → Q (numV (numO wd)) H'
theorem sg_list {H : Hp} {D : Addr} (xs : List Nat) (e : H D = some (.lst (xs.map fun c => V.str (Sg [c])))) : DA K any H (.ref D) (.list (xs.map fun c => .str (Sg [c]))) := by
  refine .lst trivial (SqL.of e) ?_
  clear e
  induction xs with
  | nil => exact .nil
  | cons c xs ih => exact .cons (.str _) ih
theorem lay_sgs : ∀ xs : List Nat, (∀ c ∈ xs, c < 128) → PyData.canLayAll0 (xs.map fun c => PyData.str (Sg [c])) = true ∧ PyData.depthAll (xs.map fun c => PyData.str (Sg [c])) = 0
  | [], _ => ⟨rfl, rfl⟩
  | c :: xs, h => by
    obtain ⟨h1, h2⟩ := lay_sgs xs fun c hc => h c (List.mem_cons_of_mem _ hc)
    have ok : PyData.strOk (Sg [c]) = true := by
      have := h c List.mem_cons_self
      unfold PyData.strOk
      simp [Sg]
      omega
    simp only [List.map_cons, PyData.canLayAll0, PyData.depthAll, PyData.canLay0, PyData.depth, h1, h2, Bool.and_self, Nat.max_self, and_self, ok]
theorem ok_numOf {f : Addr} {fd : FuncData} (B : BltX mg) (F : Fun K "_law_number_of" "_law_number_of" sNumOf f fd) : FnOk P w K mg base CX0 1 f fd ["_law_word"] spNumOf := by
  refine F.ok scNumOf (fun vs H Q E h => ?_) (fun cdv A outer s H vs Q E hr h => ?_)
  · obtain ⟨wd, rfl, _⟩ := h
    rfl
  · obtain ⟨wd, rfl, hz, hc, q⟩ := h
    refine ⟨_, pss_cons (ps_set (i := 1) scNumOf.nd rfl (Or.inl rfl) (pv 0))
      (pss_mid (ps_if (pt_cmpR op_eq (pe_slice sl_head (pv 0) po_none (po_some pe_int)) pe_str (nomark _)) (pss_one (ps_set (i := 1) scNumOf.nd rfl (Or.inl rfl) (pe_slice sl_tail (pv 0) (po_some pe_int) po_none))) pss_nil)
      (pss_cons (ps_if (PW.pt (pw_or (pt_cmpR op_eq (pv 1) pe_str (nomark _)) (pw_or (pt_cmpR op_gt (pe_callB call_len_str (by rfl) B.len PySem.boot_len (pa_cons (pv 1) pa_nil)) pe_int (nomark _))
        (pw_or1 (PW.pt (pw_and (pt_cmpR op_eq (pe_ix ix_str (pv 1) pe_int (fun _ _ => rfl)) pe_str (nomark _)) (pw_and1 (pt_cmpR op_ne (pv 0) pe_str (nomark _))))))))) (pss_one (ps_ret pe_non)) pss_nil)
      (pss_cons (ps_if (pt_cmpR (op_neD hr.units) (pe_lcs rfl lcNumOf rfl (pi_str (pv 1)) (pg_one lcNumOf) (fun _ _ _ => pts_one (pt_cmpR op_notIn_str (pv 2) pe_str rfl)) (fun _ _ _ => pv 2)) (pe_lst pa_nil) (nomark _)) (pss_one (ps_ret pe_non)) pss_nil)
      (pss_one (ps_ret (pe_callTy call_int_text (by rfl) B.int boot_int (pa_cons (pv 0) pa_nil))))))), ?_⟩
    have sz : wd.length ≤ sizeLine := Nat.le_trans hz (by decide)
    refine ⟨_, rfl, fun σ H' => σ = [some (.str (Sg wd)), some (.str (Sg (figW wd)))] ∧ H' = H, ?_, ?_⟩
    · refine ⟨_, rfl, _, rfl, wd, 1, rfl, rfl, rfl, sz, rfl, _, rfl, ?_⟩
      have em : Str.ofString "-" = Sg [45] := by decide +kernel
      by_cases hm : wd.take 1 = [45]
      · refine itDP (by rw [em, hm]) ?_
        refine ⟨_, rfl, _, rfl, wd, 1, rfl, rfl, rfl, sz, ?_, rfl⟩
        have : figW wd = wd.drop 1 := if_pos hm
        rw [this]
        rfl
      · refine itDN (fun z => hm ?_) ?_
        · rw [em] at z
          exact Sg.inj (V.str.inj z)
        · have : figW wd = wd := if_neg hm
          exact ⟨by rw [this]; rfl, rfl⟩
    · rintro σ H' ⟨rfl, rfl⟩
      have lf : (figW wd).length ≤ wd.length := by
        unfold figW
        split
        · rw [List.length_drop]; omega
        · exact Nat.le_refl _
      have cf : ∀ c ∈ figW wd, c < 128 := fun c hc' => hc c (by
        unfold figW at hc'
        split at hc'
        · exact List.mem_of_mem_drop hc'
        · exact hc')
      have none_ : (figW wd = [] ∨ 60 < (figW wd).length ∨ ((figW wd).head? = some 48 ∧ wd ≠ [48])) → Q .non H' := fun h => by
        have := q H' (Same.refl _)
        unfold numO at this
        rwa [if_pos h] at this
      by_cases n1 : figW wd = []
      · exact ⟨_, rfl, rfl, _, rfl, itDP (by rw [n1]; exact (lit_any "").symm) (none_ (.inl n1))⟩
      refine ⟨_, rfl, rfl, _, rfl, itDN (fun z => n1 (Sg.inj (b := []) (V.str.inj z))) ?_⟩
      refine ⟨_, rfl, Sg (figW wd), rfl, by rw [Sg.len]; omega, _, _, rfl, rfl, _, rfl, ?_⟩
      rw [Sg.len]
      by_cases n2 : 60 < (figW wd).length
      · exact itDP (by omega) (none_ (.inr (.inl n2)))
      refine itDN (by omega) ?_
      obtain ⟨c, r, hcr⟩ : ∃ c r, figW wd = c :: r := by
        cases hd : figW wd with
        | nil => exact absurd hd n1
        | cons c r => exact ⟨c, r, rfl⟩
      refine ⟨_, rfl, Sg (figW wd), 0, c, rfl, rfl, by rw [Sg.len]; omega, (by rw [hcr]; exact atI_nat (j := 0) (by simp [Sg])), rfl, _, rfl, ?_⟩
      have e0 : Str.ofString "0" = Sg [48] := by decide +kernel
      have is0 : V.str (⟨#[c]⟩ : Str) = V.str (Str.ofString "0") ↔ c = 48 := by
        rw [e0]
        constructor
        · intro z
          have := Sg.inj (a := [c]) (b := [48]) (V.str.inj z)
          exact (List.cons.inj this).1
        · rintro rfl
          rfl
      by_cases bad : c = 48 ∧ wd ≠ [48]
      · refine itDP (is0.mpr bad.1) ?_
        refine ⟨_, rfl, rfl, _, rfl, iteNP (fun z => bad.2 ?_) (none_ (.inr (.inr ⟨by rw [hcr, bad.1]; rfl, bad.2⟩)))⟩
        rw [e0] at z
        exact Sg.inj (V.str.inj z)
      have nn : ¬(figW wd = [] ∨ 60 < (figW wd).length ∨ ((figW wd).head? = some 48 ∧ wd ≠ [48])) := by
        rintro (z | z | ⟨z1, z2⟩)
        · exact n1 z
        · exact n2 z
        · rw [hcr] at z1
          exact bad ⟨Option.some.inj z1, z2⟩
      have val : (figW wd).all isFig = true → ∃ z, PySem.intText? (Sg wd) = some z ∧ wd.length ≤ 61 := fun ha => by
        have hf : ∀ c ∈ figW wd, isFig c = true := fun c hc' => List.all_eq_true.mp ha c hc'
        by_cases hm : wd.take 1 = [45]
        · have ew : figW wd = wd.drop 1 := if_pos hm
          have ed : wd = 45 :: figW wd := by
            conv => lhs; rw [← List.take_append_drop 1 wd]
            rw [hm, ew]
            rfl
          refine ⟨-valF (figW wd), ?_, by rw [ed, List.length_cons]; omega⟩
          conv => lhs; rw [ed]
          exact neg_text hf n1 (by omega)
        · have ew : figW wd = wd := if_neg hm
          rw [ew] at hf n1 n2
          exact ⟨valF wd, val_text hf n1 (by omega), by omega⟩
      rcases Decidable.em (c = 48) with hc0 | hc0
      case' inl =>
        refine itDP (is0.mpr hc0) ?_
        refine ⟨_, rfl, rfl, _, rfl, iteNS (by rw [e0, Decidable.not_not.mp fun z => bad ⟨hc0, z⟩]) ?_⟩
      case' inr => refine itDN (fun z => hc0 (is0.mp z)) (iteF ?_)
      all_goals
        refine ⟨_, rfl, figW wd, rfl, cf, ?_⟩
        refine lc_signs rfl (fun c => !isFig c) (by omega) (fun c H1 R hcm s' hR => ?_) (fun c H1 R hR => ⟨_, rfl, hR⟩) (fun D H1 s1 eD => ?_)
        · refine ⟨_, rfl, Sg [c], figS, rfl, rfl, _, rfl, ?_⟩
          have hfi := fig_in c (cf c hcm)
          show R (!(!(Builtin.Str.occurrences figS ⟨#[c]⟩ 0 figS.length 1).isEmpty)) H1
          rw [hfi]
          exact hR
        · refine ⟨Nat.zero_le _, fun l0 hl0 => ?_⟩
          have s2 : Same H1 (L2.upd H1 l0 (.lst [])) := Same.upd hl0
          have ly := lay_sgs ((figW wd).filter fun c => !isFig c) fun c hc' => cf c (List.mem_filter.mp hc').1
          refine ⟨.list _, .list [], sg_list _ (s2 _ _ eD), .lst trivial (SqL.of upd_same) .nil, ⟨ly.1, rfl, ?_⟩, _, rfl, ?_⟩
          · simp only [PyData.depth, ly.2]
            decide
          · have fin := q _ (s1.trans s2)
            unfold numO at fin
            rw [if_neg nn] at fin
            by_cases ha : (figW wd).all isFig = true
            · have fe : (figW wd).filter (fun c => !isFig c) = [] := List.filter_eq_nil_iff.mpr fun c hc' => by rw [List.all_eq_true.mp ha c hc']; decide
              obtain ⟨z, hz', lz⟩ := val ha
              rw [if_pos ha, hz'] at fin
              rw [fe]
              refine iteF ?_
              exact ⟨_, rfl, Sg wd, z, rfl, hz', by rw [Sg.len]; omega, fin⟩
            · rw [if_neg ha] at fin
              have fe : (figW wd).filter (fun c => !isFig c) ≠ [] := fun z => ha (List.all_eq_true.mpr fun c hc' => by
                have := List.filter_eq_nil_iff.mp z c hc'
                simpa using this)
              obtain ⟨d, ds, hds⟩ : ∃ d ds, (figW wd).filter (fun c => !isFig c) = d :: ds := by
                cases hq : (figW wd).filter (fun c => !isFig c) with
                | nil => exact absurd hq fe
                | cons d ds => exact ⟨d, ds, rfl⟩
              rw [hds]
              exact iteT fin
end
section
variable {P : Program} {w : World} {K : PySem.W.Frag} {mg : Str → Option Value} {base : Heap}
theorem lc_filV {a : Addr} {xs : List V} {N : Nat} {tt : TT} {te : TE} {σ : L2.St} {H1 : Hp} {Q : VK} (hN : σ.length = N) (f : V → Bool) (ha : H1 a = some (.lst xs)) (hz : xs.length ≤ 90000)
    (ht : ∀ (v : V) (H' : Hp) (R : Bool → Hp → Prop), v ∈ xs → R (f v) H' → tt (σ ++ [some v]) H' R) (he : ∀ (v : V) (H' : Hp) (R : VK), R v H' → te (σ ++ [some v]) H' R)
    (hd : ∀ (D : Addr) (H' : Hp), Same H1 H' → H' D = some (.lst (xs.filter f)) → Q (.ref D) H') : LcW 1 (Itl K a) (gName N) tt te σ H1 Q := by
  subst hN
  intro D hD
  refine ⟨fun i m ys H' => m = xs.length - i ∧ i ≤ xs.length ∧ ys = (xs.take i).filter f ∧ Same H1 H' ∧ H' D = some (.lst ys), ⟨xs.length, by simp, Nat.zero_le _, rfl, Same.upd hD, upd_same⟩, ?_⟩
  rintro i m ys H2 ⟨rfl, hi, rfl, s2, eD⟩
  refine ⟨eD, ?_⟩
  by_cases hlt : i < xs.length
  · have hv : xs[i]? = some xs[i] := List.getElem?_eq_getElem hlt
    generalize xs[i] = v at hv
    refine .inr ⟨⟨_, _, SqL.of (s2 _ _ ha), hv⟩, ?_⟩
    rintro z H3 ⟨rfl, hz'⟩ os los
    have hz' := hz' _ (SqL.of (s2 _ _ ha))
    rw [hv] at hz'
    cases hz'
    match os, los with
    | [o], _ =>
      refine ⟨⟨[some v], set1S σ o _, rfl⟩, ?_⟩
      rw [set1S σ o _]
      have sn : (xs.take (i + 1)).filter f = (xs.take i).filter f ++ (if f v = true then [v] else []) := by
        rw [take_snoc hv, List.filter_append]
        congr 1
        by_cases e : f v = true
        · rw [List.filter_cons_of_pos e, if_pos e]; rfl
        · rw [List.filter_cons_of_neg e, if_neg e]; rfl
      have lr : ((xs.take i).filter f).length ≤ i := by
        refine Nat.le_trans (List.length_filter_le _ _) ?_
        rw [List.length_take]
        omega
      refine ht v _ _ (List.mem_of_getElem? hv) ?_
      by_cases e : f v = true
      · rw [if_pos e] at sn
        rw [e, if_pos rfl]
        exact he v _ _ ⟨eD, Nat.lt_of_le_of_lt (show _ ≤ 90000 by omega) (by decide), xs.length - (i + 1), by omega, rfl, hlt, sn.symm, s2.over hD, upd_same⟩
      · rw [if_neg e, List.append_nil] at sn
        have e' : f v = false := by simpa using e
        rw [e', if_neg (by decide)]
        exact ⟨xs.length - (i + 1), by omega, rfl, hlt, sn.symm, s2, eD⟩
  · have : i = xs.length := by omega
    subst this
    rw [List.take_length] at eD
    exact .inl ⟨⟨_, SqL.of (s2 _ _ ha), Nat.le_refl _⟩, hd D H2 s2 eD⟩
def isNonV : V → Bool
  | .non => true
  | _ => false
abbrev nNums : List Str := ["_law_row", "_law_word", "_law_words", "_law_numbers_here"]
theorem scNums : FnScope nNums ["_law_row", "_law_word"] (defScope sNums) := ⟨rfl, rfl, rfl, by decide +kernel, rfl, by decide +kernel, by decide +kernel⟩
theorem lcNums1 : LcScopes (defScope sNums) nNums (lcScope (asgVal (bodyAt sNums 1))) ["_law_one"] := ⟨by decide +kernel, rfl, by decide +kernel, by decide +kernel, by decide +kernel, by decide +kernel, by decide +kernel, by decide +kernel, by decide +kernel, by decide +kernel⟩
def orR2 (s : Stmt) : Expr := match s with
  | .If (.BoolOp _ [_, .Compare a _ _ _] _) _ _ _ => a
  | _ => .Constant .none 0 ⟨0, 0, 0, 0⟩
theorem lcNums2 : LcScopes (defScope sNums) nNums (lcScope (orR2 (bodyAt sNums 2))) ["_law_one"] := ⟨by decide +kernel, rfl, by decide +kernel, by decide +kernel, by decide +kernel, by decide +kernel, by decide +kernel, by decide +kernel, by decide +kernel, by decide +kernel⟩
theorem cut_one (x : V) (xs : List V) : cutV (x :: xs) (some 1) none = xs := by
  unfold cutV
  have h : HT.sIx (x :: xs).length 0 (some 1) = 1 := by
    unfold HT.sIx
    simp
    try omega
  have h2 : HT.sIx (x :: xs).length (x :: xs).length none = (x :: xs).length := rfl
  rw [h, h2]
  simp
theorem das_nons {H : Hp} : ∀ xs : List V, (∀ v ∈ xs, isNonV v = true) → DAs K any H xs (xs.map fun _ => PyData.none)
  | [], _ => .nil
  | v :: xs, h => by
    have hv := h v List.mem_cons_self
    cases v with
    | non => exact .cons .non (das_nons xs fun v hv => h v (List.mem_cons_of_mem _ hv))
    | _ => cases hv
theorem lay_nons : ∀ xs : List V, PyData.canLayAll0 (xs.map fun _ => PyData.none) = true ∧ PyData.depthAll (xs.map fun _ => PyData.none) = 0
  | [] => ⟨rfl, rfl⟩
  | v :: xs => by
    obtain ⟨h1, h2⟩ := lay_nons xs
    simp only [List.map_cons, PyData.canLayAll0, PyData.depthAll, PyData.canLay0, PyData.depth, h1, h2, Bool.and_self, Nat.max_self, and_self]
def spNums : Sp := fun vs H Q _ => ∃ (row word : List Nat), vs = [.str (Sg row), .str (Sg word)] ∧ row.length ≤ 80000 ∧ (∀ c ∈ row, c < 128) ∧ (numsO row word = none → ∀ H', Same H H' → Q .non H') ∧
  ∀ zs, numsO row word = some zs → ∀ D H', Same H H' → H' D = some (.lst (zs.map V.int)) → H D = none → Q (.ref D) H'
theorem ok_nums {f fN : Addr} {fd fdN : FuncData} (F : Fun K "_law_numbers" "_law_numbers" sNums f fd) (DN : Dn K mg "_law_number_of" sNumOf ["_law_word"] fN fdN) (GN : FnOk P w K mg base CX0 1 fN fdN ["_law_word"] spNumOf) : FnOk P w K mg base CX0 2 f fd ["_law_row", "_law_word"] spNums := by
  refine F.ok scNums (fun vs H Q E h => ?_) (fun cdv A outer s H vs Q E hr h => ?_)
  · obtain ⟨row, word, rfl, _⟩ := h
    rfl
  · obtain ⟨row, word, rfl, hz, hc, q0, q1⟩ := h
    refine ⟨_, pss_cons (ps_set (i := 2) scNums.nd rfl (Or.inl rfl) (pe_bm PySem.F.plainAttrs_str PySem.F.slot_str_split PySem.F.type_str_split mt_split (pv 0) (pa_cons pe_str pa_nil)))
      (pss_cons (ps_setLc1 (i := 3) scNums.nd rfl (Or.inl rfl) rfl lcNums1 rfl (pi_list (pe_slice sl_list (pv 2) (po_some pe_int) po_none)) (fun _ _ _ => pe_fn DN GN hr rfl (pa_cons (pv 4) pa_nil)))
      (pss_cons (ps_if (PW.pt (pw_or (pt_cmpR op_ne (pe_ix ix_list (pv 2) pe_int (fun _ _ => rfl)) (pv 1) (nomark _)) (pw_or1 (pt_cmpR (op_neD hr.units) (pe_lcs rfl lcNums2 rfl (pi_list (pv 3)) (pg_one lcNums2) (fun _ _ _ => pts_one (pt_cmpR op_isN (pv 4) pe_non (nomark _))) (fun _ _ _ => pv 4)) (pe_lst pa_nil) (nomark _))))) (pss_one (ps_ret pe_non)) pss_nil)
      (pss_one (ps_ret (pv 3))))), ?_⟩
    refine ⟨_, rfl, rfl, row, [32], rfl, by rw [lit_blank], by simp, by omega, fun D0 hD0 => ?_⟩
    obtain ⟨w0, ws, hws⟩ : ∃ w0 ws, splL row [32] = w0 :: ws := by
      cases hq : splL row [32] with
      | nil => exact absurd hq (spl_ne _ _)
      | cons w0 ws => exact ⟨w0, ws, rfl⟩
    have gl := splL_glue row [32]
    rw [hws, glue_words] at gl
    have inRow : ∀ v ∈ ws, ∀ c ∈ v, c ∈ row := fun v hv c hc' => by
      rw [← gl]
      exact List.mem_append_right _ (List.mem_flatMap.mpr ⟨v, hv, List.mem_cons_of_mem _ hc'⟩)
    have lenW : ∀ v ∈ ws, v.length ≤ row.length := fun v hv => by
      rw [← gl, List.length_append]
      have : v.length ≤ (wordsT ws).length := by
        obtain ⟨a, b, rfl⟩ := List.append_of_mem hv
        unfold wordsT
        rw [List.flatMap_append, List.flatMap_cons]
        simp only [List.length_append, List.length_cons]
        omega
      omega
    have lws : ws.length ≤ row.length := by
      rw [← gl, List.length_append]
      have : ∀ l : List (List Nat), l.length ≤ (wordsT l).length := fun l => by
        induction l with
        | nil => exact Nat.le_refl _
        | cons v l ih => unfold wordsT at ih ⊢; rw [List.flatMap_cons]; simp only [List.length_append, List.length_cons]; omega
      have := this ws
      omega
    rw [hws]
    have s0 : Same H (L2.upd H D0 (.lst ((w0 :: ws).map fun l => V.str (Sg l)))) := Same.upd hD0
    have e0 : L2.upd H D0 (.lst ((w0 :: ws).map fun l => V.str (Sg l))) D0 = some (.lst ((w0 :: ws).map fun l => V.str (Sg l))) := upd_same
    generalize L2.upd H D0 (.lst ((w0 :: ws).map fun l => V.str (Sg l))) = Ha at s0 e0 ⊢
    refine ⟨_, rfl, 1, rfl, D0, _, rfl, SqL.of e0, fun p0 hp0 => ?_⟩
    rw [List.map_cons, cut_one]
    have s1 : Same Ha (L2.upd Ha p0 (.lst (ws.map fun l => V.str (Sg l)))) := Same.upd hp0
    have e1 : L2.upd Ha p0 (.lst (ws.map fun l => V.str (Sg l))) p0 = some (.lst (ws.map fun l => V.str (Sg l))) := upd_same
    generalize L2.upd Ha p0 (.lst (ws.map fun l => V.str (Sg l))) = Hb at s1 e1 ⊢
    refine ⟨p0, rfl, ⟨_, SqL.of e1⟩, fun D hD => ?_⟩
    have nH : H D = none := by
      cases hq : H D with
      | none => rfl
      | some o => rw [s1 _ _ (s0 _ _ hq)] at hD; cases hD
    refine lc_list (K := K) (xs := ws.map fun l => V.str (Sg l)) (fun i ys H' => ys = (ws.take i).map (fun v => numV (numO v)) ∧ Same Hb H' ∧ H' D = some (.lst ys)) ⟨rfl, Same.upd hD, upd_same⟩ (fun i ys H' _ ⟨_, s', e'⟩ => ⟨SqL.of (s' _ _ e1), e'⟩) ?_ ?_ ?_
    · rintro i v ys H' hv ⟨rfl, s', e'⟩
      obtain ⟨wd, hwd, rfl⟩ := map_get hv
      have hm := List.mem_of_getElem? hwd
      refine ⟨_, rfl, wd, rfl, by have := lenW wd hm; omega, fun c hc' => hc c (inRow wd hm c hc'), fun H2 s2 => ⟨s2 _ _ e', Nat.lt_of_le_of_lt (show _ ≤ 90000 by rw [List.length_map, List.length_take]; omega) (by decide), ?_, (s'.trans s2).over hD, upd_same⟩⟩
      rw [take_snoc hwd, List.map_append]
      rfl
    · rintro ys H1 ⟨rfl, s2, e2⟩
      rw [List.length_map, List.take_length] at e2
      have s02 := (s0.trans s1).trans s2
      refine ⟨_, rfl, D0, _, _, .str (Sg w0), rfl, rfl, SqL.of (s2 _ _ (s1 _ _ e0)), atI_nat (j := 0) rfl, _, rfl, rfl, _, rfl, ?_⟩
      by_cases hw : w0 = word
      · refine iteNS (by rw [hw]) ?_
        refine ⟨_, rfl, D, rfl, ⟨_, SqL.of e2⟩, ?_⟩
        refine lc_filV rfl isNonV e2 (by rw [List.length_map]; omega) (fun v H' R hv hR => ⟨_, rfl, rfl, _, rfl, ?_⟩) (fun v H' R hR => ⟨_, rfl, hR⟩) (fun G H2 s3 eG => ?_)
        · have : decide (v = V.non) = isNonV v := by cases v <;> rfl
          rw [this]
          exact hR
        · refine ⟨Nat.zero_le _, fun l0 hl0 => ?_⟩
          have s4 : Same H2 (L2.upd H2 l0 (.lst [])) := Same.upd hl0
          have ly := lay_nons ((ws.map fun v => numV (numO v)).filter isNonV)
          refine ⟨.list _, .list [], .lst trivial (SqL.of (s4 _ _ eG)) (das_nons _ fun v hv => (List.mem_filter.mp hv).2), .lst trivial (SqL.of upd_same) .nil, ⟨ly.1, rfl, ?_⟩, _, rfl, ?_⟩
          · simp only [PyData.depth, ly.2]
            decide
          · by_cases all : (ws.map numO).all Option.isSome = true
            · have fe : (ws.map fun v => numV (numO v)).filter isNonV = [] := List.filter_eq_nil_iff.mpr fun v hv => by
                obtain ⟨wd, hwd, rfl⟩ := List.mem_map.mp hv
                have := List.all_eq_true.mp all (numO wd) (List.mem_map.mpr ⟨wd, hwd, rfl⟩)
                cases hq : numO wd with
                | none => rw [hq] at this; cases this
                | some z => exact fun y => by cases y
              rw [fe]
              refine iteF ?_
              have en : numsO row word = some (ws.map fun v => (numO v).getD 0) := by
                unfold numsO
                rw [hws]
                exact if_pos ⟨hw, all⟩
              refine ⟨_, rfl, q1 _ en D _ (s02.trans (s3.trans s4)) ?_ nH⟩
              have ev : (ws.map fun v => (numO v).getD 0).map V.int = ws.map fun v => numV (numO v) := by
                rw [List.map_map]
                refine List.map_congr_left fun v hv => ?_
                have := List.all_eq_true.mp all (numO v) (List.mem_map.mpr ⟨v, hv, rfl⟩)
                show V.int ((numO v).getD 0) = numV (numO v)
                cases hq : numO v with
                | none => rw [hq] at this; cases this
                | some z => rfl
              rw [ev]
              exact s4 _ _ (s3 _ _ e2)
            · have en : numsO row word = none := by
                unfold numsO
                rw [hws]
                exact if_neg fun z => all z.2
              have fe : (ws.map fun v => numV (numO v)).filter isNonV ≠ [] := fun z => all (List.all_eq_true.mpr fun o ho => by
                obtain ⟨v, hv, rfl⟩ := List.mem_map.mp ho
                have := List.filter_eq_nil_iff.mp z (numV (numO v)) (List.mem_map.mpr ⟨v, hv, rfl⟩)
                cases hq : numO v with
                | none => rw [hq] at this; exact absurd rfl this
                | some z => rfl)
              obtain ⟨d, ds, hds⟩ : ∃ d ds, (ws.map fun v => numV (numO v)).filter isNonV = d :: ds := by
                cases hq : (ws.map fun v => numV (numO v)).filter isNonV with
                | nil => exact absurd hq fe
                | cons d ds => exact ⟨d, ds, rfl⟩
              rw [hds]
              exact iteT (q0 en _ (s02.trans (s3.trans s4)))
      · refine iteNP (fun z => hw (Sg.inj (V.str.inj z))) ?_
        refine q0 ?_ H1 s02
        unfold numsO
        rw [hws]
        exact if_neg fun z => hw z.1
    · rintro σ H' Q1 Q2 hq ⟨v, e, wd, e2, h1, h2, k⟩
      exact ⟨v, e, wd, e2, h1, h2, fun H3 s3 => hq _ _ (k H3 s3)⟩
end
section
variable {P : Program} {w : World} {K : PySem.W.Frag} {mg : Str → Option Value} {base : Heap}
def lastOr (s : Stmt) : Expr := match s with
  | .If (.BoolOp _ [_, _, _, .Compare a _ _ _] _) _ _ _ => a
  | _ => .Constant .none 0 ⟨0, 0, 0, 0⟩
def belowV : V → Bool
  | .int i => decide (i < 0)
  | _ => false
abbrev nWebOf : List Str := ["_law_text_here", "_law_rows", "_law_hues", "_law_found", "_law_row", "_law_weights", "_law_u", "_law_v"]
theorem scWebOf : FnScope nWebOf ["_law_text_here"] (defScope sWebOf) := ⟨rfl, rfl, rfl, by decide +kernel, rfl, by decide +kernel, by decide +kernel⟩
theorem lcWebOf : LcScopes (defScope sWebOf) nWebOf (lcScope (lastOr (bodyAt sWebOf 2))) ["_law_hue"] := ⟨by decide +kernel, rfl, by decide +kernel, by decide +kernel, by decide +kernel, by decide +kernel, by decide +kernel, by decide +kernel, by decide +kernel, by decide +kernel⟩
theorem below_map (hs : List Int) : (hs.map V.int).filter belowV = (hs.filter fun z => decide (z < 0)).map V.int := by
  induction hs with
  | nil => rfl
  | cons z hs ih =>
    rw [List.map_cons, List.filter_cons, List.filter_cons, ih]
    show (if decide (z < 0) = true then _ else _) = _
    split <;> simp
def spWebOf : Sp := fun vs H Q _ => ∃ t : List Nat, vs = [.str (Sg t)] ∧ t.length ≤ 80000 ∧ (∀ c ∈ t, c < 128) ∧
  (∀ hs M, WebOk t hs M → hs.length ≤ 8 → due hs M = none → ∀ p H', Same H H' → WR H' p hs M → Q (.ref p) H') ∧ ((∀ hs M, WebOk t hs M → hs.length ≤ 8 → due hs M = none → False) → ∀ H', Same H H' → Q .non H')
theorem ok_webOf {f fN : Addr} {fd fdN : FuncData} (B : BltX mg) (F : Fun K "_law_web_of" "_law_web_of" sWebOf f fd) (DN : Dn K mg "_law_numbers" sNums ["_law_row", "_law_word"] fN fdN) (GN : FnOk P w K mg base CX0 2 fN fdN ["_law_row", "_law_word"] spNums) : FnOk P w K mg base CX0 3 f fd ["_law_text_here"] spWebOf := by
  refine F.ok scWebOf (fun vs H Q E h => ?_) (fun cdv A outer s H vs Q E hr h => ?_)
  · obtain ⟨t, rfl, _⟩ := h
    rfl
  · obtain ⟨t, rfl, hz, hc, q1, q0⟩ := h
    refine ⟨_, pss_cons (ps_set (i := 1) scWebOf.nd rfl (Or.inl rfl) (pe_bm PySem.F.plainAttrs_str PySem.F.slot_str_split PySem.F.type_str_split mt_split (pv 0) (pa_cons pe_str pa_nil)))
      (pss_cons (ps_set (i := 2) scWebOf.nd rfl (Or.inl rfl) (pe_fn DN GN hr rfl (pa_cons (pe_ix ix_list (pv 1) pe_int (fun _ _ => rfl)) (pa_cons pe_str pa_nil))))
      (pss_cons (ps_if (PW.pt (pw_or (pt_cmpR op_isN (pv 2) pe_non (nomark _)) (pw_or (pt_cmpR op_gt (pe_callB call_len_seq (by rfl) B.len PySem.boot_len (pa_cons (pv 2) pa_nil)) pe_int (nomark _)) (pw_or (pt_cmpR op_ne (pe_callB call_len_seq (by rfl) B.len PySem.boot_len (pa_cons (pv 1) pa_nil)) (pe_op op_add (pe_callB call_len_seq (by rfl) B.len PySem.boot_len (pa_cons (pv 2) pa_nil)) pe_int) (nomark _))
        (pw_or1 (pt_cmpR (op_neD hr.units) (pe_lcs rfl lcWebOf rfl (pi_list (pv 2)) (pg_one lcWebOf) (fun _ _ _ => pts_one (pt_cmpR op_lt (pv 8) pe_int (nomark _))) (fun _ _ _ => pv 8)) (pe_lst pa_nil) (nomark _))))))) (pss_one (ps_ret pe_non)) pss_nil)
      (pss_cons (ps_set (i := 3) scWebOf.nd rfl (Or.inl rfl) (pe_lst pa_nil))
      (pss_cons (ps_for PassesOwn.never rfl (pi_list (pe_slice sl_list (pv 1) (po_some pe_int) po_none)) (pg_name (i := 4) scWebOf.nd rfl (Or.inl rfl))
        (pss_cons (ps_set (i := 5) scWebOf.nd rfl (Or.inl rfl) (pe_fn DN GN hr rfl (pa_cons (pv 4) (pa_cons pe_str pa_nil))))
        (pss_cons (ps_if (PW.pt (pw_or (pt_cmpR op_isN (pv 5) pe_non (nomark _)) (pw_or1 (pt_cmpR op_ne (pe_callB call_len_seq (by rfl) B.len PySem.boot_len (pa_cons (pv 5) pa_nil)) (pe_callB call_len_seq (by rfl) B.len PySem.boot_len (pa_cons (pv 2) pa_nil)) (nomark _))))) (pss_one (ps_ret pe_non)) pss_nil)
        (pss_one (ps_expr (pe_bm PySem.F.plainAttrs_list PySem.F.slot_list_append PySem.F.type_list_append mt_append (pv 3) (pa_cons (pv 5) pa_nil)))))))
      (pss_cons (ps_for PassesOwn.never rfl (pi_range1 rfl B.range (pa_cons (pe_callB call_len_seq (by rfl) B.len PySem.boot_len (pa_cons (pv 2) pa_nil)) pa_nil)) (pg_name (i := 6) scWebOf.nd rfl (Or.inl rfl))
        (pss_one (ps_for PassesOwn.never rfl (pi_range1 rfl B.range (pa_cons (pv 6) pa_nil)) (pg_name (i := 7) scWebOf.nd rfl (Or.inl rfl))
          (pss_one (ps_if (pt_cmpR op_ne (pe_ix ix_list (pe_ix ix_list (pv 3) (pv 6) (fun _ _ => rfl)) (pv 7) (fun _ _ => rfl)) (pe_ix ix_list (pe_ix ix_list (pv 3) (pv 7) (fun _ _ => rfl)) (pv 6) (fun _ _ => rfl)) (nomark _)) (pss_one (ps_ret pe_non)) pss_nil)))))
      (pss_one (ps_ret (pe_tup (pa_cons (pv 2) (pa_cons (pv 3) pa_nil)))))))))), ?_⟩
    refine ⟨_, rfl, rfl, t, [59, 32], rfl, by rw [lit_semi], by simp, by omega, fun D0 hD0 => ?_⟩
    obtain ⟨r0, rs, hrs⟩ : ∃ r0 rs, splL t [59, 32] = r0 :: rs := by
      cases hq : splL t [59, 32] with
      | nil => exact absurd hq (spl_ne _ _)
      | cons r0 rs => exact ⟨r0, rs, rfl⟩
    have gl := splL_glue t [59, 32]
    rw [hrs, glue_rows] at gl
    have pc : ∀ r ∈ r0 :: rs, (∀ c ∈ r, c ∈ t) ∧ r.length ≤ t.length := fun r hr' => by
      rcases List.mem_cons.mp hr' with rfl | hr'
      · exact ⟨fun c hc' => by rw [← gl]; exact List.mem_append_left _ hc', by rw [← gl, List.length_append]; omega⟩
      · refine ⟨fun c hc' => by rw [← gl]; exact List.mem_append_right _ (List.mem_flatMap.mpr ⟨r, hr', List.mem_append_right _ hc'⟩), ?_⟩
        rw [← gl, List.length_append]
        obtain ⟨a, b, rfl⟩ := List.append_of_mem hr'
        unfold rowsT
        rw [List.flatMap_append, List.flatMap_cons]
        simp only [List.length_append, List.length_cons]
        omega
    have lrs : rs.length ≤ t.length := by
      rw [← gl, List.length_append]
      have : ∀ l : List (List Nat), l.length ≤ (rowsT l).length := fun l => by
        induction l with
        | nil => exact Nat.le_refl _
        | cons v l ih => unfold rowsT at ih ⊢; rw [List.flatMap_cons]; simp only [List.length_append, List.length_cons]; omega
      have := this rs
      omega
    have law : ∀ hs M, WebOk t hs M → numsO r0 [104, 117, 101, 115] = some hs ∧ rs.map (fun r => numsO r [114, 111, 119]) = M.map some := fun hs M W => by
      obtain ⟨r, rs', e, h1, h2⟩ := web_law.mp W
      rw [hrs] at e
      cases e
      exact ⟨h1, h2⟩
    rw [hrs]
    have s0 : Same H (L2.upd H D0 (.lst ((r0 :: rs).map fun l => V.str (Sg l)))) := Same.upd hD0
    have e0 : L2.upd H D0 (.lst ((r0 :: rs).map fun l => V.str (Sg l))) D0 = some (.lst ((r0 :: rs).map fun l => V.str (Sg l))) := upd_same
    generalize L2.upd H D0 (.lst ((r0 :: rs).map fun l => V.str (Sg l))) = Ha at s0 e0 ⊢
    obtain ⟨p1, p2⟩ := pc r0 List.mem_cons_self
    refine ⟨_, rfl, D0, _, _, .str (Sg r0), rfl, rfl, SqL.of e0, atI_nat (j := 0) rfl, r0, [104, 117, 101, 115], by rw [lit_hues]; rfl, by omega, fun c hc' => hc c (p1 c hc'), fun hn H1 s1 => ?_, fun hs hn hD H1 s1 eH nH => ?_⟩
    · refine ⟨_, rfl, rfl, _, rfl, itDP rfl ?_⟩
      exact q0 (fun hs M W _ _ => by rw [(law hs M W).1] at hn; cases hn) H1 (s0.trans s1)
    have one : ∀ hs' M, WebOk t hs' M → hs' = hs := fun hs' M W => by
      have := (law hs' M W).1
      rw [hn] at this
      exact (Option.some.inj this).symm
    have s01 := s0.trans s1
    refine ⟨_, rfl, rfl, _, rfl, itDN (fun z => by cases z) ?_⟩
    refine ⟨_, rfl, hD, _, rfl, .inl (SqL.of eH), _, _, rfl, rfl, _, rfl, ?_⟩
    rw [List.length_map]
    by_cases h8 : hs.length ≤ 8
    rotate_left
    · exact itDP (by omega) (q0 (fun hs' M W h8' _ => h8 (by rw [← one hs' M W]; exact h8')) H1 s01)
    refine itDN (by omega) ?_
    refine ⟨_, rfl, D0, _, rfl, .inl (SqL.of (s1 _ _ e0)), _, rfl, hD, _, rfl, .inl (SqL.of eH), _, _, rfl, rfl, rfl, _, rfl, ?_⟩
    rw [List.length_map, List.length_map]
    by_cases hl : rs.length = hs.length
    rotate_left
    · refine iteNP (fun z => hl (by have := V.int.inj z; simp at this; omega)) ?_
      refine q0 (fun hs' M W _ hd => hl ?_) H1 s01
      have e1 := congrArg List.length (law hs' M W).2
      rw [List.length_map, List.length_map, (due_none.mp hd).1, one hs' M W] at e1
      exact e1
    refine iteNS (by show V.int ((r0 :: rs).length : Int) = V.int ((hs.length : Int) + 1); rw [List.length_cons, hl]; rfl) ?_
    refine ⟨_, rfl, hD, rfl, ⟨_, SqL.of eH⟩, ?_⟩
    refine lc_filV rfl belowV eH (by rw [List.length_map]; omega) (fun v H' R hv hR => ?_) (fun v H' R hR => ⟨_, rfl, hR⟩) (fun G H2 s2 eG => ?_)
    · obtain ⟨z, _, rfl⟩ := List.mem_map.mp hv
      exact ⟨_, rfl, _, _, rfl, rfl, _, rfl, hR⟩
    rw [below_map] at eG
    refine ⟨Nat.zero_le _, fun l0 hl0 => ?_⟩
    have s3 : Same H2 (L2.upd H2 l0 (.lst [])) := Same.upd hl0
    have e3 : L2.upd H2 l0 (.lst []) l0 = some (.lst []) := upd_same
    generalize L2.upd H2 l0 (.lst []) = H3 at s3 e3 ⊢
    have s03 := (s01.trans s2).trans s3
    refine ⟨dI _, dI [], daI trivial (SqL.of (s3 _ _ eG)), daI trivial (SqL.of e3), ⟨(lay_dI _).1, (lay_dI _).1, Nat.le_trans (lay_dI _).2 (by decide)⟩, _, rfl, ?_⟩
    rw [eqv_dI]
    by_cases hneg : (hs.filter fun z => decide (z < 0)) = []
    rotate_left
    · rw [decide_eq_false hneg]
      refine iteT (q0 (fun hs' M W _ hd => hneg ?_) H3 s03)
      rw [← one hs' M W]
      refine List.filter_eq_nil_iff.mpr fun z hz' => ?_
      have := (due_none.mp hd).2.1 z hz'
      rw [decide_eq_true_iff]
      omega
    rw [decide_eq_true hneg]
    refine iteF ?_
    have pos : ∀ z ∈ hs, 0 ≤ z := fun z hz' => by
      have := List.filter_eq_nil_iff.mp hneg z hz'
      rw [decide_eq_true_iff] at this
      omega
    have s13 := s2.trans s3
    refine ⟨Nat.zero_le _, fun FA hFA => ?_⟩
    have s4 : Same H3 (L2.upd H3 FA (.lst [])) := Same.upd hFA
    have e4 : L2.upd H3 FA (.lst []) FA = some (.lst (([] : List Addr).map V.ref)) := upd_same
    generalize L2.upd H3 FA (.lst []) = H4 at s4 e4 ⊢
    have s14 := s13.trans s4
    refine ⟨_, rfl, 1, rfl, D0, _, rfl, SqL.of (s14 _ _ (s1 _ _ e0)), fun p0 hp0 => ?_⟩
    rw [List.map_cons, cut_one]
    have s5 : Same H4 (L2.upd H4 p0 (.lst (rs.map fun l => V.str (Sg l)))) := Same.upd hp0
    have e5 : L2.upd H4 p0 (.lst (rs.map fun l => V.str (Sg l))) p0 = some (.lst (rs.map fun l => V.str (Sg l))) := upd_same
    have n5 : p0 ≠ FA := fun z => by rw [z, e4] at hp0; cases hp0
    generalize L2.upd H4 p0 (.lst (rs.map fun l => V.str (Sg l))) = H5 at s5 e5 ⊢
    have s15 := s14.trans s5
    have s05 := s01.trans s15
    have eH5 := s15 _ _ eH
    have nHF : hD ≠ FA := fun z => by rw [z] at eH; rw [s13 _ _ eH] at hFA; cases hFA
    refine ⟨p0, rfl, ⟨_, SqL.of e5⟩, for_list (xs := rs.map fun l => V.str (Sg l)) (fun i σ H' => ∃ (o4 o5 : Option V) (as : List Addr) (Y : List (List Int)), σ = [some (.str (Sg t)), some (.ref D0), some (.ref hD), some (.ref FA), o4, o5, none, none] ∧ But FA H5 H' ∧ H' FA = some (.lst (as.map V.ref)) ∧ RowsAt H' as Y ∧ (∀ x ∈ as, H5 x = none ∧ x ≠ FA) ∧ (rs.take i).map (fun r => numsO r [114, 111, 119]) = Y.map some ∧ ∀ y ∈ Y, y.length = hs.length) ⟨_, _, [], [], rfl, fun _ _ _ z => z, s5 _ _ e4, ⟨rfl, (fun i r x h _ => by cases h), List.nodup_nil⟩, (fun x h => by cases h), rfl, fun y h => by cases h⟩ (fun i σ H' _ ⟨_, _, _, _, _, b, _⟩ => SqL.of (b _ _ n5 e5)) ?_ ?_⟩
    · rintro i x σ H6 hx ⟨o4, o5, as, Y, rfl, b6, e6, A6, f6, m6, l6⟩
      obtain ⟨r, hr', rfl⟩ := map_get hx
      have rm := List.mem_of_getElem? hr'
      obtain ⟨p1, p2⟩ := pc r (List.mem_cons_of_mem _ rm)
      have s06 : Same H H6 := fun b o z => b6 b o (fun y => by rw [y] at z; rw [(s01.trans s13) _ _ z] at hFA; cases hFA) (s05 b o z)
      have nHp : hD ≠ FA := nHF
      have rowM : ∀ hs' M, WebOk t hs' M → ∃ m ∈ M, numsO r [114, 111, 119] = some m := fun hs' M W => by
        have := List.mem_map_of_mem (f := fun r => numsO r [114, 111, 119]) rm
        rw [(law hs' M W).2] at this
        obtain ⟨m, h1, h2⟩ := List.mem_map.mp this
        exact ⟨m, h1, h2.symm⟩
      refine ⟨_, rfl, r, [114, 111, 119], by rw [lit_row]; rfl, by omega, fun c hc' => hc c (p1 c hc'), fun hn6 H7 s7 => ?_, fun zs hn6 nA H7 s7 e7 n7 => ?_⟩
      · refine ⟨_, rfl, rfl, _, rfl, itDP rfl ?_⟩
        refine q0 (fun hs' M W _ _ => ?_) H7 (s06.trans s7)
        obtain ⟨m, _, h2⟩ := rowM hs' M W
        rw [hn6] at h2
        cases h2
      have eH7 := s7 _ _ (b6 _ _ nHF eH5)
      refine ⟨_, rfl, rfl, _, rfl, itDN (fun z => by cases z) ?_⟩
      refine ⟨_, rfl, nA, _, rfl, .inl (SqL.of e7), _, rfl, hD, _, rfl, .inl (SqL.of eH7), rfl, _, rfl, ?_⟩
      rw [List.length_map, List.length_map]
      by_cases hz6 : zs.length = hs.length
      rotate_left
      · refine iteNP (fun z => hz6 (by have := V.int.inj z; omega)) ?_
        refine q0 (fun hs' M W _ hd => hz6 ?_) H7 (s06.trans s7)
        obtain ⟨m, h1, h2⟩ := rowM hs' M W
        rw [hn6] at h2
        cases h2
        rw [(due_none.mp hd).2.2.1 zs h1, one hs' M W]
      refine iteNS (by rw [hz6]) ?_
      have e7F := s7 _ _ e6
      have nAF : nA ≠ FA := fun z => by rw [z, e6] at n7; cases n7
      refine ⟨_, rfl, .inl ⟨rfl, _, SqL.of e7F⟩, _, rfl, FA, _, _, rfl, rfl, e7F, Nat.lt_of_le_of_lt (show (as.map V.ref).length ≤ 90000 from ?_) (by decide), ?_⟩
      · have := congrArg List.length m6
        rw [List.length_map, List.length_map, List.length_take] at this
        rw [List.length_map, A6.len]
        omega
      refine ⟨_, _, as ++ [nA], Y ++ [zs], rfl, fun b o hb z => by rw [upd_ne hb]; exact s7 _ _ (b6 b o hb z), by rw [List.map_append]; exact upd_same, ?_, fun x hx => ?_, ?_, fun y hy => ?_⟩
      · refine A6.snoc (fun r hr o z => by rw [upd_ne (f6 r hr).2]; exact s7 _ _ z) (by rw [upd_ne nAF]; exact e7) fun z => ?_
        obtain ⟨o, ho⟩ := rows_some A6 z
        rw [ho] at n7
        cases n7
      · rcases List.mem_append.mp hx with z | z
        · exact f6 x z
        · rw [List.mem_singleton.mp z]
          refine ⟨?_, nAF⟩
          cases hq : H5 nA with
          | none => rfl
          | some o => rw [b6 nA o nAF hq] at n7; cases n7
      · rw [take_snoc hr', List.map_append, m6, List.map_append, List.map_singleton, hn6]
        rfl
      · rcases List.mem_append.mp hy with z | z
        · exact l6 y z
        · rw [List.mem_singleton.mp z]; exact hz6
    · rintro σ H6 ⟨o4, o5, as, Y, rfl, b6, e6, A6, f6, m6, l6⟩
      have s06 : Same H H6 := fun b o z => b6 b o (fun y => by rw [y] at z; rw [(s01.trans s13) _ _ z] at hFA; cases hFA) (s05 b o z)
      have eH6 := b6 _ _ nHF eH5
      rw [List.length_map, List.take_length] at m6
      have W0 : WebOk t hs Y := web_law.mpr ⟨r0, rs, hrs, hn, m6⟩
      have lY : Y.length = hs.length := by
        have := congrArg List.length m6
        rw [List.length_map, List.length_map] at this
        omega
      have oneM : ∀ hs' M, WebOk t hs' M → M = Y := fun hs' M W => by
        have := (law hs' M W).2
        rw [m6] at this
        exact ((List.map_inj_right fun _ _ => Option.some.inj).mp this).symm
      refine ⟨_, rfl, hD, _, rfl, .inl (SqL.of eH6), ?_⟩
      rw [List.length_map]
      refine ⟨(hs.length : Int), rfl, by omega, by omega, for_range (n := hs.length) (fun i σ H' => ∃ o6 o7 : Option V, σ = [some (.str (Sg t)), some (.ref D0), some (.ref hD), some (.ref FA), o4, o5, o6, o7] ∧ H' = H6 ∧ ∀ u < i, ∀ v < u, ent Y u v = ent Y v u) ⟨_, _, rfl, rfl, fun u hu => by omega⟩ ?_ ?_⟩
      · rintro u σ H7 hu ⟨o6, o7, rfl, rfl, hp⟩
        refine ⟨_, rfl, (0 + (u : Nat) : Int), rfl, by omega, by omega, ?_⟩
        rw [show (0 + (u : Nat) : Int).toNat = u by omega]
        refine for_range (n := u) (fun v σ H' => ∃ o7 : Option V, σ = [some (.str (Sg t)), some (.ref D0), some (.ref hD), some (.ref FA), o4, o5, some (.int (0 + (u : Nat) : Int)), o7] ∧ H' = H7 ∧ ∀ v' < v, ent Y u v' = ent Y v' u) ⟨_, rfl, rfl, fun v hv => by omega⟩ ?_ ?_
        · rintro v σ H8 hv ⟨o7, rfl, rfl, hq⟩
          obtain ⟨ru, xu, k1, gu, k3⟩ := A6.get (i := u) (by rw [A6.len]; omega)
          obtain ⟨rv, xv, m1, gv, m3⟩ := A6.get (i := v) (by rw [A6.len]; omega)
          have lu := l6 xu (List.mem_of_getElem? gu)
          have lv := l6 xv (List.mem_of_getElem? gv)
          have a1 : atI (as.map V.ref) (0 + (u : Nat) : Int) = some (.ref ru) := by rw [Int.zero_add]; exact at_ref k1
          have a2 : atI (xu.map V.int) (0 + (v : Nat) : Int) = some (.int (ent Y u v)) := by rw [Int.zero_add]; exact at_ent gu (by omega)
          have a3 : atI (as.map V.ref) (0 + (v : Nat) : Int) = some (.ref rv) := by rw [Int.zero_add]; exact at_ref m1
          have a4 : atI (xv.map V.int) (0 + (u : Nat) : Int) = some (.int (ent Y v u)) := by rw [Int.zero_add]; exact at_ent gv (by omega)
          refine ⟨_, rfl, _, rfl, FA, _, _, _, rfl, rfl, SqL.of e6, a1, _, rfl, ru, _, _, _, rfl, rfl, SqL.of k3, a2, _, rfl, _, rfl, FA, _, _, _, rfl, rfl, SqL.of e6, a3, _, rfl, rv, _, _, _, rfl, rfl, SqL.of m3, a4, rfl, _, rfl, ?_⟩
          by_cases he : ent Y u v = ent Y v u
          · refine iteNS (by rw [he]) ?_
            refine ⟨_, rfl, rfl, fun v' hv' => ?_⟩
            by_cases hv2 : v' = v
            · rw [hv2]; exact he
            · exact hq v' (by omega)
          · refine iteNP (fun z => he (V.int.inj z)) ?_
            refine q0 (fun hs' M W _ hd => he ?_) _ s06
            have h4 := (due_none.mp hd).2.2.2
            rw [oneM hs' M W, one hs' M W] at h4
            exact h4 u hu v hv
        · rintro σ H8 ⟨o7, rfl, rfl, hq⟩
          refine ⟨_, _, rfl, rfl, fun u' hu' => ?_⟩
          by_cases hu2 : u' = u
          · rw [hu2]; exact hq
          · exact hp u' (by omega)
      · rintro σ H7 ⟨o6, o7, rfl, rfl, hp⟩
        refine ⟨_, rfl, _, rfl, (by show 2 ≤ sizeLine; decide), fun p hp0 => ?_⟩
        have s8 : Same H7 (L2.upd H7 p (.tup [.ref hD, .ref FA])) := Same.upd hp0
        exact q1 hs Y W0 h8 (due_none.mpr ⟨lY, pos, l6, hp⟩) p _ (s06.trans s8) ⟨hD, FA, as, upd_same, s8 _ _ eH6, s8 _ _ e6, A6.keep fun r _ o z => s8 r o z⟩
end
section
variable {P : Program} {w : World} {K : PySem.W.Frag} {mg : Str → Option Value} {base : Heap}
theorem Zk.num {z : Int} (h : Zk z) : ∃ ds, codes z = (if z < 0 then 45 :: ds else ds) ∧ (∀ c ∈ ds, isFig c = true) ∧ ds ≠ [] ∧ ds.length ≤ 60 ∧ (ds.head? ≠ some 48 ∨ ds = [48]) ∧ PySem.intText? (Sg ds) = some (if z < 0 then -z else z) ∧ z.natAbs.log2 < 1920 := by
  have hn := List.all_eq_true.mp nums_ok z h
  unfold numB at hn
  by_cases hz : z < 0
  · simp only [if_pos hz, Bool.and_eq_true, List.all_eq_true, Bool.or_eq_true, decide_eq_true_iff, beq_iff_eq, Bool.not_eq_true', List.isEmpty_eq_false_iff] at hn
    obtain ⟨⟨⟨⟨⟨⟨h1, h2⟩, h3⟩, h4⟩, h5⟩, h6⟩, h7⟩ := hn
    refine ⟨(codes z).drop 1, ?_, h2, h3, h4, h5, by rw [if_pos hz]; exact h6, h7⟩
    rw [if_pos hz]
    cases hc : codes z with
    | nil => rw [hc] at h1; cases h1
    | cons a r => rw [hc] at h1; cases h1; rfl
  · simp only [if_neg hz, Bool.and_eq_true, List.all_eq_true, Bool.or_eq_true, decide_eq_true_iff, beq_iff_eq, Bool.not_eq_true', List.isEmpty_eq_false_iff] at hn
    obtain ⟨⟨⟨⟨⟨⟨_, h2⟩, h3⟩, h4⟩, h5⟩, h6⟩, h7⟩ := hn
    exact ⟨codes z, by rw [if_neg hz], h2, h3, h4, h5, by rw [if_neg hz]; exact h6, h7⟩
theorem lc_vals {a : Addr} {xs : List V} {te : TE} {Q : Hp → Prop} {σ : L2.St} {H1 : Hp} {D : Addr} (vs : List V) (hlen : vs.length = xs.length) (hm : xs.length ≤ 900) (hD : H1 D = none) (hxs : SqL K H1 a xs)
    (hs : ∀ (i : Nat) (x v : V) (H' : Hp), xs[i]? = some x → vs[i]? = some v → Same H1 H' → te (σ ++ [some x]) H' fun u H3 => u = v ∧ Same H' H3)
    (hd : ∀ H', Same H1 H' → H' D = some (.lst vs) → Q H')
    (mono : ∀ σ H Q Q', (∀ v H1, Q v H1 → Q' v H1) → te σ H Q → te σ H Q') :
    ∃ W : Nat → Nat → List V → Hp → Prop, (∃ m, W 0 m [] (upd H1 D (.lst []))) ∧
      ∀ i m ys H', W i m ys H' → H' D = some (.lst ys) ∧ (((Itl K a).stop i H' ∧ Q H') ∨ ((Itl K a).go i H' ∧ ∀ z H2, (Itl K a).yld i H' z H2 → te (σ ++ [some z]) H2 fun v H3 => H3 D = some (.lst ys) ∧ ys.length < sizeLine ∧ ∃ m', m' < m ∧ W (i + 1) m' (ys ++ [v]) (upd H3 D (.lst (ys ++ [v]))))) := by
  refine lc_list (xs := xs) (fun i ys H' => ys = vs.take i ∧ Same H1 H' ∧ H' D = some (.lst ys)) ⟨by rw [List.take_zero], Same.upd hD, upd_same⟩ (fun i ys H' _ ⟨_, sm, eD⟩ => ⟨Same.sq sm hxs, eD⟩) ?_ ?_ mono
  · rintro i x ys H4 hx ⟨rfl, s4, eD⟩
    have hi : i < vs.length := by rw [hlen]; exact (List.getElem?_eq_some_iff.mp hx).1
    have hv : vs[i]? = some vs[i] := List.getElem?_eq_getElem hi
    refine mono _ _ _ _ ?_ (hs i x vs[i] H4 hx hv s4)
    rintro u H5 ⟨rfl, s5⟩
    refine ⟨s5 _ _ eD, small1000 (by rw [List.length_take]; omega), by rw [take_snoc hv], fun b o e => ?_, upd_same⟩
    rw [upd_ne (ne_of_none e hD)]
    exact s5 _ _ (s4 _ _ e)
  · rintro ys H4 ⟨rfl, s4, eD⟩
    rw [← hlen, List.take_length] at eD
    exact hd H4 s4 eD
theorem codes_len {z : Int} (h : Zk z) : (codes z).length ≤ 61 := by
  obtain ⟨ds, ec, _, _, few, _⟩ := h.num
  rw [ec]
  split
  · rw [List.length_cons]; omega
  · omega
theorem sum_bnd {xs : List (List Nat)} {c : Nat} (h : ∀ x ∈ xs, x.length ≤ c) (k : Nat) : (xs.map fun x => x.length + k).sum ≤ xs.length * (c + k) := by
  induction xs with
  | nil => simp
  | cons x xs ih =>
    rw [List.map_cons, List.sum_cons, List.length_cons, Nat.succ_mul]
    have := h x (List.mem_cons_self ..)
    have := ih fun y hy => h y (List.mem_cons_of_mem _ hy)
    omega
theorem glue_len {sep : List Nat} {xs : List (List Nat)} : (glueL sep xs).length ≤ (xs.map fun x => x.length + sep.length).sum := by
  cases xs with
  | nil => exact Nat.le_refl _
  | cons x xs =>
    unfold glueL
    rw [List.length_append, List.length_flatMap, List.map_cons, List.sum_cons]
    have : (xs.map fun m => (sep ++ m).length) = xs.map fun m => m.length + sep.length := List.map_congr_left fun m _ => by rw [List.length_append, Nat.add_comm]
    rw [this]
    omega
theorem str_codes (z : Int) : (V.str ((toString z : String) : Str)) = V.str (Sg (codes z)) := congrArg V.str (Sg.of _).symm
theorem codes_asc {z : Int} (h : Zk z) : ∀ c ∈ codes z, c < 128 := by
  obtain ⟨ds, ec, hf, _⟩ := h.num
  have hd : ∀ c ∈ ds, c < 128 := fun c hc => by
    have := hf c hc
    unfold isFig at this
    rw [Bool.and_eq_true, decide_eq_true_iff, decide_eq_true_iff] at this
    omega
  rw [ec]
  split
  · intro c hc
    rcases List.mem_cons.mp hc with rfl | hc
    · decide
    · exact hd c hc
  · exact hd
theorem glue_mem {sep : List Nat} {xs : List (List Nat)} {c : Nat} (h : c ∈ glueL sep xs) : c ∈ sep ∨ ∃ x ∈ xs, c ∈ x := by
  cases xs with
  | nil => cases h
  | cons x xs =>
    unfold glueL at h
    rcases List.mem_append.mp h with h | h
    · exact .inr ⟨x, List.mem_cons_self, h⟩
    · obtain ⟨y, hy, hc⟩ := List.mem_flatMap.mp h
      rcases List.mem_append.mp hc with hc | hc
      · exact .inl hc
      · exact .inr ⟨y, List.mem_cons_of_mem _ hy, hc⟩
def wds (wd : List Nat) (zs : List Int) : List (List Nat) := wd :: zs.map codes
def lnT (wd : List Nat) (zs : List Int) : List Nat := glueL [32] (wds wd zs)
theorem wds_sum {wd : List Nat} {zs : List Int} (hw : wd.length ≤ 61) (zk : ∀ z ∈ zs, Zk z) (hz : zs.length ≤ 8) : ((wds wd zs).map fun x => x.length + 1).sum ≤ 558 := by
  have h1 := sum_bnd (xs := wds wd zs) (c := 61) (fun x hx => by
    rcases List.mem_cons.mp hx with rfl | hx
    · exact hw
    · obtain ⟨z, hz, rfl⟩ := List.mem_map.mp hx
      exact codes_len (zk z hz)) 1
  have h2 : (wds wd zs).length = zs.length + 1 := by unfold wds; rw [List.length_cons, List.length_map]
  rw [h2] at h1
  omega
theorem lnT_len {wd : List Nat} {zs : List Int} (hw : wd.length ≤ 61) (zk : ∀ z ∈ zs, Zk z) (hz : zs.length ≤ 8) : (lnT wd zs).length ≤ 558 := Nat.le_trans glue_len (wds_sum hw zk hz)
theorem lnT_asc {wd : List Nat} {zs : List Int} (hw : ∀ c ∈ wd, c < 128) (zk : ∀ z ∈ zs, Zk z) : ∀ c ∈ lnT wd zs, c < 128 := fun c hc => by
  rcases glue_mem hc with h | ⟨x, hx, h⟩
  · rw [List.mem_singleton.mp h]; decide
  · rcases List.mem_cons.mp hx with rfl | hx
    · exact hw c h
    · obtain ⟨z, hz, rfl⟩ := List.mem_map.mp hx
      exact codes_asc (zk z hz) c h
def lcIn (e : Expr) : Expr := match e with
  | .List [.Call _ [.BinOp _ _ b _] _ _] .. => b
  | .Call _ [.Call _ [.BinOp _ _ b _] _ _] _ _ => b
  | _ => .Constant .none 0 ⟨0, 0, 0, 0⟩
def forX (s : Stmt) : Expr := match s with
  | .For _ _ [.Expr v ..] _ _ => v
  | _ => .Constant .none 0 ⟨0, 0, 0, 0⟩
abbrev nText : List Str := ["_law_web_here", "_law_rows", "_law_row"]
theorem scText : FnScope nText ["_law_web_here"] (defScope sText) := ⟨rfl, rfl, rfl, by decide +kernel, rfl, by decide +kernel, by decide +kernel⟩
theorem lcText1 : LcScopes (defScope sText) nText (lcScope (lcIn (asgVal (bodyAt sText 0)))) ["_law_hue"] := ⟨by decide +kernel, rfl, by decide +kernel, by decide +kernel, by decide +kernel, by decide +kernel, by decide +kernel, by decide +kernel, by decide +kernel, by decide +kernel⟩
theorem lcText2 : LcScopes (defScope sText) nText (lcScope (lcIn (forX (bodyAt sText 1)))) ["_law_weight_here"] := ⟨by decide +kernel, rfl, by decide +kernel, by decide +kernel, by decide +kernel, by decide +kernel, by decide +kernel, by decide +kernel, by decide +kernel, by decide +kernel⟩
def spText : Sp := fun vs H Q _ => ∃ (wA : Addr) (n : Nat) (hs : List Int) (M : List (List Int)), vs = [.ref wA] ∧ WR H wA hs M ∧ hs.length = n ∧ (∀ z ∈ hs, Zk z) ∧ Sq n M ∧ n ≤ 8 ∧ ∀ t H', Same H H' → t.length ≤ 6000 → (∀ c ∈ t, c < 128) → Q (.str (Sg t)) H'
theorem ok_text {f : Addr} {fd : FuncData} (B : BltX mg) (F : Fun K "_law_text" "_law_text" sText f fd) : FnOk P w K mg base CX0 1 f fd ["_law_web_here"] spText := by
  refine F.ok scText (fun vs H Q E h => ?_) (fun cdv A outer s H vs Q E hr h => ?_)
  · obtain ⟨wA, n, hs, M, rfl, _⟩ := h
    rfl
  · obtain ⟨wA, n, hs, M, rfl, W, hl, zk, S, hn, q⟩ := h
    obtain ⟨hA, rA, rs, w1, w2, w3, R⟩ := W.ex
    refine ⟨_, pss_cons (ps_set (i := 1) scText.nd rfl (Or.inl rfl) (pe_lst (pa_cons (pe_bm PySem.F.plainAttrs_str PySem.F.slot_str_join PySem.F.type_str_join mt_join pe_str (pa_cons (pe_op op_cat (pe_lst (pa_cons pe_str pa_nil)) (pe_lc1 rfl lcText1 rfl (pi_list (pe_ix ix_tup (pv 0) pe_int (fun _ _ => rfl))) (fun _ _ _ => pe_callTy call_str_int (by rfl) B.str boot_str (pa_cons (pv 3) pa_nil)))) pa_nil)) pa_nil)))
      (pss_cons (ps_for PassesOwn.never rfl (pi_list (pe_ix ix_tup (pv 0) pe_int (fun _ _ => rfl))) (pg_name (i := 2) scText.nd rfl (Or.inl rfl))
        (pss_one (ps_expr (pe_bm PySem.F.plainAttrs_list PySem.F.slot_list_append PySem.F.type_list_append mt_append (pv 1) (pa_cons (pe_bm PySem.F.plainAttrs_str PySem.F.slot_str_join PySem.F.type_str_join mt_join pe_str (pa_cons (pe_op op_cat (pe_lst (pa_cons pe_str pa_nil)) (pe_lc1 rfl lcText2 rfl (pi_list (pv 2)) (fun _ _ _ => pe_callTy call_str_int (by rfl) B.str boot_str (pa_cons (pv 3) pa_nil)))) pa_nil)) pa_nil)))))
      (pss_one (ps_ret (pe_bm PySem.F.plainAttrs_str PySem.F.slot_str_join PySem.F.type_str_join mt_join pe_str (pa_cons (pv 1) pa_nil))))), ?_⟩
    have lcS : ∀ (zs : List Int), (∀ z ∈ zs, Zk z) → ∀ (σ : L2.St) (i : Nat) (x v : V), (zs.map V.int)[i]? = some x → ((zs.map codes).map fun l => V.str (Sg l))[i]? = some v → ∃ z, x = .int z ∧ z.natAbs.log2 < 1920 ∧ V.str ((toString z : String) : Str) = v := fun zs zk σ i x v hx hv => by
      obtain ⟨z, ez, rfl⟩ := map_get hx
      obtain ⟨l, el, rfl⟩ := map_get hv
      obtain ⟨z', ez', rfl⟩ := map_get el
      rw [ez] at ez'
      cases ez'
      obtain ⟨_, _, _, _, _, _, _, lg⟩ := (zk z (List.mem_of_getElem? ez)).num
      exact ⟨z, rfl, lg, str_codes z⟩
    refine ⟨rfl, (by show 1 ≤ sizeLine; decide), fun l1 hl1 => ?_⟩
    have s1 : Same H (L2.upd H l1 (.lst [.str "hues"])) := Same.upd hl1
    have e1 : L2.upd H l1 (.lst [.str "hues"]) l1 = some (.lst [.str "hues"]) := upd_same
    generalize L2.upd H l1 (.lst [.str "hues"]) = H1 at s1 e1 ⊢
    refine ⟨_, rfl, wA, _, _, _, rfl, rfl, SqT.of (s1 _ _ w1), rfl, hA, rfl, ⟨_, SqL.of (s1 _ _ w2)⟩, fun D hD => ?_⟩
    refine lc_vals ((hs.map codes).map fun l => V.str (Sg l)) (by rw [List.length_map, List.length_map, List.length_map]) (by rw [List.length_map]; omega) hD (SqL.of (s1 _ _ w2)) ?_ ?_ ?_
    · intro i x v H2 hx hv s2
      obtain ⟨z, rfl, lg, e⟩ := lcS hs zk [] i x v hx hv
      exact ⟨_, rfl, z, rfl, lg, e, Same.refl _⟩
    · intro H2 s2 eD
      refine ⟨l1, D, _, _, rfl, rfl, s2 _ _ e1, eD, Nat.le_of_lt (small1000 (by rw [List.length_map, List.length_map]; show 1 + hs.length ≤ 1000; omega)), fun nA hnA => ?_⟩
      have s3 : Same H2 (L2.upd H2 nA (.lst ((wds [104, 117, 101, 115] hs).map fun l => V.str (Sg l)))) := Same.upd hnA
      have e3 : L2.upd H2 nA (.lst ((wds [104, 117, 101, 115] hs).map fun l => V.str (Sg l))) nA = some (.lst ((wds [104, 117, 101, 115] hs).map fun l => V.str (Sg l))) := upd_same
      have eq3 : ([V.str "hues"] ++ (hs.map codes).map fun l => V.str (Sg l)) = (wds [104, 117, 101, 115] hs).map fun l => V.str (Sg l) := by
        unfold wds
        rw [List.map_cons, ← lit_hues]
        rfl
      rw [eq3]
      generalize L2.upd H2 nA (.lst ((wds [104, 117, 101, 115] hs).map fun l => V.str (Sg l))) = H3 at s3 e3 ⊢
      have b1 := wds_sum (wd := [104, 117, 101, 115]) (by decide) zk (by omega)
      have b2 := lnT_len (wd := [104, 117, 101, 115]) (by decide) zk (by omega)
      refine ⟨[32], nA, wds [104, 117, 101, 115] hs, by rw [lit_blank], rfl, SqL.of e3, sz100 (Nat.le_trans b1 (by omega)), sz100 (Nat.le_trans b2 (by omega)), (by show 1 ≤ sizeLine; decide), fun L hL => ?_⟩
      have s03 : Same H H3 := (s1.trans s2).trans s3
      have sq : ∀ x ∈ M, x.length = n ∧ ∀ z ∈ x, Zk z := fun x hx => by
        obtain ⟨i, hi, ei⟩ := List.getElem_of_mem hx
        exact S.row i x (by rw [List.getElem?_eq_getElem hi, ei])
      have s4 : Same H3 (L2.upd H3 L (.lst [.str (Sg (lnT [104, 117, 101, 115] hs))])) := Same.upd hL
      have e4 : L2.upd H3 L (.lst [.str (Sg (lnT [104, 117, 101, 115] hs))]) L = some (.lst ((lnT [104, 117, 101, 115] hs :: (M.take 0).map (lnT [114, 111, 119])).map fun l => V.str (Sg l))) := upd_same
      rw [show glueL [32] (wds [104, 117, 101, 115] hs) = lnT [104, 117, 101, 115] hs from rfl]
      generalize L2.upd H3 L (.lst [.str (Sg (lnT [104, 117, 101, 115] hs))]) = H4 at s4 e4 ⊢
      have s04 := s03.trans s4
      have free : ∀ b o, H b = some o → b ≠ L := fun b o z y => by rw [y] at z; rw [s03 _ _ z] at hL; cases hL
      refine ⟨_, rfl, wA, _, _, _, rfl, rfl, SqT.of (s04 _ _ w1), rfl, rA, rfl, ⟨_, SqL.of (s04 _ _ w3)⟩, for_list (K := K) (a := rA) (xs := rs.map V.ref) (fun i σ H' => ∃ o2 : Option V, σ = [some (.ref wA), some (.ref L), o2] ∧ Same H H' ∧ H' L = some (.lst ((lnT [104, 117, 101, 115] hs :: (M.take i).map (lnT [114, 111, 119])).map fun l => V.str (Sg l)))) ⟨_, rfl, s04, e4⟩ (fun i σ H' _ ⟨_, _, s', _⟩ => SqL.of (s' _ _ w3)) ?_ ?_⟩
      · rintro i x σ H5 hx ⟨o2, rfl, s5, e5⟩
        obtain ⟨r, er, rfl⟩ := map_get hx
        obtain ⟨r', row, g1, g2, g3⟩ := R.get (i := i) (List.getElem?_eq_some_iff.mp er).1
        rw [er] at g1
        cases g1
        obtain ⟨lrow, zrow⟩ := S.row i row g2
        refine ⟨_, rfl, .inl ⟨rfl, _, SqL.of e5⟩, rfl, (by show 1 ≤ sizeLine; decide), fun l6 hl6 => ?_⟩
        have s6 : Same H5 (L2.upd H5 l6 (.lst [.str "row"])) := Same.upd hl6
        have e6 : L2.upd H5 l6 (.lst [.str "row"]) l6 = some (.lst [.str "row"]) := upd_same
        generalize L2.upd H5 l6 (.lst [.str "row"]) = H6 at s6 e6 ⊢
        have s06 := s5.trans s6
        refine ⟨_, rfl, r, rfl, ⟨_, SqL.of (s06 _ _ g3)⟩, fun D' hD' => ?_⟩
        refine lc_vals ((row.map codes).map fun l => V.str (Sg l)) (by rw [List.length_map, List.length_map, List.length_map]) (by rw [List.length_map]; omega) hD' (SqL.of (s06 _ _ g3)) ?_ ?_ ?_
        · intro i x v H2 hx hv s2
          obtain ⟨z, rfl, lg, e⟩ := lcS row zrow [] i x v hx hv
          exact ⟨_, rfl, z, rfl, lg, e, Same.refl _⟩
        · intro H7 s7 eD7
          refine ⟨l6, D', _, _, rfl, rfl, s7 _ _ e6, eD7, Nat.le_of_lt (small1000 (by rw [List.length_map, List.length_map]; show 1 + row.length ≤ 1000; omega)), fun nB hnB => ?_⟩
          have s8 : Same H7 (L2.upd H7 nB (.lst ((wds [114, 111, 119] row).map fun l => V.str (Sg l)))) := Same.upd hnB
          have e8 : L2.upd H7 nB (.lst ((wds [114, 111, 119] row).map fun l => V.str (Sg l))) nB = some (.lst ((wds [114, 111, 119] row).map fun l => V.str (Sg l))) := upd_same
          have eq8 : ([V.str "row"] ++ (row.map codes).map fun l => V.str (Sg l)) = (wds [114, 111, 119] row).map fun l => V.str (Sg l) := by
            unfold wds
            rw [List.map_cons, ← lit_row]
            rfl
          rw [eq8]
          generalize L2.upd H7 nB (.lst ((wds [114, 111, 119] row).map fun l => V.str (Sg l))) = H8 at s8 e8 ⊢
          have c1 := wds_sum (wd := [114, 111, 119]) (by decide) zrow (by omega)
          have c2 := lnT_len (wd := [114, 111, 119]) (by decide) zrow (by omega)
          have e8L := s8 _ _ (s7 _ _ (s6 _ _ e5))
          refine ⟨[32], nB, wds [114, 111, 119] row, by rw [lit_blank], rfl, SqL.of e8, sz100 (Nat.le_trans c1 (by omega)), sz100 (Nat.le_trans c2 (by omega)), L, _, _, rfl, rfl, e8L, small1000 (by rw [List.length_map, List.length_cons, List.length_map, List.length_take, S.len]; omega), ?_⟩
          refine ⟨_, rfl, fun b o z => by rw [upd_ne (free b o z)]; exact s8 _ _ (s7 _ _ (s06 b o z)), ?_⟩
          rw [upd_same, take_snoc g2, List.map_append, ← List.cons_append, List.map_append]
          rfl
        · rintro σ H' Q1 Q2 hq ⟨v, e, i, e1, e2, g⟩
          exact ⟨v, e, i, e1, e2, hq _ _ g⟩
      · rintro σ H5 ⟨o2, rfl, s5, e5⟩
        rw [List.length_map, R.len, List.take_length] at e5
        have d1 := sum_bnd (xs := lnT [104, 117, 101, 115] hs :: M.map (lnT [114, 111, 119])) (c := 558) (fun x hx => by
          rcases List.mem_cons.mp hx with rfl | hx
          · exact b2
          · obtain ⟨y, hy, rfl⟩ := List.mem_map.mp hx
            exact lnT_len (by decide) (sq y hy).2 (by rw [(sq y hy).1]; exact hn)) 2
        rw [List.length_cons, List.length_map, S.len] at d1
        have d2 : ((lnT [104, 117, 101, 115] hs :: M.map (lnT [114, 111, 119])).map fun x => x.length + 2).sum ≤ 6000 := by omega
        have d3 : (glueL [59, 32] (lnT [104, 117, 101, 115] hs :: M.map (lnT [114, 111, 119]))).length ≤ 6000 := Nat.le_trans glue_len d2
        refine ⟨rfl, _, rfl, [59, 32], L, lnT [104, 117, 101, 115] hs :: M.map (lnT [114, 111, 119]), by rw [lit_semi], rfl, SqL.of e5, sz100 (Nat.le_trans d2 (by omega)), sz100 (Nat.le_trans d3 (by omega)), ?_⟩
        refine q _ H5 s5 d3 fun c hc => ?_
        rcases glue_mem hc with h | ⟨x, hx, h⟩
        · have : ∀ c ∈ [59, 32], c < 128 := by decide
          exact this c h
        · rcases List.mem_cons.mp hx with rfl | hx
          · exact lnT_asc (by decide) zk c h
          · obtain ⟨y, hy, rfl⟩ := List.mem_map.mp hx
            exact lnT_asc (by decide) (sq y hy).2 c h
    · rintro σ H' Q1 Q2 hq ⟨v, e, i, e1, e2, g⟩
      exact ⟨v, e, i, e1, e2, hq _ _ g⟩
end
section
variable {P : Program} {w : World} {K : PySem.W.Frag} {mg : Str → Option Value} {base : Heap}
structure ClsOf (K : PySem.W.Frag) (mg : Str → Option Value) (CN : Addr) (x : Str) (b : Bool) : Prop where
  ex : ∃ C : Addr, mg x = some (.ref C) ∧ PySem.W.kitOne K (.ref CN) (.ref C) = some b
def spIs (CN : Addr) : Sp := fun vs H Q _ => ∃ (a : Addr) (dd : Option Addr), vs = [.ref a, .int 3] ∧ H a = some (excHO a CN dd) ∧ ∀ H', Same H H' → Q (.bl true) H'
abbrev nIs : List Str := ["_law_caught", "_law_at", "_law_told"]
theorem scIs : FnScope nIs ["_law_caught", "_law_at"] (defScope sIs) := ⟨rfl, rfl, rfl, by decide +kernel, rfl, by decide +kernel, by decide +kernel⟩
def cmpR (s : Stmt) : Expr := match s with
  | .If (.Compare _ _ [b] _) _ _ _ => b
  | _ => .Constant .none 0 ⟨0, 0, 0, 0⟩
theorem lcIs : LcScopes (defScope sIs) nIs (lcScope (cmpR (bodyAt sIs 2))) ["_law_k"] := ⟨by decide +kernel, rfl, by decide +kernel, by decide +kernel, by decide +kernel, by decide +kernel, by decide +kernel, by decide +kernel, by decide +kernel, by decide +kernel⟩
theorem boot_verr : bootBuiltins "ValueError" = some (.type "ValueError") := by decide +kernel
theorem das_bls {ok : Addr → Prop} {H : Hp} : ∀ ns : List Bool, DAs K ok H (ns.map V.bl) (ns.map .bool)
  | [] => .nil
  | n :: ns => .cons (.bl n) (das_bls ns)
theorem ok_is {f CN : Addr} {fd : FuncData} {bmN : List Value} (B : BltX mg) (bv : mg "ValueError" = none) (ZN : ExcW K CN bmN) (c1 : ClsOf K mg CN "NoWeb" false) (c2 : ClsOf K mg CN "NoStep" false) (c3 : ClsOf K mg CN "NoOrder" false) (c4 : ClsOf K mg CN "NoText" true) (c5 : ClsOf K mg CN "NoName" false) (c6 : ClsOf K mg CN "NoLine" false)
    (hv : PySem.W.kitOne K (.ref CN) (.type "ValueError") = some true) (F : Fun K "_law_is" "_law_is" sIs f fd) : FnOk P w K mg base CX0 1 f fd ["_law_caught", "_law_at"] (spIs CN) := by
  obtain ⟨C1, g1, k1⟩ := c1.ex
  obtain ⟨C2, g2, k2⟩ := c2.ex
  obtain ⟨C3, g3, k3⟩ := c3.ex
  obtain ⟨C4, g4, k4⟩ := c4.ex
  obtain ⟨C5, g5, k5⟩ := c5.ex
  obtain ⟨C6, g6, k6⟩ := c6.ex
  refine F.ok scIs (fun vs H Q E h => ?_) (fun cdv A outer s H vs Q E hr h => ?_)
  · obtain ⟨a, dd, rfl, _⟩ := h
    rfl
  · obtain ⟨a, dd, rfl, ha, q⟩ := h
    refine ⟨_, pss_cons (ps_set (i := 2) scIs.nd rfl (Or.inl rfl) (pe_lst (pa_cons (pe_callB (call_isinstX ZN) (by rfl) B.isi boot_isinstance (pa_cons (pv 0) (pa_cons (pe_glob (v := .ref C1) rfl g1 rfl) pa_nil))) (pa_cons (pe_callB (call_isinstX ZN) (by rfl) B.isi boot_isinstance (pa_cons (pv 0) (pa_cons (pe_glob (v := .ref C2) rfl g2 rfl) pa_nil))) (pa_cons (pe_callB (call_isinstX ZN) (by rfl) B.isi boot_isinstance (pa_cons (pv 0) (pa_cons (pe_glob (v := .ref C3) rfl g3 rfl) pa_nil))) pa_nil)))))
      (pss_cons (ps_set (i := 2) scIs.nd rfl (Or.inl rfl) (pe_op op_cat (pv 2) (pe_lst (pa_cons (pe_callB (call_isinstX ZN) (by rfl) B.isi boot_isinstance (pa_cons (pv 0) (pa_cons (pe_glob (v := .ref C4) rfl g4 rfl) pa_nil))) (pa_cons (pe_callB (call_isinstX ZN) (by rfl) B.isi boot_isinstance (pa_cons (pv 0) (pa_cons (pe_glob (v := .ref C5) rfl g5 rfl) pa_nil))) (pa_cons (pe_callB (call_isinstX ZN) (by rfl) B.isi boot_isinstance (pa_cons (pv 0) (pa_cons (pe_glob (v := .ref C6) rfl g6 rfl) pa_nil))) pa_nil))))))
      (pss_cons (ps_if (pt_cmpR (op_neD hr.units) (pv 2) (pe_lc1 rfl lcIs rfl (pi_range1 rfl B.range (pa_cons pe_int pa_nil)) (fun _ _ _ => pe_cmpR op_eq (pv 3) (pv 1) (nomark _))) (nomark _)) (pss_one (ps_ret pe_bl)) pss_nil)
      (pss_one (ps_ret (pe_or (pe_and (pe_cmpR op_eq (pv 1) pe_int (nomark _)) (pe_one (pe_cmpR op_isN (pv 0) pe_non (nomark _)))) (pe_one (pe_callB (call_isinstX ZN) (by rfl) B.isi boot_isinstance (pa_cons (pv 0) (pa_cons (pe_bltn (v := .ty "ValueError") rfl bv boot_verr rfl) pa_nil))))))))), ?_⟩
    refine ⟨_, rfl, a, dd, _, _, _, rfl, ha, rfl, k1, _, rfl, a, dd, _, _, _, rfl, ha, rfl, k2, _, rfl, a, dd, _, _, _, rfl, ha, rfl, k3, (by show 3 ≤ sizeLine; decide), fun l1 hl1 => ?_⟩
    have s1 : Same H (L2.upd H l1 (.lst [.bl false, .bl false, .bl false])) := Same.upd hl1
    have e1 : L2.upd H l1 (.lst [.bl false, .bl false, .bl false]) l1 = some (.lst [.bl false, .bl false, .bl false]) := upd_same
    generalize L2.upd H l1 (.lst [.bl false, .bl false, .bl false]) = H1 at s1 e1 ⊢
    have ha1 := s1 _ _ ha
    refine ⟨_, rfl, _, rfl, a, dd, _, _, _, rfl, ha1, rfl, k4, _, rfl, a, dd, _, _, _, rfl, ha1, rfl, k5, _, rfl, a, dd, _, _, _, rfl, ha1, rfl, k6, (by show 3 ≤ sizeLine; decide), fun l2 hl2 => ?_⟩
    have s2 : Same H1 (L2.upd H1 l2 (.lst [.bl true, .bl false, .bl false])) := Same.upd hl2
    have e2 : L2.upd H1 l2 (.lst [.bl true, .bl false, .bl false]) l2 = some (.lst [.bl true, .bl false, .bl false]) := upd_same
    generalize L2.upd H1 l2 (.lst [.bl true, .bl false, .bl false]) = H2 at s2 e2 ⊢
    refine ⟨l1, l2, _, _, rfl, rfl, s2 _ _ e1, e2, (by show 6 ≤ sizeLine; decide), fun l3 hl3 => ?_⟩
    have s3 : Same H2 (L2.upd H2 l3 (.lst ([.bl false, .bl false, .bl false] ++ [.bl true, .bl false, .bl false]))) := Same.upd hl3
    have e3 : L2.upd H2 l3 (.lst ([.bl false, .bl false, .bl false] ++ [.bl true, .bl false, .bl false])) l3 = some (.lst ([false, false, false, true, false, false].map V.bl)) := upd_same
    generalize L2.upd H2 l3 (.lst ([.bl false, .bl false, .bl false] ++ [.bl true, .bl false, .bl false])) = H3 at s3 e3 ⊢
    have t3 := (s1.trans s2).trans s3
    refine ⟨_, rfl, 6, rfl, by decide, by decide, fun D hD => ?_⟩
    refine lc_range (lo := 0) (n := 6) (fun i ys H' => ys = ((List.range i).map fun k => V.bl (k == 3)) ∧ H' = upd H3 D (.lst ys)) ⟨rfl, rfl⟩ (fun i ys H' _ ⟨_, e⟩ => by rw [e]; exact upd_same) ?_ ?_ ?_
    · rintro i ys H4 hi ⟨rfl, rfl⟩
      refine ⟨_, rfl, _, rfl, rfl, upd_same, small1000 (by rw [List.length_map, List.length_range]; omega), ?_, by rw [upd_upd]⟩
      rw [List.range_succ, List.map_append]
      congr 2
      match i, hi with
      | 0, _ => rfl
      | 1, _ => rfl
      | 2, _ => rfl
      | 3, _ => rfl
      | 4, _ => rfl
      | 5, _ => rfl
    · rintro ys H4 ⟨rfl, rfl⟩
      have s4 : Same H3 (L2.upd H3 D (.lst ((List.range 6).map fun k => V.bl (k == 3)))) := Same.upd hD
      have e4 : L2.upd H3 D (.lst ((List.range 6).map fun k => V.bl (k == 3))) D = some (.lst ([false, false, false, true, false, false].map V.bl)) := upd_same
      generalize L2.upd H3 D (.lst ((List.range 6).map fun k => V.bl (k == 3))) = H5 at s4 e4 ⊢
      refine ⟨.list ([false, false, false, true, false, false].map .bool), .list ([false, false, false, true, false, false].map .bool), .lst trivial (SqL.of (s4 _ _ e3)) (das_bls _), .lst trivial (SqL.of e4) (das_bls _), ⟨rfl, rfl, by decide⟩, _, rfl, iteF ?_⟩
      refine ⟨_, rfl, rfl, false, rfl, iteF ?_⟩
      refine ⟨false, rfl, iteF ?_⟩
      exact ⟨_, rfl, a, dd, _, _, _, rfl, s4 _ _ (t3 _ _ ha), rfl, hv, q _ (t3.trans s4)⟩
    · rintro σ H' Q1 Q2 hq ⟨v, x1, v2, x2, x3, x4⟩
      exact ⟨v, x1, v2, x2, x3, hq _ _ x4⟩
def spJudged : Sp := fun vs H Q _ => ∃ t : List Nat, vs = [.str (Sg t)] ∧ t.length ≤ 80000 ∧ (∀ c ∈ t, c < 128) ∧ ∀ H', Same H H' → Q (.bl true) H'
abbrev nJudged : List Str := ["_law_text_here", "_law_due", "_law_found", "_law_caught", "e"]
theorem scJudged : FnScope nJudged ["_law_text_here"] (defScope sJudged) := ⟨rfl, rfl, rfl, by decide +kernel, rfl, by decide +kernel, by decide +kernel⟩
theorem ok_judged {f fW fR fI CT CK : Addr} {fd fdW fdR fdI : FuncData} {bmT bmK : List Value} (ZT : ExcW K CT bmT) (ZK : ExcW K CK bmK) (hin : bmT.contains (.ref CK) = true) (hK : mg "KinError" = some (.ref CK)) (F : Fun K "_law_judged" "_law_judged" sJudged f fd)
    (DW : Dn K mg "_law_web_of" sWebOf ["_law_text_here"] fW fdW) (GW : FnOk P w K mg base CX0 3 fW fdW ["_law_text_here"] spWebOf)
    (DR : Dn K mg "read_web" sReadW ["text"] fR fdR) (GR : FnOk P w K mg base (CXd P w) 6 fR fdR ["text"] (spReadW CT))
    (DI : Dn K mg "_law_is" sIs ["_law_caught", "_law_at"] fI fdI) (GI : FnOk P w K mg base CX0 1 fI fdI ["_law_caught", "_law_at"] (spIs CT)) : FnOk P w K mg base CX0 7 f fd ["_law_text_here"] spJudged := by
  refine F.ok scJudged (fun vs H Q E h => ?_) (fun cdv A outer s H vs Q E hr h => ?_)
  · obtain ⟨t, rfl, _⟩ := h
    rfl
  · obtain ⟨t, rfl, hz, hc, q⟩ := h
    have r1 := hr.mono (j := 1) (by decide)
    have r3 := hr.mono (j := 3) (by decide)
    refine ⟨_, pss_cons (ps_set (i := 1) scJudged.nd rfl (Or.inl rfl) (pe_fn DW GW r3 rfl (pa_cons (pv 0) pa_nil)))
      (pss_cons (ps_set (i := 2) scJudged.nd rfl (Or.inl rfl) pe_non)
      (pss_cons (ps_set (i := 3) scJudged.nd rfl (Or.inl rfl) pe_non)
      (pss_cons (ps_tryB (i := 4) rfl rfl rfl (py_set (i := 2) scJudged.nd rfl (Or.inl rfl) DR GR (hr.mono (by decide)) rfl (pa_cons (pv 0) pa_nil))
          ZK rfl hK scJudged.nd rfl rfl (fun a => pss_one (ps_set (i := 3) scJudged.nd rfl (Or.inl rfl) (pv 4))))
      (pss_cons (ps_if (pt_cmpR op_isN (pv 1) pe_non (nomark _)) (pss_one (ps_ret (pe_fn DI GI r1 rfl (pa_cons (pv 3) (pa_cons pe_int pa_nil))))) pss_nil)
      (pss_one (ps_ret (pe_and (pe_cmpR op_isN (pv 3) pe_non (nomark _)) (pe_one (pe_cmpR (op_eqD hr.units) (pv 2) (pv 1) (nomark _)))))))))), ?_⟩
    refine ⟨_, rfl, t, rfl, hz, hc, fun hs M W h8 hd p H1 s1 W1 => ?_, fun no H1 s1 => ?_⟩
    · refine ⟨_, rfl, t, rfl, by omega, hc, fun hs' M' W' h8' hd' p' H2 s2 W2 => ?_, fun no H2 s2 => (no hs M W h8 hd).elim⟩
      obtain ⟨eh, eM⟩ : hs' = hs ∧ M' = M := by
        obtain ⟨l, r, et, n, m⟩ := W
        obtain ⟨l', r', et', n', m'⟩ := W'
        have := List.append_cancel_left (et.symm.trans et')
        subst this
        obtain ⟨e1, e2⟩ := n.det n'
        subst e1 e2
        exact ⟨rfl, (m.det m').1.symm⟩
      subst eh eM
      have W1' : WR H2 p hs' M' := by
        obtain ⟨hA, rA, rs, w1, w2, w3, R⟩ := W1.ex
        exact ⟨hA, rA, rs, s2 _ _ w1, s2 _ _ w2, s2 _ _ w3, R.keep fun r _ o z => s2 r o z⟩
      refine ⟨_, rfl, rfl, _, rfl, iteF ?_⟩
      refine ⟨_, rfl, rfl, _, rfl, iteT ?_⟩
      refine ⟨_, rfl, _, rfl, dW hs' M', dW hs' M', W2.da, W1'.da, ⟨(lay_dW hs' M').1, (lay_dW hs' M').1, Nat.le_trans (lay_dW hs' M').2 (by decide)⟩, ?_⟩
      rw [eqv_dW]
      exact q H2 (s1.trans s2)
    · refine ⟨_, rfl, t, rfl, by omega, hc, fun hs M W h8 hd p H2 s2 W2 => (no hs M W h8 hd).elim, fun _ H2 s2 => ⟨CT, bmT, rfl, ZT, ?_, fun x hx => ?_⟩⟩
      · rw [List.contains_cons, hin, Bool.or_true]
      · refine ⟨_, rfl, _, rfl, rfl, _, rfl, iteT ?_⟩
        exact ⟨_, rfl, x, none, rfl, upd_same, fun H3 s3 => q H3 ((s1.trans s2).trans ((Same.upd hx).trans s3))⟩
end
section
variable {P : Program} {w : World} {K : PySem.W.Frag} {mg : Str → Option Value} {base : Heap}
theorem glue_sum (sep x : List Nat) (xs : List (List Nat)) : ((x :: xs).map fun y => y.length + sep.length).sum = (glueL sep (x :: xs)).length + sep.length := by
  unfold glueL
  rw [List.length_append, List.length_flatMap, List.map_cons, List.sum_cons]
  have : (xs.map fun m => (sep ++ m).length) = xs.map fun m => m.length + sep.length := List.map_congr_left fun m _ => by rw [List.length_append, Nat.add_comm]
  rw [this]
  omega
theorem mem_glue {sep x : List Nat} {xs : List (List Nat)} {c : Nat} (h : x ∈ xs) (hc : c ∈ x) : c ∈ glueL sep xs := by
  cases xs with
  | nil => cases h
  | cons y xs =>
    unfold glueL
    rcases List.mem_cons.mp h with rfl | h
    · exact List.mem_append_left _ hc
    · exact List.mem_append_right _ (List.mem_flatMap.mpr ⟨x, h, List.mem_append_right _ hc⟩)
structure Tts (k : Nat) (b : Nat) (xs : List (List Nat)) : Prop where
  asc : ∀ x ∈ xs, ∀ c ∈ x, c < 128
  sum : (xs.map fun x => x.length + k).sum ≤ b
theorem Tts.len {k b : Nat} {xs : List (List Nat)} (T : Tts k b xs) (hk : 0 < k) : xs.length ≤ b := by
  refine Nat.le_trans ?_ T.sum
  clear T
  induction xs with
  | nil => exact Nat.le_refl _
  | cons x xs ih => rw [List.map_cons, List.sum_cons, List.length_cons]; omega
theorem Tts.one {k b : Nat} {xs : List (List Nat)} {x : List Nat} (T : Tts k b xs) (h : x ∈ xs) : x.length + k ≤ b := by
  refine Nat.le_trans ?_ T.sum
  clear T
  induction xs with
  | nil => cases h
  | cons y xs ih =>
    rw [List.map_cons, List.sum_cons]
    rcases List.mem_cons.mp h with rfl | h
    · omega
    · have := ih h
      omega
theorem Tts.split {t sep : List Nat} {xs : List (List Nat)} (hx : splL t sep = xs) (ha : ∀ c ∈ t, c < 128) : Tts sep.length (t.length + sep.length) xs ∧ ∃ y ys, xs = y :: ys := by
  obtain ⟨y, ys, rfl⟩ : ∃ y ys, xs = y :: ys := by
    cases xs with
    | nil => exact absurd hx (spl_ne _ _)
    | cons y ys => exact ⟨y, ys, rfl⟩
  have g := splL_glue t sep
  rw [hx] at g
  refine ⟨⟨fun x hm c hc => ha c ?_, ?_⟩, y, ys, rfl⟩
  · rw [← g]
    exact mem_glue hm hc
  · rw [glue_sum, g]
    exact Nat.le_refl _
theorem Tts.glue {k b : Nat} {sep : List Nat} {xs : List (List Nat)} (T : Tts k b xs) (hs : sep.length = k) (ha : ∀ c ∈ sep, c < 128) : (glueL sep xs).length ≤ b ∧ ∀ c ∈ glueL sep xs, c < 128 := by
  refine ⟨Nat.le_trans glue_len (by rw [hs]; exact T.sum), fun c hc => ?_⟩
  rcases glue_mem hc with h | ⟨x, hx, h⟩
  · exact ha c h
  · exact T.asc x hx c h
theorem Tts.ins {k b : Nat} {xs : List (List Nat)} (T : Tts k b xs) {y : List Nat} (hy : y ∈ xs) (j : Nat) : Tts k (2 * b) (xs.take j ++ y :: xs.drop j) := by
  refine ⟨fun x hx => ?_, ?_⟩
  · refine T.asc x ?_
    rcases List.mem_append.mp hx with h | h
    · exact List.mem_of_mem_take h
    · rcases List.mem_cons.mp h with rfl | h
      · exact hy
      · exact List.mem_of_mem_drop h
  · rw [List.map_append, List.sum_append, List.map_cons, List.sum_cons]
    have h1 := T.one hy
    have h2 := T.sum
    rw [← List.take_append_drop j xs, List.map_append, List.sum_append] at h2
    omega
theorem sum_erase {xs : List (List Nat)} {k : Nat} : ∀ j, ((xs.eraseIdx j).map fun x => x.length + k).sum ≤ (xs.map fun x => x.length + k).sum := by
  induction xs with
  | nil => intro j; exact Nat.le_refl _
  | cons x xs ih =>
    intro j
    cases j with
    | zero => rw [List.eraseIdx_zero, List.tail_cons, List.map_cons, List.sum_cons]; omega
    | succ j =>
      rw [List.eraseIdx_cons_succ, List.map_cons, List.sum_cons, List.map_cons, List.sum_cons]
      have := ih j
      omega
theorem Tts.del {k b : Nat} {xs : List (List Nat)} (T : Tts k b xs) (j : Nat) : Tts k b (xs.eraseIdx j) :=
  ⟨fun x hx => T.asc x (List.mem_of_mem_eraseIdx hx), Nat.le_trans (sum_erase j) T.sum⟩
theorem sum_set {xs : List (List Nat)} {k : Nat} {y : List Nat} : ∀ j, ((xs.set j y).map fun x => x.length + k).sum ≤ (xs.map fun x => x.length + k).sum + (y.length + k) := by
  induction xs with
  | nil => intro j; exact Nat.zero_le _
  | cons x xs ih =>
    intro j
    cases j with
    | zero => rw [List.set_cons_zero, List.map_cons, List.sum_cons, List.map_cons, List.sum_cons]; omega
    | succ j =>
      rw [List.set_cons_succ, List.map_cons, List.sum_cons, List.map_cons, List.sum_cons]
      have := ih j
      omega
theorem Tts.put {k b m : Nat} {xs : List (List Nat)} (T : Tts k b xs) {y : List Nat} (hy : ∀ c ∈ y, c < 128) (hm : y.length + k ≤ m) (j : Nat) : Tts k (b + m) (xs.set j y) := by
  refine ⟨fun x hx => ?_, ?_⟩
  · rcases List.mem_or_eq_of_mem_set hx with h | rfl
    · exact T.asc x h
    · exact hy
  · have h1 := sum_set (xs := xs) (k := k) (y := y) j
    have h2 := T.sum
    omega
theorem map_set' {xs : List (List Nat)} {j : Nat} {y : List Nat} : (xs.map fun l => V.str (Sg l)).set j (.str (Sg y)) = (xs.set j y).map fun l => V.str (Sg l) := by
  rw [List.map_set]
theorem map_ins {xs : List (List Nat)} {j : Nat} {y : List Nat} : (xs.map fun l => V.str (Sg l)).take j ++ V.str (Sg y) :: (xs.map fun l => V.str (Sg l)).drop j = (xs.take j ++ y :: xs.drop j).map fun l => V.str (Sg l) := by
  rw [List.map_append, List.map_cons, List.map_take, List.map_drop]
theorem map_del {xs : List (List Nat)} {j : Nat} : (xs.map fun l => V.str (Sg l)).eraseIdx j = (xs.eraseIdx j).map fun l => V.str (Sg l) := by
  induction xs generalizing j with
  | nil => rfl
  | cons x xs ih =>
    cases j with
    | zero => rfl
    | succ j => rw [List.map_cons, List.eraseIdx_cons_succ, List.eraseIdx_cons_succ, List.map_cons, ih]
end
section
variable {X : Cx}
structure QE (X : Cx) (e : Expr) (t : TE) : Prop where
  o : PE X e t
structure QA (X : Cx) (es : List Expr) (t : TA) : Prop where
  o : PA X es t
theorem qa_nil : QA X [] tNil := ⟨pa_nil⟩
theorem qa_cons {e : Expr} {es : List Expr} {te : TE} {t : TA} (ha : QE X e te) (hr : QA X es t) (hs : starEach (e :: es) X.env = (false, eval e X.env) :: starEach es X.env := by rfl) : QA X (e :: es) (tCons te t) := ⟨pa_cons ha.o hr.o hs⟩
theorem qe_lst {es : List Expr} {t : TA} {pos : Pos} (h : QA X es t) : QE X (.List es pos) (tLst t) := ⟨pe_lst h.o⟩
theorem qe_ix {a b : Expr} {ta tb : TE} {pos : Pos} {r : R2} (hr : IxR X r) (ha : QE X a ta) (hb : QE X b tb) (hs : PlainIx b) : QE X (.Subscript a b pos) (tOp r ta tb) := ⟨pe_ix hr ha.o hb.o hs⟩
end
section
variable {X : Cx}
structure QS (X : Cx) (st : Stmt) (t : TS) : Prop where
  o : PS X st t
structure QSs (X : Cx) (ss : List Stmt) (t : TS) : Prop where
  o : PSs X ss t
structure QT (X : Cx) (e : Expr) (t : TT) : Prop where
  o : PT X e t
structure QI (X : Cx) (tg e : Expr) (t : TI) : Prop where
  o : PI X tg e t
structure QG (X : Cx) (tg : Expr) (t : TG) : Prop where
  o : PG X tg t
structure QO (X : Cx) (e : Option Expr) (t : TO) : Prop where
  o : PO X e t
section
variable {st : Stmt} {rest a b : List Stmt} {t u tb : TS} {e f g : Expr} {es : List Expr} {te tf : TE} {ta : TA} {tc : TT} {pos pos' p : Pos}
theorem w_nil : QSs X [] tNext := ⟨pss_nil⟩
theorem w_cons (h : QS X st t) (k : QSs X rest u) : QSs X (st :: rest) (tSeq t u) := ⟨pss_cons h.o k.o⟩
theorem w_one (h : QS X st t) : QSs X [st] t := ⟨pss_one h.o⟩
theorem w_mid (h : QS X st t) (k : QSs X rest u) : QSs X (st :: rest) (tMid t u) := ⟨pss_mid h.o k.o⟩
theorem w_set {x : Str} (i : Nat) (hN : X.N.Nodup) (hi : X.N[i]? = some x) (hx : Loc X.env.scope x) (he : QE X e te) (hs : swapsWith e (some (.Name x pos')) pos.line X.env = pure false := by rfl) (hf : X.fn x = true ∨ X.env.scope.names.lookup x = some .local := by first | exact .inl rfl | exact .inr rfl | assumption) :
    QS X (.Assign [.Name x pos'] e pos) (tAsg te (gName i)) := ⟨ps_set hN hi hx he.o hs hf⟩
theorem w_ret (h : QE X e te) : QS X (.Return (some e) pos) (tRet te) := ⟨ps_ret h.o⟩
theorem w_expr (h : QE X e te) (hs : swapsWith e none pos.line X.env = pure false := by rfl) : QS X (.Expr e pos) (tDrop te) := ⟨ps_expr h.o hs⟩
theorem w_if (hc : QT X e tc) (ha : QSs X a t) (hb : QSs X b u) : QS X (.If e a b pos) (tIfS tc t u) := ⟨ps_if hc.o ha.o hb.o⟩
theorem w_for {wi : TI} {gg : TG} (hp : PassesOwn (model X.prog X.w) X.A X.env X.xe) (hc : X.calm = true) (hi : QI X g e wi) (hg : QG X g gg) (hb : QSs X a tb) (hf : ∀ x, foldedSetIterable e X.env x = pure x := by intro _; rfl) : QS X (.For g e a [] pos) (tFor wi gg tb) := ⟨ps_for hp hc hi.o hg.o hb.o hf⟩
theorem w_asg {gg : TG} (he : QE X e te) (hg : QG X g gg) (hs : swapsWithSole [g] e pos.line X.env = pure false := by rfl) (hw : swappedStores [g] e X.env = pure none := by rfl) (h1 : (assignEach [g] X.env).map (·.2) = [assign g X.env] := by rfl) : QS X (.Assign [g] e pos) (tAsg te gg) := ⟨ps_asg he.o hg.o hs hw h1⟩
theorem v_op {op : Operator} {r : R2} (ho : OpR X (binaryOp op) r) (ha : QE X e te) (hb : QE X f tf) : QE X (.BinOp e op f pos) (tOp r te tf) := ⟨pe_op ho ha.o hb.o⟩
theorem t_cmp {op : CmpOp} {r : R2} (ho : OpR X (compareOp op) r) (ha : QE X e te) (hb : QE X f tf) (hm : behindInMarks op f = false) : QT X (.Compare e [op] [f] pos) (tTest (tOp r te tf)) := ⟨pt_cmpR ho ha.o hb.o hm⟩
theorem v_slice {lo hi : Option Expr} {tl th : TO} {r : V → Option Int → Option Int → Hp → VK → Prop} (hr : SlR X r) (he : QE X e te) (hl : QO X lo tl) (hu : QO X hi th) : QE X (.Subscript e (.Slice lo hi none p) pos) (tSl r te tl th) := ⟨pe_slice hr he.o hl.o hu.o⟩
theorem o_some (h : QE X e te) : QO X (some e) (tPart te) := ⟨po_some h.o⟩
theorem o_none : QO X none tNoPart := ⟨po_none⟩
theorem i_list (h : QE X e te) : QI X g e (iList X.K te) := ⟨pi_list h.o⟩
theorem g_sub {t : TSet} (ho : QE X e te) (hi : QE X f tf) (hs : PSet X t) (h : ∀ v, assign (.Subscript e f pos) X.env v = (do
                let ov ← holding [v] (eval e X.env)
                let iv ← holding [v, ov] (eval f X.env)
                standAt pos
                holding [v, ov, iv] (setItem ov iv v)
                release [v, ov, iv] []) := by intro _; rfl) : QG X (.Subscript e f pos) (gSub te tf t) := ⟨pg_sub ho.o hi.o hs h⟩
theorem g_name {x : Str} (i : Nat) (hN : X.N.Nodup) (hi : X.N[i]? = some x) (hx : Loc X.env.scope x) (hf : X.fn x = true ∨ X.env.scope.names.lookup x = some .local := by first | exact .inl rfl | exact .inr rfl | assumption) : QG X (.Name x pos) (gName i) := ⟨pg_name hN hi hx hf⟩
theorem v_fn {k : Nat} {fa : Addr} {fd : FuncData} {x : Str} {ps : List Str} {sp : Sp} (D : Dn X.K X.mg x st ps fa fd) (G : FnOk X.prog X.w X.K X.mg X.base CX0 k fa fd ps sp) (hr : Room k X.A) (hg : Gl X x) (ha : QA X (e :: es) ta) (hdb : (x == ("__debug__" : Str)) = false := by decide)
    (hs : starEach (e :: es) X.env = (false, eval e X.env) :: starEach es X.env := by rfl) (hpl : (backTo pos (starEach es X.env)).any (·.1) = false := by rfl) : QE X (.Call (.Name x p) (e :: es) [] pos) (tCall sp [] E0 ta) := ⟨pe_fn D G hr hg ha.o hdb hs hpl⟩
theorem v_callB {id : String} {x : Str} {r : List V → Hp → VK → Prop} (hc : CallR X (.builtin id) r) (hg : Gl X x) (hm : X.mg x = none) (hv : bootBuiltins x = some (.builtin id)) (ha : QA X (e :: es) ta) (hn : x ≠ "__name__" := by decide) (hdb : (x == ("__debug__" : Str)) = false := by decide)
    (hs : starEach (e :: es) X.env = (false, eval e X.env) :: starEach es X.env := by rfl) (hpl : (backTo pos (starEach es X.env)).any (·.1) = false := by rfl) : QE X (.Call (.Name x p) (e :: es) [] pos) (tCB r ta) := ⟨pe_callB hc hg hm hv ha.o hn hdb hs hpl⟩
theorem v_bm {T id : String} {name : Str} {r : V → List V → Hp → VK → Prop} (pa : PlainAttrs T) (slot : Slot T name id) (hty : typeOf (.builtin id) = pure (.type "method_descriptor")) (hm : MtR X id r) (ho : QE X f tf) (ha : QA X (e :: es) ta)
    (h1 : attributeBase f name X.env (eval f X.env) = eval f X.env := by rfl)
    (h2 : (((backTo pos (starEach (e :: es) X.env)).all fun x => !x.1) && ((backToKw pos (keywordEach [] X.env)).all fun x => x.1.isSome) && decide (((e :: es).length + ([] : List Keyword).length + if ([] : List Keyword).isEmpty = true then 0 else 1) < 30)) = true := by rfl)
    (h3 : (pos'.endLine == pos.line) = true := by rfl) (hs : starEach (e :: es) X.env = (false, eval e X.env) :: starEach es X.env := by rfl) (hpl : (backTo pos (starEach es X.env)).any (·.1) = false := by rfl) : QE X (.Call (.Attribute f name pos') (e :: es) [] pos) (tBM X.K T r tf ta) := ⟨pe_bm pa slot hty hm ho.o ha.o h1 h2 h3 hs hpl⟩
end
end
section
variable {P : Program} {w : World} {K : PySem.W.Frag} {mg : Str → Option Value} {base : Heap}
theorem bent_signs : ∀ r, r < 24 → ∃ c, (Str.ofString "0123456789-+_;, huesrow.").cps.toList[r]? = some c ∧ c < 128 := by
  have h : ∀ r, r < 24 → (match (Str.ofString "0123456789-+_;, huesrow.").cps.toList[r]? with | some c => decide (c < 128) | none => false) = true := by decide +kernel
  intro r hr
  have := h r hr
  cases e : (Str.ofString "0123456789-+_;, huesrow.").cps.toList[r]? with
  | none => rw [e] at this; cases this
  | some c => rw [e] at this; exact ⟨c, rfl, by simpa using this⟩
def nin (k : Nat) : List Nat := (List.replicate k [57]).flatten
def somL : List (List Nat) := [[45, 49], [48, 49], [], [49], [55], nin 60, nin 61, [45, 48], [120], [114, 111, 119]]
theorem som_ok : ∀ x ∈ somL, x.length ≤ 61 ∧ ∀ c ∈ x, c < 128 := by decide +kernel
theorem som_is : [V.str (Str.ofString "-1"), .str (Str.ofString "01"), .str (Str.ofString ""), .str (Str.ofString "1"), .str (Str.ofString "7"), .str (Sg (List.replicate 60 [57]).flatten), .str (Sg (List.replicate 61 [57]).flatten), .str (Str.ofString "-0"), .str (Str.ofString "x"), .str (Str.ofString "row")] = somL.map fun l => V.str (Sg l) := by
  have h1 : Str.ofString "-1" = Sg [45, 49] := by decide +kernel
  have h2 : Str.ofString "01" = Sg [48, 49] := by decide +kernel
  have h3 : Str.ofString "" = Sg [] := by decide +kernel
  have h4 : Str.ofString "1" = Sg [49] := by decide +kernel
  have h5 : Str.ofString "7" = Sg [55] := by decide +kernel
  have h6 : Str.ofString "-0" = Sg [45, 48] := by decide +kernel
  have h7 : Str.ofString "x" = Sg [120] := by decide +kernel
  have h8 : Str.ofString "row" = Sg [114, 111, 119] := by decide +kernel
  rw [h1, h2, h3, h4, h5, h6, h7, h8]
  rfl
theorem lit_nine : V.str (Str.ofString "9") = .str (Sg [57]) := congrArg V.str (by decide +kernel)
def spBent : Sp := fun vs H Q _ => ∃ (d : Addr) (t : List Nat) (n : Nat), vs = [.ref d, .str (Sg t)] ∧ Drw H d n ∧ n ≤ 900000 ∧ t.length ≤ 20000 ∧ (∀ c ∈ t, c < 128) ∧
  ∀ t' H', t'.length ≤ 2 * t.length + 100 → (∀ c ∈ t', c < 128) → But d H H' → Drw H' d (n + 20) → Q (.str (Sg t')) H'
abbrev nBent : List Str := ["_law_draw", "_law_text_here", "_law_signs", "_law_way", "_law_at", "_law_sign", "_law_rows", "_law_a", "_law_words", "_law_some"]
abbrev aBent : List Str := ["_law_draw", "_law_text_here"]
theorem scBent : FnScope nBent aBent (defScope sBent) := ⟨rfl, rfl, rfl, by decide +kernel, rfl, by decide +kernel, by decide +kernel⟩
theorem Drw.ne {H : Hp} {d a : Addr} {n : Nat} (D : Drw H d n) (h : H a = none) : a ≠ d := fun e => by
  obtain ⟨_, _, _, e', _⟩ := D
  rw [e, e'] at h
  cases h
theorem ok_bent {f fT : Addr} {fd fdT : FuncData} (B : BltX mg) (F : Fun K "_law_bent" "_law_bent" sBent f fd) (DT : Dn K mg "_law_take" sTake ["_law_draw", "_law_most"] fT fdT) (GT : FnOk P w K mg base CX0 2 fT fdT ["_law_draw", "_law_most"] spTake) : FnOk P w K mg base CX0 3 f fd aBent spBent := by
  refine F.ok scBent (fun vs H Q E h => ?_) (fun cdv A outer s H vs Q E hr h => ?_)
  · obtain ⟨d, t, n, rfl, _⟩ := h
    rfl
  · obtain ⟨d, t, n, rfl, D0, hn, hz, hc, q⟩ := h
    have r2 := hr.mono (j := 2) (by decide)
    refine ⟨_, @QSs.o _ _ _ (w_cons (w_set 2 scBent.nd rfl (Or.inl rfl) ⟨pe_str⟩)
      (w_cons (w_set 3 scBent.nd rfl (Or.inl rfl) (v_fn DT GT r2 rfl (qa_cons ⟨pv 0⟩ (qa_cons ⟨pe_int⟩ qa_nil))))
      (w_cons (w_set 4 scBent.nd rfl (Or.inl rfl) (v_fn DT GT r2 rfl (qa_cons ⟨pv 0⟩ (qa_cons (v_op op_add (v_callB call_len_str (by rfl) B.len PySem.boot_len (qa_cons ⟨pv 1⟩ qa_nil)) ⟨pe_int⟩) qa_nil))))
      (w_cons (w_set 5 scBent.nd rfl (Or.inl rfl) (qe_ix ix_str ⟨pv 2⟩ (v_fn DT GT r2 rfl (qa_cons ⟨pv 0⟩ (qa_cons ⟨pe_int⟩ qa_nil))) (fun _ _ => rfl)))
      (w_cons (w_if (t_cmp op_eq ⟨pv 3⟩ ⟨pe_int⟩ (nomark _)) (w_one (w_ret (v_op op_add_str (v_op op_add_str (v_slice sl_head ⟨pv 1⟩ o_none (o_some ⟨pv 4⟩)) ⟨pv 5⟩) (v_slice sl_tail ⟨pv 1⟩ (o_some ⟨pv 4⟩) o_none)))) (w_nil))
      (w_cons (w_if (t_cmp op_eq ⟨pv 3⟩ ⟨pe_int⟩ (nomark _)) (w_one (w_ret (v_op op_add_str (v_slice sl_head ⟨pv 1⟩ o_none (o_some ⟨pv 4⟩)) (v_slice sl_tail ⟨pv 1⟩ (o_some (v_op op_add ⟨pv 4⟩ ⟨pe_int⟩)) o_none)))) (w_nil))
      (w_cons (w_if (t_cmp op_eq ⟨pv 3⟩ ⟨pe_int⟩ (nomark _)) (w_one (w_ret (v_op op_add_str (v_op op_add_str (v_slice sl_head ⟨pv 1⟩ o_none (o_some ⟨pv 4⟩)) ⟨pv 5⟩) (v_slice sl_tail ⟨pv 1⟩ (o_some (v_op op_add ⟨pv 4⟩ ⟨pe_int⟩)) o_none)))) (w_nil))
      (w_cons (w_set 6 scBent.nd rfl (Or.inl rfl) (v_bm PySem.F.plainAttrs_str PySem.F.slot_str_split PySem.F.type_str_split mt_split ⟨pv 1⟩ (qa_cons ⟨pe_str⟩ qa_nil)))
      (w_cons (w_set 7 scBent.nd rfl (Or.inl rfl) (v_fn DT GT r2 rfl (qa_cons ⟨pv 0⟩ (qa_cons (v_callB call_len_seq (by rfl) B.len PySem.boot_len (qa_cons ⟨pv 6⟩ qa_nil)) qa_nil))))
      (w_mid (w_if (t_cmp op_eq ⟨pv 3⟩ ⟨pe_int⟩ (nomark _)) (w_one (w_expr (v_bm PySem.F.plainAttrs_list PySem.F.slot_list_insert PySem.F.type_list_insert mt_insert ⟨pv 6⟩ (qa_cons (v_fn DT GT r2 rfl (qa_cons ⟨pv 0⟩ (qa_cons (v_op op_add (v_callB call_len_seq (by rfl) B.len PySem.boot_len (qa_cons ⟨pv 6⟩ qa_nil)) ⟨pe_int⟩) qa_nil))) (qa_cons (qe_ix ix_list ⟨pv 6⟩ ⟨pv 7⟩ (fun _ _ => rfl)) qa_nil))))) (w_one (w_if (t_cmp op_eq ⟨pv 3⟩ ⟨pe_int⟩ (nomark _)) (w_one (w_expr (v_bm PySem.F.plainAttrs_list PySem.F.slot_list_pop PySem.F.type_list_pop mt_popAt ⟨pv 6⟩ (qa_cons ⟨pv 7⟩ qa_nil)))) (w_cons (w_set 8 scBent.nd rfl (Or.inl rfl) (v_bm PySem.F.plainAttrs_str PySem.F.slot_str_split PySem.F.type_str_split mt_split (qe_ix ix_list ⟨pv 6⟩ ⟨pv 7⟩ (fun _ _ => rfl)) (qa_cons ⟨pe_str⟩ qa_nil)))
      (w_cons (w_set 9 scBent.nd rfl (Or.inl rfl) (qe_lst (qa_cons ⟨pe_str⟩ (qa_cons ⟨pe_str⟩ (qa_cons ⟨pe_str⟩ (qa_cons ⟨pe_str⟩ (qa_cons ⟨pe_str⟩ (qa_cons (v_op op_repS ⟨pe_str⟩ ⟨pe_int⟩) (qa_cons (v_op op_repS ⟨pe_str⟩ ⟨pe_int⟩) (qa_cons ⟨pe_str⟩ (qa_cons ⟨pe_str⟩ (qa_cons ⟨pe_str⟩ qa_nil))))))))))))
      (w_cons (w_asg (qe_ix ix_list ⟨pv 9⟩ (v_fn DT GT r2 rfl (qa_cons ⟨pv 0⟩ (qa_cons ⟨pe_int⟩ qa_nil))) (fun _ _ => rfl)) (g_sub ⟨pv 8⟩ (v_fn DT GT r2 rfl (qa_cons ⟨pv 0⟩ (qa_cons (v_callB call_len_seq (by rfl) B.len PySem.boot_len (qa_cons ⟨pv 8⟩ qa_nil)) qa_nil))) set_list))
      (w_one (w_asg (v_bm PySem.F.plainAttrs_str PySem.F.slot_str_join PySem.F.type_str_join mt_join ⟨pe_str⟩ (qa_cons ⟨pv 8⟩ qa_nil)) (g_sub ⟨pv 6⟩ ⟨pv 7⟩ set_list)))))))))
      (w_one (w_ret (v_bm PySem.F.plainAttrs_str PySem.F.slot_str_join PySem.F.type_str_join mt_join ⟨pe_str⟩ (qa_cons ⟨pv 6⟩ qa_nil)))))))))))))), ?_⟩
    refine ⟨_, rfl, d, 6, n, rfl, by decide, by decide, D0, by omega, fun way H1 w0 w1 b1 d1 => ?_⟩
    have sz : (Sg t).length ≤ sizeLine := by rw [Sg.len]; exact sz100 (by omega)
    have szt : t.length ≤ sizeLine := sz100 (by omega)
    refine ⟨_, rfl, _, rfl, Sg t, rfl, sz, _, _, rfl, rfl, d, _, n + 2, rfl, by omega, by rw [Sg.len]; omega, d1, by omega, fun at_ H2 a0 a1 b2 d2 => ?_⟩
    rw [Sg.len] at a1
    obtain ⟨k, rfl⟩ := Int.eq_ofNat_of_zero_le a0
    have hk : k ≤ t.length := by omega
    refine ⟨_, rfl, _, rfl, d, 24, n + 4, rfl, by decide, by decide, d2, by omega, fun r H3 r0 r1 b3 d3 => ?_⟩
    obtain ⟨j, rfl⟩ := Int.eq_ofNat_of_zero_le r0
    obtain ⟨c, hcj, c128⟩ := bent_signs j (by omega)
    refine ⟨_, _, c, rfl, rfl, by decide +kernel, atI_nat hcj, ?_⟩
    have b03 := (b1.trans b2).trans b3
    have asc2 : ∀ (x y : List Nat), (∀ c ∈ x, c ∈ t ∨ c < 128) → (∀ c ∈ y, c ∈ t) → ∀ c ∈ x ++ y, c < 128 := fun x y hx hy c' h' => by
      rcases List.mem_append.mp h' with h' | h'
      · rcases hx c' h' with h' | h'
        · exact hc c' h'
        · exact h'
      · exact hc c' (hy c' h')
    have take_in : ∀ j, ∀ c ∈ t.take j, c ∈ t := fun j c h => List.mem_of_mem_take h
    have drop_in : ∀ j, ∀ c ∈ t.drop j, c ∈ t := fun j c h => List.mem_of_mem_drop h
    refine ⟨_, rfl, rfl, _, rfl, ite2 (fun _ => ?_) (fun _ => ?_)⟩
    · refine ⟨_, rfl, _, rfl, _, rfl, t, k, rfl, rfl, rfl, szt, _, rfl, Sg (t.take k), Sg [c], rfl, rfl, ?_, ?_⟩
      · rw [Sg.len, Sg.len, List.length_take]; exact sz100 (by simp; omega)
      refine ⟨_, rfl, _, rfl, _, rfl, t, k, rfl, rfl, rfl, szt, _, _, rfl, rfl, ?_, ?_⟩
      · rw [Sg.app, Sg.len, Sg.len, List.length_append, List.length_take, List.length_drop]; exact sz100 (by simp; omega)
      rw [Sg.app, Sg.app]
      refine q _ H3 ?_ (asc2 _ _ (fun c' h' => ?_) (drop_in k)) b03 (d3.mono (by omega))
      · simp; omega
      · rcases List.mem_append.mp h' with h' | h'
        · exact .inl (take_in k c' h')
        · rw [List.mem_singleton.mp h']; exact .inr c128
    refine ⟨_, rfl, rfl, _, rfl, ite2 (fun _ => ?_) (fun _ => ?_)⟩
    · refine ⟨_, rfl, _, rfl, _, rfl, t, k, rfl, rfl, rfl, szt, ?_⟩
      refine ⟨_, rfl, _, rfl, _, _, rfl, rfl, _, rfl, t, k + 1, rfl, rfl, rfl, szt, _, _, rfl, rfl, ?_, ?_⟩
      · rw [Sg.len, Sg.len, List.length_take, List.length_drop]; exact sz100 (by omega)
      rw [Sg.app]
      refine q _ H3 ?_ (asc2 _ _ (fun c' h' => .inl (take_in k c' h')) (drop_in (k + 1))) b03 (d3.mono (by omega))
      simp; omega
    refine ⟨_, rfl, rfl, _, rfl, ite2 (fun _ => ?_) (fun _ => ?_)⟩
    · refine ⟨_, rfl, _, rfl, _, rfl, t, k, rfl, rfl, rfl, szt, _, rfl, Sg (t.take k), Sg [c], rfl, rfl, ?_, ?_⟩
      · rw [Sg.len, Sg.len, List.length_take]; exact sz100 (by simp; omega)
      refine ⟨_, rfl, _, rfl, _, _, rfl, rfl, _, rfl, t, k + 1, rfl, rfl, rfl, szt, _, _, rfl, rfl, ?_, ?_⟩
      · rw [Sg.app, Sg.len, Sg.len, List.length_append, List.length_take, List.length_drop]; exact sz100 (by simp; omega)
      rw [Sg.app, Sg.app]
      refine q _ H3 ?_ (asc2 _ _ (fun c' h' => ?_) (drop_in (k + 1))) b03 (d3.mono (by omega))
      · simp; omega
      · rcases List.mem_append.mp h' with h' | h'
        · exact .inl (take_in k c' h')
        · rw [List.mem_singleton.mp h']; exact .inr c128
    refine ⟨_, rfl, rfl, t, [59, 32], rfl, by rw [lit_semi], by simp, by omega, fun R hR => ?_⟩
    obtain ⟨xs, hxs⟩ : ∃ xs, splL t [59, 32] = xs := ⟨_, rfl⟩
    obtain ⟨T, y0, ys0, ey⟩ := Tts.split hxs hc
    rw [hxs]
    have Rd : R ≠ d := d3.ne hR
    have b4 : But d H (L2.upd H3 R (.lst (xs.map fun l => V.str (Sg l)))) := b03.trans (But.new hR)
    have d4 : Drw (L2.upd H3 R (.lst (xs.map fun l => V.str (Sg l)))) d (n + 6) := d3.new hR
    have e4 : L2.upd H3 R (.lst (xs.map fun l => V.str (Sg l))) R = some (.lst (xs.map fun l => V.str (Sg l))) := upd_same
    have RH : H R = none := by
      cases hq : H R with
      | none => rfl
      | some o => rw [b03 R o Rd hq] at hR; cases hR
    generalize L2.upd H3 R (.lst (xs.map fun l => V.str (Sg l))) = H4 at b4 d4 e4 ⊢
    have lx : xs.length ≤ t.length + 2 := T.len (by decide)
    have lx0 : 0 < xs.length := by rw [ey]; exact Nat.succ_pos _
    refine ⟨_, rfl, _, rfl, R, _, rfl, .inl (SqL.of e4), d, _, n + 6, rfl, by rw [List.length_map]; omega, by rw [List.length_map]; omega, d4, by omega, fun a H5 a0 a1 b5 d5 => ?_⟩
    rw [List.length_map] at a1
    obtain ⟨m, rfl⟩ := Int.eq_ofNat_of_zero_le a0
    have hm : m < xs.length := by omega
    have gm : xs[m]? = some xs[m] := List.getElem?_eq_getElem hm
    have mm : xs[m] ∈ xs := List.getElem_mem hm
    generalize xs[m] = z at gm mm
    have gv : (xs.map fun l => V.str (Sg l))[m]? = some (.str (Sg z)) := by rw [List.getElem?_map, gm]; rfl
    have e5 := b5 R _ Rd e4
    have b05 := b4.trans b5
    have b00 : ∀ {H' : Hp} {o : HO}, But d H H' → But d H (L2.upd H' R o) := fun b c o n' z => by
      rw [upd_ne (fun e => by rw [e, RH] at z; cases z)]
      exact b c o n' z
    refine ⟨fun σ H' => ∃ (o8 o9 : Option V) (xs' : List (List Nat)), σ = [some (.ref d), some (.str (Sg t)), some (.str (Str.ofString "0123456789-+_;, huesrow.")), some (.int way), some (.int (k : Int)), some (.str ⟨#[c]⟩), some (.ref R), some (.int (m : Int)), o8, o9] ∧ H' R = some (.lst (xs'.map fun l => V.str (Sg l))) ∧ Tts 2 (2 * t.length + 100) xs' ∧ But d H H' ∧ Drw H' d (n + 20), ?_, ?_⟩
    · refine ⟨_, rfl, rfl, _, rfl, ite2 (fun _ => ?_) (fun _ => ?_)⟩
      · refine ⟨_, rfl, .inl ⟨rfl, _, SqL.of e5⟩, ?_⟩
        refine ⟨_, rfl, _, rfl, R, _, rfl, .inl (SqL.of e5), _, _, rfl, rfl, d, _, n + 8, rfl, by rw [List.length_map]; omega, by rw [List.length_map]; omega, d5, by omega, fun p H6 p0 p1 b6 d6 => ?_⟩
        rw [List.length_map] at p1
        obtain ⟨p, rfl⟩ := Int.eq_ofNat_of_zero_le p0
        have e6 := b6 R _ Rd e5
        refine ⟨_, rfl, _, rfl, R, _, _, _, rfl, rfl, SqL.of e6, atI_nat gv, R, _, p, _, rfl, rfl, e6, by rw [List.length_map]; omega, Nat.lt_of_le_of_lt (show _ ≤ 90000 by rw [List.length_map]; omega) (by decide), ?_⟩
        have T' := T.ins mm p
        refine ⟨_, _, xs.take p ++ z :: xs.drop p, rfl, by rw [upd_same, map_ins], ⟨T'.asc, Nat.le_trans T'.sum (by show 2 * (t.length + 2) ≤ _; omega)⟩, b00 (b05.trans b6), (d6.updN Rd).mono (by omega)⟩
      · refine ⟨_, rfl, rfl, _, rfl, ite2 (fun _ => ?_) (fun _ => ?_)⟩
        · refine ⟨_, rfl, .inl ⟨rfl, _, SqL.of e5⟩, _, rfl, R, _, _, m, _, rfl, rfl, e5, by omega, by omega, ?_, gv, ?_⟩
          · exact (ixN_seq (ixN_nat (by rw [List.length_map]; exact hm))).1
          · have T' := T.del m
            exact ⟨_, _, xs.eraseIdx m, rfl, by rw [upd_same, map_del], ⟨T'.asc, Nat.le_trans T'.sum (by show t.length + 2 ≤ _; omega)⟩, b00 b05, (d5.updN Rd).mono (by omega)⟩
        · have zl := T.one mm
          have zl' : z.length ≤ t.length := by have : z.length + 2 ≤ t.length + 2 := zl; omega
          refine ⟨_, rfl, _, rfl, R, _, _, _, rfl, rfl, SqL.of e5, atI_nat gv, rfl, z, [32], rfl, by rw [lit_blank], by simp, by omega, fun W hW => ?_⟩
          obtain ⟨ws, hws⟩ : ∃ ws, splL z [32] = ws := ⟨_, rfl⟩
          obtain ⟨TW, y1, ys1, ey1⟩ := Tts.split hws (T.asc z mm)
          rw [hws]
          have Wd : W ≠ d := d5.ne hW
          have WR' : R ≠ W := fun e => by rw [e, hW] at e5; cases e5
          have b6 : But d H (L2.upd H5 W (.lst (ws.map fun l => V.str (Sg l)))) := b05.trans (But.new hW)
          have d6 : Drw (L2.upd H5 W (.lst (ws.map fun l => V.str (Sg l)))) d (n + 8) := d5.new hW
          have e6 : L2.upd H5 W (.lst (ws.map fun l => V.str (Sg l))) W = some (.lst (ws.map fun l => V.str (Sg l))) := upd_same
          have e6R : L2.upd H5 W (.lst (ws.map fun l => V.str (Sg l))) R = some (.lst (xs.map fun l => V.str (Sg l))) := by rw [upd_ne WR']; exact e5
          have WH : H W = none := by
            cases hq : H W with
            | none => rfl
            | some o => rw [b05 W o Wd hq] at hW; cases hW
          generalize L2.upd H5 W (.lst (ws.map fun l => V.str (Sg l))) = H6 at b6 d6 e6 e6R ⊢
          refine ⟨[57], 60, lit_nine, rfl, by decide, by decide, by decide, [57], 61, lit_nine, rfl, by decide, by decide, by decide, (by show 10 ≤ sizeLine; decide), fun S hS => ?_⟩
          have Sd : S ≠ d := d6.ne hS
          have b7 : But d H (L2.upd H6 S (.lst (somL.map fun l => V.str (Sg l)))) := b6.trans (But.new hS)
          have d7 : Drw (L2.upd H6 S (.lst (somL.map fun l => V.str (Sg l)))) d (n + 8) := d6.new hS
          have s7 : Same H6 (L2.upd H6 S (.lst (somL.map fun l => V.str (Sg l)))) := Same.upd hS
          have e7 : L2.upd H6 S (.lst (somL.map fun l => V.str (Sg l))) S = some (.lst (somL.map fun l => V.str (Sg l))) := upd_same
          rw [som_is]
          generalize L2.upd H6 S (.lst (somL.map fun l => V.str (Sg l))) = H7 at b7 d7 s7 e7 ⊢
          refine ⟨_, rfl, _, rfl, d, 10, n + 8, rfl, by decide, by decide, d7, by omega, fun i H8 i0 i1 b8 d8 => ?_⟩
          obtain ⟨i, rfl⟩ := Int.eq_ofNat_of_zero_le i0
          have hi : i < somL.length := by show i < 10; omega
          have gi : somL[i]? = some somL[i] := List.getElem?_eq_getElem hi
          have mi : somL[i] ∈ somL := List.getElem_mem hi
          generalize somL[i] = v at gi mi
          obtain ⟨vl, va⟩ := som_ok v mi
          refine ⟨S, _, _, _, rfl, rfl, SqL.of (b8 S _ Sd e7), atI_nat (v := V.str (Sg v)) (by rw [List.getElem?_map, gi]; rfl), ?_⟩
          have e8W := b8 W _ Wd (s7 _ _ e6)
          have e8R := b8 R _ Rd (s7 _ _ e6R)
          have lw : ws.length ≤ z.length + 1 := TW.len (by decide)
          have lw0 : 0 < ws.length := by rw [ey1]; exact Nat.succ_pos _
          refine ⟨_, rfl, _, rfl, _, rfl, W, _, rfl, .inl (SqL.of e8W), d, _, n + 10, rfl, by rw [List.length_map]; omega, by rw [List.length_map]; omega, d8, by omega, fun g H9 g0 g1 b9 d9 => ?_⟩
          rw [List.length_map] at g1
          obtain ⟨g, rfl⟩ := Int.eq_ofNat_of_zero_le g0
          refine ⟨W, _, _, g, rfl, rfl, b9 W _ Wd e8W, ixN_nat (by rw [List.length_map]; omega), ?_⟩
          rw [map_set']
          have TW' := TW.put va (m := 62) (by show v.length + 1 ≤ 62; omega) g
          have b10 : But d H (L2.upd H9 W (.lst ((ws.set g v).map fun l => V.str (Sg l)))) := fun c o n' z => by
            rw [upd_ne (fun e => by rw [e, WH] at z; cases z)]
            exact b9 c o n' (b8 c o n' (b7 c o n' z))
          have d10 : Drw (L2.upd H9 W (.lst ((ws.set g v).map fun l => V.str (Sg l)))) d (n + 12) := d9.updN Wd
          have e10 : L2.upd H9 W (.lst ((ws.set g v).map fun l => V.str (Sg l))) W = some (.lst ((ws.set g v).map fun l => V.str (Sg l))) := upd_same
          have e10R : L2.upd H9 W (.lst ((ws.set g v).map fun l => V.str (Sg l))) R = some (.lst (xs.map fun l => V.str (Sg l))) := by rw [upd_ne WR']; exact b9 R _ Rd e8R
          generalize L2.upd H9 W (.lst ((ws.set g v).map fun l => V.str (Sg l))) = H10 at b10 d10 e10 e10R ⊢
          obtain ⟨gl, ga⟩ := TW'.glue (sep := [32]) rfl (by decide)
          have TWs := TW'.sum
          refine ⟨rfl, _, rfl, [32], W, ws.set g v, by rw [lit_blank], rfl, SqL.of e10, sz100 (Nat.le_trans TWs (by show z.length + 1 + 62 ≤ _; omega)), sz100 (Nat.le_trans gl (by show z.length + 1 + 62 ≤ _; omega)), ?_⟩
          refine ⟨_, rfl, _, rfl, R, _, _, m, rfl, rfl, e10R, ixN_nat (by rw [List.length_map]; exact hm), ?_⟩
          rw [map_set']
          have T' := T.put ga (m := z.length + 65) (by have : (glueL [32] (ws.set g v)).length ≤ z.length + 1 + 62 := gl; show _ + 2 ≤ _; omega) m
          exact ⟨_, _, xs.set m (glueL [32] (ws.set g v)), rfl, upd_same, ⟨T'.asc, Nat.le_trans T'.sum (by show t.length + 2 + (z.length + 65) ≤ _; omega)⟩, b00 b10, (d10.updN Rd).mono (by omega)⟩
    · rintro σ H6 ⟨o8, o9, xs', rfl, e6, T', b6, d6⟩
      obtain ⟨gl, ga⟩ := T'.glue (sep := [59, 32]) rfl (by decide)
      refine ⟨rfl, _, rfl, [59, 32], R, xs', by rw [lit_semi], rfl, SqL.of e6, sz100 (Nat.le_trans T'.sum (by omega)), sz100 (Nat.le_trans gl (by omega)), ?_⟩
      exact q _ H6 gl ga b6 d6
end
section
variable {P : Program} {w : World} {K : PySem.W.Frag} {mg : Str → Option Value} {base : Heap}
def Gd (A : List (List Nat)) : Prop := ∀ x ∈ A, x.length ≤ 2000 ∧ ∀ c ∈ x, c < 128
def cpsL (ss : List String) : List (List Nat) := ss.map fun s => (Str.ofString s).cps.toList
theorem cps_is (ss : List String) : (ss.map fun s => V.str (Str.ofString s)) = (cpsL ss).map fun l => V.str (Sg l) := by
  unfold cpsL
  rw [List.map_map]
  exact List.map_congr_left fun s _ => by rw [Function.comp, Sg.of]
def gdB (ss : List String) : Bool := (cpsL ss).all fun x => decide (x.length ≤ 2000) && x.all fun c => decide (c < 128)
theorem gd_of {ss : List String} (h : gdB ss = true) : Gd (cpsL ss) := fun x hx => by
  have := List.all_eq_true.mp h x hx
  rw [Bool.and_eq_true, decide_eq_true_iff, List.all_eq_true] at this
  exact ⟨this.1, fun c hc => by simpa using this.2 c hc⟩
theorem Gd.app {A B : List (List Nat)} (a : Gd A) (b : Gd B) : Gd (A ++ B) := fun x hx => (List.mem_append.mp hx).elim (a x) (b x)
structure OddS (H H1 : Hp) (S : Addr) (k : Nat) (A : List (List Nat)) : Prop where
  same : Same H H1
  at_ : H1 S = some (.lst (A.map fun l => V.str (Sg l)))
  new : H S = none
  good : Gd A
  len : A.length = k
theorem odd_one {H : Hp} {S : Addr} {ss : List String} {vs : List V} (h : H S = none) (e : vs = ss.map fun s => V.str (Str.ofString s)) (g : gdB ss = true) : OddS H (L2.upd H S (.lst vs)) S ss.length (cpsL ss) :=
  ⟨Same.upd h, by rw [upd_same, e, cps_is], h, gd_of g, by unfold cpsL; rw [List.length_map]⟩
theorem odd_step {H H1 : Hp} {S l p : Addr} {k : Nat} {A : List (List Nat)} {ss : List String} {vs : List V} (O : OddS H H1 S k A) (hl : H1 l = none) (hp : L2.upd H1 l (.lst vs) p = none) (e : vs = ss.map fun s => V.str (Str.ofString s)) (g : gdB ss = true) : OddS H (L2.upd (L2.upd H1 l (.lst vs)) p (.lst ((A.map fun l => V.str (Sg l)) ++ vs))) p (k + ss.length) (A ++ cpsL ss) := by
  have s1 : Same H1 (L2.upd H1 l (.lst vs)) := Same.upd hl
  refine ⟨(O.same.trans s1).trans (Same.upd hp), ?_, ?_, O.good.app (gd_of g), by rw [List.length_append, O.len]; unfold cpsL; rw [List.length_map]⟩
  · rw [upd_same, e, cps_is, List.map_append]
  · cases hq : H p with
    | none => rfl
    | some o => rw [s1 _ _ (O.same _ _ hq)] at hp; cases hp
def oT1 (m : Nat) : List (List Nat) := [104, 117, 101, 115] :: List.replicate m [51]
def oT2 (m : Nat) : List (List Nat) := [114, 111, 119] :: List.replicate m [45, 50]
def oT3 (m : Nat) : List (List Nat) := glueL [32] (oT1 m) :: List.replicate m (glueL [32] (oT2 m))
theorem rep_one (m : Nat) (x : V) : (List.replicate m [x]).flatten = List.replicate m x := by
  induction m with
  | zero => rfl
  | succ m ih => rw [List.replicate_succ, List.flatten_cons, ih, List.replicate_succ]; rfl
theorem oT_ok : ∀ m, m = 8 ∨ m = 9 → (((oT1 m).map fun l => l.length + [32].length).sum ≤ 2000 ∧ (glueL [32] (oT1 m)).length ≤ 2000) ∧ (((oT2 m).map fun l => l.length + [32].length).sum ≤ 2000 ∧ (glueL [32] (oT2 m)).length ≤ 2000) ∧ (((oT3 m).map fun l => l.length + [59, 32].length).sum ≤ 2000 ∧ (glueL [59, 32] (oT3 m)).length ≤ 2000) ∧ ∀ c ∈ glueL [59, 32] (oT3 m), c < 128 := by
  rintro m (rfl | rfl) <;> decide +kernel
def spOdd : Sp := fun vs H Q _ => vs = [] ∧ ∀ R xs H', Same H H' → H' R = some (.lst (xs.map fun l => V.str (Sg l))) → Gd xs → xs.length ≤ 40 → Q (.ref R) H'
abbrev nOdd : List Str := ["_law_some", "_law_many", "_law_rows"]
theorem scOdd : FnScope nOdd [] (defScope sOdd) := ⟨rfl, rfl, rfl, by decide +kernel, rfl, by decide +kernel, by decide +kernel⟩
theorem lit_three : V.str (Str.ofString "3") = .str (Sg [51]) := congrArg V.str (by decide +kernel)
theorem lit_mtwo : V.str (Str.ofString "-2") = .str (Sg [45, 50]) := congrArg V.str (by decide +kernel)
theorem ok_odd {f : Addr} {fd : FuncData} (F : Fun K "_law_odd" "_law_odd" sOdd f fd) : FnOk P w K mg base CX0 1 f fd [] spOdd := by
  refine F.ok scOdd (fun vs H Q E h => ?_) (fun cdv A outer s H vs Q E hr h => ?_)
  · obtain ⟨rfl, _⟩ := h
    rfl
  · obtain ⟨rfl, q⟩ := h
    refine ⟨_, @QSs.o _ _ _ (w_cons (w_set 0 scOdd.nd rfl (Or.inl rfl) (qe_lst (qa_cons ⟨pe_str⟩ (qa_cons ⟨pe_str⟩ (qa_cons ⟨pe_str⟩ (qa_cons ⟨pe_str⟩ (qa_cons ⟨pe_str⟩ (qa_cons ⟨pe_str⟩ (qa_cons ⟨pe_str⟩ (qa_cons ⟨pe_str⟩ qa_nil))))))))))
      (w_cons (w_set 0 scOdd.nd rfl (Or.inl rfl) (v_op op_cat ⟨pv 0⟩ (qe_lst (qa_cons ⟨pe_str⟩ (qa_cons ⟨pe_str⟩ qa_nil)))))
      (w_cons (w_set 0 scOdd.nd rfl (Or.inl rfl) (v_op op_cat ⟨pv 0⟩ (qe_lst (qa_cons ⟨pe_str⟩ (qa_cons ⟨pe_str⟩ (qa_cons ⟨pe_str⟩ (qa_cons ⟨pe_str⟩ qa_nil)))))))
      (w_cons (w_set 0 scOdd.nd rfl (Or.inl rfl) (v_op op_cat ⟨pv 0⟩ (qe_lst (qa_cons ⟨pe_str⟩ (qa_cons ⟨pe_str⟩ qa_nil)))))
      (w_cons (w_set 0 scOdd.nd rfl (Or.inl rfl) (v_op op_cat ⟨pv 0⟩ (qe_lst (qa_cons ⟨pe_str⟩ (qa_cons ⟨pe_str⟩ (qa_cons ⟨pe_str⟩ qa_nil))))))
      (w_cons (w_set 0 scOdd.nd rfl (Or.inl rfl) (v_op op_cat ⟨pv 0⟩ (qe_lst (qa_cons ⟨pe_str⟩ qa_nil))))
      (w_cons (w_set 0 scOdd.nd rfl (Or.inl rfl) (v_op op_cat ⟨pv 0⟩ (qe_lst (qa_cons ⟨pe_str⟩ (qa_cons ⟨pe_str⟩ (qa_cons ⟨pe_str⟩ (qa_cons ⟨pe_str⟩ qa_nil)))))))
      (w_cons (w_set 0 scOdd.nd rfl (Or.inl rfl) (v_op op_cat ⟨pv 0⟩ (qe_lst (qa_cons ⟨pe_str⟩ (qa_cons ⟨pe_str⟩ qa_nil)))))
      (w_cons (w_for PassesOwn.never rfl (i_list (qe_lst (qa_cons ⟨pe_int⟩ (qa_cons ⟨pe_int⟩ qa_nil)))) (g_name 1 scOdd.nd rfl (Or.inl rfl)) (w_cons (w_set 2 scOdd.nd rfl (Or.inl rfl) (qe_lst (qa_cons (v_bm PySem.F.plainAttrs_str PySem.F.slot_str_join PySem.F.type_str_join mt_join ⟨pe_str⟩ (qa_cons (v_op op_cat (qe_lst (qa_cons ⟨pe_str⟩ qa_nil)) (v_op op_rep (qe_lst (qa_cons ⟨pe_str⟩ qa_nil)) ⟨pv 1⟩)) qa_nil)) qa_nil)))
      (w_one (w_expr (v_bm PySem.F.plainAttrs_list PySem.F.slot_list_append PySem.F.type_list_append mt_append ⟨pv 0⟩ (qa_cons (v_bm PySem.F.plainAttrs_str PySem.F.slot_str_join PySem.F.type_str_join mt_join ⟨pe_str⟩ (qa_cons (v_op op_cat ⟨pv 2⟩ (v_op op_rep (qe_lst (qa_cons (v_bm PySem.F.plainAttrs_str PySem.F.slot_str_join PySem.F.type_str_join mt_join ⟨pe_str⟩ (qa_cons (v_op op_cat (qe_lst (qa_cons ⟨pe_str⟩ qa_nil)) (v_op op_rep (qe_lst (qa_cons ⟨pe_str⟩ qa_nil)) ⟨pv 1⟩)) qa_nil)) qa_nil)) ⟨pv 1⟩)) qa_nil)) qa_nil))))))
      (w_one (w_ret ⟨pv 0⟩))))))))))), ?_⟩
    refine ⟨(by show 8 ≤ sizeLine; decide), fun S0 hS0 => ?_⟩
    have O0 := odd_one (ss := ["", " ", "hues ", "hues;", "hues; ", "hues; row", "hues 0", "hues 0; row"]) (vs := [V.str (Str.ofString ""), V.str (Str.ofString " "), V.str (Str.ofString "hues "), V.str (Str.ofString "hues;"), V.str (Str.ofString "hues; "), V.str (Str.ofString "hues; row"), V.str (Str.ofString "hues 0"), V.str (Str.ofString "hues 0; row")]) hS0 rfl (by decide +kernel)
    generalize L2.upd H S0 (.lst [V.str (Str.ofString ""), V.str (Str.ofString " "), V.str (Str.ofString "hues "), V.str (Str.ofString "hues;"), V.str (Str.ofString "hues; "), V.str (Str.ofString "hues; row"), V.str (Str.ofString "hues 0"), V.str (Str.ofString "hues 0; row")]) = H0 at O0 ⊢
    generalize cpsL ["", " ", "hues ", "hues;", "hues; ", "hues; row", "hues 0", "hues 0; row"] = A0 at O0
    replace O0 : OddS H H0 S0 8 A0 := O0
    refine ⟨_, rfl, (by show 2 ≤ sizeLine; decide), fun l0 hl0 => ⟨S0, l0, _, _, rfl, rfl, Same.upd hl0 _ _ O0.at_, upd_same, Nat.le_of_lt (small1000 (by rw [List.length_map, O0.len]; decide)), fun S1 hS1 => ?_⟩⟩
    have O1 := odd_step (ss := ["hues 0; row 1", "hues 0; row 1;"]) (vs := [V.str (Str.ofString "hues 0; row 1"), V.str (Str.ofString "hues 0; row 1;")]) O0 hl0 hS1 rfl (by decide +kernel)
    generalize L2.upd (L2.upd H0 l0 (.lst [V.str (Str.ofString "hues 0; row 1"), V.str (Str.ofString "hues 0; row 1;")])) S1 (.lst ((A0.map fun l => V.str (Sg l)) ++ [V.str (Str.ofString "hues 0; row 1"), V.str (Str.ofString "hues 0; row 1;")])) = H1 at O1 ⊢
    generalize A0 ++ cpsL ["hues 0; row 1", "hues 0; row 1;"] = A1 at O1
    replace O1 : OddS H H1 S1 10 A1 := O1
    refine ⟨_, rfl, (by show 4 ≤ sizeLine; decide), fun l1 hl1 => ⟨S1, l1, _, _, rfl, rfl, Same.upd hl1 _ _ O1.at_, upd_same, Nat.le_of_lt (small1000 (by rw [List.length_map, O1.len]; decide)), fun S2 hS2 => ?_⟩⟩
    have O2 := odd_step (ss := ["hues 0;row 1", "hues 0 ; row 1", "hues  0; row 1", "hue 0; row 1"]) (vs := [V.str (Str.ofString "hues 0;row 1"), V.str (Str.ofString "hues 0 ; row 1"), V.str (Str.ofString "hues  0; row 1"), V.str (Str.ofString "hue 0; row 1")]) O1 hl1 hS2 rfl (by decide +kernel)
    generalize L2.upd (L2.upd H1 l1 (.lst [V.str (Str.ofString "hues 0;row 1"), V.str (Str.ofString "hues 0 ; row 1"), V.str (Str.ofString "hues  0; row 1"), V.str (Str.ofString "hue 0; row 1")])) S2 (.lst ((A1.map fun l => V.str (Sg l)) ++ [V.str (Str.ofString "hues 0;row 1"), V.str (Str.ofString "hues 0 ; row 1"), V.str (Str.ofString "hues  0; row 1"), V.str (Str.ofString "hue 0; row 1")])) = H2 at O2 ⊢
    generalize A1 ++ cpsL ["hues 0;row 1", "hues 0 ; row 1", "hues  0; row 1", "hue 0; row 1"] = A2 at O2
    replace O2 : OddS H H2 S2 14 A2 := O2
    refine ⟨_, rfl, (by show 2 ≤ sizeLine; decide), fun l2 hl2 => ⟨S2, l2, _, _, rfl, rfl, Same.upd hl2 _ _ O2.at_, upd_same, Nat.le_of_lt (small1000 (by rw [List.length_map, O2.len]; decide)), fun S3 hS3 => ?_⟩⟩
    have O3 := odd_step (ss := ["Hues 0; row 1", "hues 0; rows 1"]) (vs := [V.str (Str.ofString "Hues 0; row 1"), V.str (Str.ofString "hues 0; rows 1")]) O2 hl2 hS3 rfl (by decide +kernel)
    generalize L2.upd (L2.upd H2 l2 (.lst [V.str (Str.ofString "Hues 0; row 1"), V.str (Str.ofString "hues 0; rows 1")])) S3 (.lst ((A2.map fun l => V.str (Sg l)) ++ [V.str (Str.ofString "Hues 0; row 1"), V.str (Str.ofString "hues 0; rows 1")])) = H3 at O3 ⊢
    generalize A2 ++ cpsL ["Hues 0; row 1", "hues 0; rows 1"] = A3 at O3
    replace O3 : OddS H H3 S3 16 A3 := O3
    refine ⟨_, rfl, (by show 3 ≤ sizeLine; decide), fun l3 hl3 => ⟨S3, l3, _, _, rfl, rfl, Same.upd hl3 _ _ O3.at_, upd_same, Nat.le_of_lt (small1000 (by rw [List.length_map, O3.len]; decide)), fun S4 hS4 => ?_⟩⟩
    have O4 := odd_step (ss := ["hues 0; row 1 2", "hues 0; row 1; row 1", "hues 0 1; row 1 2; row 3 4"]) (vs := [V.str (Str.ofString "hues 0; row 1 2"), V.str (Str.ofString "hues 0; row 1; row 1"), V.str (Str.ofString "hues 0 1; row 1 2; row 3 4")]) O3 hl3 hS4 rfl (by decide +kernel)
    generalize L2.upd (L2.upd H3 l3 (.lst [V.str (Str.ofString "hues 0; row 1 2"), V.str (Str.ofString "hues 0; row 1; row 1"), V.str (Str.ofString "hues 0 1; row 1 2; row 3 4")])) S4 (.lst ((A3.map fun l => V.str (Sg l)) ++ [V.str (Str.ofString "hues 0; row 1 2"), V.str (Str.ofString "hues 0; row 1; row 1"), V.str (Str.ofString "hues 0 1; row 1 2; row 3 4")])) = H4 at O4 ⊢
    generalize A3 ++ cpsL ["hues 0; row 1 2", "hues 0; row 1; row 1", "hues 0 1; row 1 2; row 3 4"] = A4 at O4
    replace O4 : OddS H H4 S4 19 A4 := O4
    refine ⟨_, rfl, (by show 1 ≤ sizeLine; decide), fun l4 hl4 => ⟨S4, l4, _, _, rfl, rfl, Same.upd hl4 _ _ O4.at_, upd_same, Nat.le_of_lt (small1000 (by rw [List.length_map, O4.len]; decide)), fun S5 hS5 => ?_⟩⟩
    have O5 := odd_step (ss := ["hues 0 1; row 1 2; row 2 4"]) (vs := [V.str (Str.ofString "hues 0 1; row 1 2; row 2 4")]) O4 hl4 hS5 rfl (by decide +kernel)
    generalize L2.upd (L2.upd H4 l4 (.lst [V.str (Str.ofString "hues 0 1; row 1 2; row 2 4")])) S5 (.lst ((A4.map fun l => V.str (Sg l)) ++ [V.str (Str.ofString "hues 0 1; row 1 2; row 2 4")])) = H5 at O5 ⊢
    generalize A4 ++ cpsL ["hues 0 1; row 1 2; row 2 4"] = A5 at O5
    replace O5 : OddS H H5 S5 20 A5 := O5
    refine ⟨_, rfl, (by show 4 ≤ sizeLine; decide), fun l5 hl5 => ⟨S5, l5, _, _, rfl, rfl, Same.upd hl5 _ _ O5.at_, upd_same, Nat.le_of_lt (small1000 (by rw [List.length_map, O5.len]; decide)), fun S6 hS6 => ?_⟩⟩
    have O6 := odd_step (ss := ["hues -1; row 1", "hues +1; row 1", "hues 1; row 1/2", "hues 1; row -1"]) (vs := [V.str (Str.ofString "hues -1; row 1"), V.str (Str.ofString "hues +1; row 1"), V.str (Str.ofString "hues 1; row 1/2"), V.str (Str.ofString "hues 1; row -1")]) O5 hl5 hS6 rfl (by decide +kernel)
    generalize L2.upd (L2.upd H5 l5 (.lst [V.str (Str.ofString "hues -1; row 1"), V.str (Str.ofString "hues +1; row 1"), V.str (Str.ofString "hues 1; row 1/2"), V.str (Str.ofString "hues 1; row -1")])) S6 (.lst ((A5.map fun l => V.str (Sg l)) ++ [V.str (Str.ofString "hues -1; row 1"), V.str (Str.ofString "hues +1; row 1"), V.str (Str.ofString "hues 1; row 1/2"), V.str (Str.ofString "hues 1; row -1")])) = H6 at O6 ⊢
    generalize A5 ++ cpsL ["hues -1; row 1", "hues +1; row 1", "hues 1; row 1/2", "hues 1; row -1"] = A6 at O6
    replace O6 : OddS H H6 S6 24 A6 := O6
    refine ⟨_, rfl, (by show 2 ≤ sizeLine; decide), fun l6 hl6 => ⟨S6, l6, _, _, rfl, rfl, Same.upd hl6 _ _ O6.at_, upd_same, Nat.le_of_lt (small1000 (by rw [List.length_map, O6.len]; decide)), fun S7 hS7 => ?_⟩⟩
    have O7 := odd_step (ss := ["row 1; hues 0", "hues 1 0"]) (vs := [V.str (Str.ofString "row 1; hues 0"), V.str (Str.ofString "hues 1 0")]) O6 hl6 hS7 rfl (by decide +kernel)
    generalize L2.upd (L2.upd H6 l6 (.lst [V.str (Str.ofString "row 1; hues 0"), V.str (Str.ofString "hues 1 0")])) S7 (.lst ((A6.map fun l => V.str (Sg l)) ++ [V.str (Str.ofString "row 1; hues 0"), V.str (Str.ofString "hues 1 0")])) = H7 at O7 ⊢
    generalize A6 ++ cpsL ["row 1; hues 0", "hues 1 0"] = A7 at O7
    replace O7 : OddS H H7 S7 26 A7 := O7
    clear O0 O1 O2 O3 O4 O5 O6
    refine ⟨(by show 2 ≤ sizeLine; decide), fun lA hlA => ?_⟩
    have s8 : Same H7 (L2.upd H7 lA (.lst [.int 8, .int 9])) := Same.upd hlA
    have e8 : L2.upd H7 lA (.lst [.int 8, .int 9]) lA = some (.lst [.int 8, .int 9]) := upd_same
    have lS : lA ≠ S7 := fun e => by rw [e, O7.at_] at hlA; cases hlA
    generalize L2.upd H7 lA (.lst [.int 8, .int 9]) = H8 at s8 e8 ⊢
    refine ⟨lA, rfl, ⟨_, SqL.of e8⟩, for_list (K := K) (a := lA) (xs := [.int 8, .int 9]) (fun i σ H' => ∃ (A : List (List Nat)) (o1 o2 : Option V), σ = [some (.ref S7), o1, o2] ∧ OddS H H' S7 (26 + i) A ∧ H' lA = some (.lst [.int 8, .int 9])) ⟨A7, _, _, rfl, ⟨O7.same.trans s8, s8 _ _ O7.at_, O7.new, O7.good, O7.len⟩, e8⟩ (fun i σ H' _ ⟨_, _, _, _, _, e⟩ => SqL.of e) ?_ ?_⟩
    · rintro i x σ H1 hx ⟨A, o1, o2, rfl, O, eA⟩
      obtain ⟨m, hm, rfl⟩ : ∃ m : Nat, (m = 8 ∨ m = 9) ∧ x = .int (m : Int) := by
        match i, hx with
        | 0, hx => exact ⟨8, .inl rfl, (Option.some.inj hx).symm⟩
        | 1, hx => exact ⟨9, .inr rfl, (Option.some.inj hx).symm⟩
      have hi : i < 2 := (List.getElem?_eq_some_iff.mp hx).1
      obtain ⟨⟨a1, a2⟩, ⟨c1, c2⟩, ⟨d1, d2⟩, d3⟩ := oT_ok m hm
      have m9 : m ≤ 9 := by omega
      refine ⟨rfl, (by show 1 ≤ sizeLine; decide), fun p1 hp1 => ?_⟩
      have t1 : Same H1 (L2.upd H1 p1 (.lst [V.str (Str.ofString "hues")])) := Same.upd hp1
      have g1 : L2.upd H1 p1 (.lst [V.str (Str.ofString "hues")]) p1 = some (.lst [V.str (Str.ofString "hues")]) := upd_same
      generalize L2.upd H1 p1 (.lst [V.str (Str.ofString "hues")]) = H2 at t1 g1 ⊢
      refine ⟨(by show 1 ≤ sizeLine; decide), fun p2 hp2 => ?_⟩
      have t2 : Same H2 (L2.upd H2 p2 (.lst [V.str (Str.ofString "3")])) := Same.upd hp2
      have g2 : L2.upd H2 p2 (.lst [V.str (Str.ofString "3")]) p2 = some (.lst [V.str (Str.ofString "3")]) := upd_same
      generalize L2.upd H2 p2 (.lst [V.str (Str.ofString "3")]) = H3 at t2 g2 ⊢
      refine ⟨_, rfl, p2, _, _, rfl, rfl, g2, by omega, by omega, Nat.le_of_lt (small1000 (by rw [Int.toNat_natCast]; show 1 * m ≤ 1000; omega)), fun p3 hp3 => ?_⟩
      rw [Int.toNat_natCast, rep_one]
      have t3 : Same H3 (L2.upd H3 p3 (.lst (List.replicate m (V.str (Str.ofString "3"))))) := Same.upd hp3
      have g3 : L2.upd H3 p3 (.lst (List.replicate m (V.str (Str.ofString "3")))) p3 = some (.lst (List.replicate m (V.str (Str.ofString "3")))) := upd_same
      generalize L2.upd H3 p3 (.lst (List.replicate m (V.str (Str.ofString "3")))) = H4 at t3 g3 ⊢
      refine ⟨p1, p3, _, _, rfl, rfl, t3 _ _ (t2 _ _ g1), g3, Nat.le_of_lt (small1000 (by rw [List.length_replicate]; show 1 + m ≤ 1000; omega)), fun p4 hp4 => ?_⟩
      have q4 : ([V.str (Str.ofString "hues")] ++ List.replicate m (V.str (Str.ofString "3"))) = (oT1 m).map fun l => V.str (Sg l) := by
        unfold oT1
        rw [List.map_cons, List.map_replicate, ← lit_hues, ← lit_three]
        rfl
      rw [q4]
      have t4 : Same H4 (L2.upd H4 p4 (.lst ((oT1 m).map fun l => V.str (Sg l)))) := Same.upd hp4
      have g4 : L2.upd H4 p4 (.lst ((oT1 m).map fun l => V.str (Sg l))) p4 = some (.lst ((oT1 m).map fun l => V.str (Sg l))) := upd_same
      generalize L2.upd H4 p4 (.lst ((oT1 m).map fun l => V.str (Sg l))) = H5 at t4 g4 ⊢
      refine ⟨[32], p4, oT1 m, by rw [lit_blank], rfl, SqL.of g4, sz100 (Nat.le_trans a1 (by decide)), sz100 (Nat.le_trans a2 (by decide)), ?_⟩
      refine ⟨(by show 1 ≤ sizeLine; decide), fun p5 hp5 => ?_⟩
      have t5 : Same H5 (L2.upd H5 p5 (.lst [V.str (Sg (glueL [32] (oT1 m)))])) := Same.upd hp5
      have g5 : L2.upd H5 p5 (.lst [V.str (Sg (glueL [32] (oT1 m)))]) p5 = some (.lst [V.str (Sg (glueL [32] (oT1 m)))]) := upd_same
      generalize L2.upd H5 p5 (.lst [V.str (Sg (glueL [32] (oT1 m)))]) = H6 at t5 g5 ⊢
      have t15 : Same H1 H6 := (((t1.trans t2).trans t3).trans t4).trans t5
      refine ⟨_, rfl, .inl ⟨rfl, _, SqL.of (t15 _ _ O.at_)⟩, rfl, _, rfl, rfl, (by show 1 ≤ sizeLine; decide), fun r1 hr1 => ?_⟩
      have u1 : Same H6 (L2.upd H6 r1 (.lst [V.str (Str.ofString "row")])) := Same.upd hr1
      have f1 : L2.upd H6 r1 (.lst [V.str (Str.ofString "row")]) r1 = some (.lst [V.str (Str.ofString "row")]) := upd_same
      generalize L2.upd H6 r1 (.lst [V.str (Str.ofString "row")]) = J1 at u1 f1 ⊢
      refine ⟨(by show 1 ≤ sizeLine; decide), fun r2 hr2 => ?_⟩
      have u2 : Same J1 (L2.upd J1 r2 (.lst [V.str (Str.ofString "-2")])) := Same.upd hr2
      have f2 : L2.upd J1 r2 (.lst [V.str (Str.ofString "-2")]) r2 = some (.lst [V.str (Str.ofString "-2")]) := upd_same
      generalize L2.upd J1 r2 (.lst [V.str (Str.ofString "-2")]) = J2 at u2 f2 ⊢
      refine ⟨_, rfl, r2, _, _, rfl, rfl, f2, by omega, by omega, Nat.le_of_lt (small1000 (by rw [Int.toNat_natCast]; show 1 * m ≤ 1000; omega)), fun r3 hr3 => ?_⟩
      rw [Int.toNat_natCast, rep_one]
      have u3 : Same J2 (L2.upd J2 r3 (.lst (List.replicate m (V.str (Str.ofString "-2"))))) := Same.upd hr3
      have f3 : L2.upd J2 r3 (.lst (List.replicate m (V.str (Str.ofString "-2")))) r3 = some (.lst (List.replicate m (V.str (Str.ofString "-2")))) := upd_same
      generalize L2.upd J2 r3 (.lst (List.replicate m (V.str (Str.ofString "-2")))) = J3 at u3 f3 ⊢
      refine ⟨r1, r3, _, _, rfl, rfl, u3 _ _ (u2 _ _ f1), f3, Nat.le_of_lt (small1000 (by rw [List.length_replicate]; show 1 + m ≤ 1000; omega)), fun r4 hr4 => ?_⟩
      have q5 : ([V.str (Str.ofString "row")] ++ List.replicate m (V.str (Str.ofString "-2"))) = (oT2 m).map fun l => V.str (Sg l) := by
        unfold oT2
        rw [List.map_cons, List.map_replicate, ← lit_row, ← lit_mtwo]
        rfl
      rw [q5]
      have u4 : Same J3 (L2.upd J3 r4 (.lst ((oT2 m).map fun l => V.str (Sg l)))) := Same.upd hr4
      have f4 : L2.upd J3 r4 (.lst ((oT2 m).map fun l => V.str (Sg l))) r4 = some (.lst ((oT2 m).map fun l => V.str (Sg l))) := upd_same
      generalize L2.upd J3 r4 (.lst ((oT2 m).map fun l => V.str (Sg l))) = J4 at u4 f4 ⊢
      refine ⟨[32], r4, oT2 m, by rw [lit_blank], rfl, SqL.of f4, sz100 (Nat.le_trans c1 (by decide)), sz100 (Nat.le_trans c2 (by decide)), ?_⟩
      refine ⟨(by show 1 ≤ sizeLine; decide), fun r5 hr5 => ?_⟩
      have u5 : Same J4 (L2.upd J4 r5 (.lst [V.str (Sg (glueL [32] (oT2 m)))])) := Same.upd hr5
      have f5 : L2.upd J4 r5 (.lst [V.str (Sg (glueL [32] (oT2 m)))]) r5 = some (.lst [V.str (Sg (glueL [32] (oT2 m)))]) := upd_same
      generalize L2.upd J4 r5 (.lst [V.str (Sg (glueL [32] (oT2 m)))]) = J5 at u5 f5 ⊢
      refine ⟨_, rfl, r5, _, _, rfl, rfl, f5, by omega, by omega, Nat.le_of_lt (small1000 (by rw [Int.toNat_natCast]; show 1 * m ≤ 1000; omega)), fun r6 hr6 => ?_⟩
      rw [Int.toNat_natCast, rep_one]
      have u6 : Same J5 (L2.upd J5 r6 (.lst (List.replicate m (V.str (Sg (glueL [32] (oT2 m))))))) := Same.upd hr6
      have f6 : L2.upd J5 r6 (.lst (List.replicate m (V.str (Sg (glueL [32] (oT2 m)))))) r6 = some (.lst (List.replicate m (V.str (Sg (glueL [32] (oT2 m)))))) := upd_same
      generalize L2.upd J5 r6 (.lst (List.replicate m (V.str (Sg (glueL [32] (oT2 m)))))) = J6 at u6 f6 ⊢
      have u16 : Same H6 J6 := ((((u1.trans u2).trans u3).trans u4).trans u5).trans u6
      refine ⟨p5, r6, _, _, rfl, rfl, u16 _ _ g5, f6, Nat.le_of_lt (small1000 (by rw [List.length_replicate]; show 1 + m ≤ 1000; omega)), fun r7 hr7 => ?_⟩
      have q6 : ([V.str (Sg (glueL [32] (oT1 m)))] ++ List.replicate m (V.str (Sg (glueL [32] (oT2 m))))) = (oT3 m).map fun l => V.str (Sg l) := by
        unfold oT3
        rw [List.map_cons, List.map_replicate]
        rfl
      rw [q6]
      have u7 : Same J6 (L2.upd J6 r7 (.lst ((oT3 m).map fun l => V.str (Sg l)))) := Same.upd hr7
      have f7 : L2.upd J6 r7 (.lst ((oT3 m).map fun l => V.str (Sg l))) r7 = some (.lst ((oT3 m).map fun l => V.str (Sg l))) := upd_same
      generalize L2.upd J6 r7 (.lst ((oT3 m).map fun l => V.str (Sg l))) = J7 at u7 f7 ⊢
      refine ⟨[59, 32], r7, oT3 m, by rw [lit_semi], rfl, SqL.of f7, sz100 (Nat.le_trans d1 (by decide)), sz100 (Nat.le_trans d2 (by decide)), ?_⟩
      have sA : Same H1 J7 := (t15.trans u16).trans u7
      refine ⟨S7, _, _, rfl, rfl, sA _ _ O.at_, small1000 (by rw [List.length_map, O.len]; omega), ?_⟩
      refine ⟨A ++ [glueL [59, 32] (oT3 m)], _, _, rfl, ⟨fun b o z => ?_, ?_, O.new, O.good.app fun x hx => by rw [List.mem_singleton.mp hx]; exact ⟨d2, d3⟩, by rw [List.length_append, O.len]; rfl⟩, by rw [upd_ne lS]; exact sA _ _ eA⟩
      · rw [upd_ne (ne_of_none z O.new)]
        exact sA _ _ (O.same _ _ z)
      · rw [upd_same, List.map_append]
        rfl
    · rintro σ H1 ⟨A, o1, o2, rfl, O, eA⟩
      refine ⟨_, rfl, ?_⟩
      exact q S7 A H1 O.same O.at_ O.good (by rw [O.len]; show 26 + 2 ≤ 40; decide)
end
section
variable {P : Program} {w : World} {K : PySem.W.Frag} {mg : Str → Option Value} {base : Heap}
def spLaw (K : PySem.W.Frag) : Sp := fun vs H Q _ => ∃ (a : Addr) (ns : List Int), vs = [.ref a] ∧ SqL K H a (ns.map V.int) ∧ ns.length ≤ 63 ∧ ∀ H', Q (.bl true) H'
theorem cut_ints (ns : List Int) (lo hi : Option Int) : ∃ ms : List Int, cutV (ns.map V.int) lo hi = ms.map V.int ∧ ms.length ≤ ns.length := by
  unfold cutV
  rw [← List.map_drop, ← List.map_take]
  exact ⟨_, rfl, by rw [List.length_take, List.length_drop]; omega⟩
theorem But.same {d : Addr} {H0 H H' : Hp} (s : Same H0 H) (hd : H0 d = none) (b : But d H H') : Same H0 H' := fun c o e => b c o (ne_of_none e (by exact hd)) (s c o e)
abbrev nLaw : List Str := ["_law_script", "_law_cell", "_law_draw", "_law_text_here", "_law_time"]
theorem scLaw : FnScope nLaw ["_law_script"] (defScope sLaw) := ⟨rfl, rfl, rfl, by decide +kernel, rfl, by decide +kernel, by decide +kernel⟩
theorem ok_law {f fB fW fT fJ fX fO : Addr} {fd fdB fdW fdT fdJ fdX fdO : FuncData} (B : BltX mg) (F : Fun K "law" "law" sLaw f fd)
    (DB : Dn K mg "_law_begun" sBegun ["_law_cell"] fB fdB) (GB : FnOk P w K mg base CX0 1 fB fdB ["_law_cell"] spBegun)
    (DW : Dn K mg "_law_web" sWeb ["_law_draw", "_law_most"] fW fdW) (GW : FnOk P w K mg base CX0 4 fW fdW ["_law_draw", "_law_most"] spWeb)
    (DT : Dn K mg "_law_text" sText ["_law_web_here"] fT fdT) (GT : FnOk P w K mg base CX0 1 fT fdT ["_law_web_here"] spText)
    (DJ : Dn K mg "_law_judged" sJudged ["_law_text_here"] fJ fdJ) (GJ : FnOk P w K mg base CX0 7 fJ fdJ ["_law_text_here"] spJudged)
    (DX : Dn K mg "_law_bent" sBent aBent fX fdX) (GX : FnOk P w K mg base CX0 3 fX fdX aBent spBent)
    (DO : Dn K mg "_law_odd" sOdd [] fO fdO) (GO : FnOk P w K mg base CX0 1 fO fdO [] spOdd) :
    FnOk P w K mg base CX0 8 f fd ["_law_script"] (spLaw K) := by
  refine F.ok scLaw (fun vs H Q E h => ?_) (fun cdv A outer s H vs Q E hr h => ?_)
  · obtain ⟨a, ns, rfl, _⟩ := h
    rfl
  · obtain ⟨a, ns, rfl, hSc, hlen, k⟩ := h
    have r1 := hr.mono (j := 1) (by decide)
    have r3 := hr.mono (j := 3) (by decide)
    have r4 := hr.mono (j := 4) (by decide)
    refine ⟨_, pss_cons (ps_for PassesOwn.never rfl (pi_list (pe_op op_cat (pe_slice sl_list (pv 0) po_none (po_some pe_int)) (pe_lst (pa_cons pe_int pa_nil)))) (pg_name (i := 1) scLaw.nd rfl (Or.inl rfl))
        (pss_cons (ps_set (i := 2) scLaw.nd rfl (Or.inl rfl) (pe_fn DB GB r1 rfl (pa_cons (pv 1) pa_nil)))
        (pss_cons (ps_set (i := 3) scLaw.nd rfl (Or.inl rfl) (pe_fn DT GT r1 rfl (pa_cons (pe_fn DW GW r4 rfl (pa_cons (pv 2) (pa_cons pe_int pa_nil))) pa_nil)))
        (pss_cons (ps_if (pt_not (pt_val (pe_fn DJ GJ hr rfl (pa_cons (pv 3) pa_nil)))) (pss_one (ps_ret pe_bl)) pss_nil)
        (pss_one (ps_for PassesOwn.never rfl (pi_range1 rfl B.range (pa_cons pe_int pa_nil)) (pg_name (i := 4) scLaw.nd rfl (Or.inl rfl))
          (pss_cons (ps_set (i := 3) scLaw.nd rfl (Or.inl rfl) (pe_fn DX GX r3 rfl (pa_cons (pv 2) (pa_cons (pv 3) pa_nil))))
          (pss_one (ps_if (pt_not (pt_val (pe_fn DJ GJ hr rfl (pa_cons (pv 3) pa_nil)))) (pss_one (ps_ret pe_bl)) pss_nil)))))))))
      (pss_cons (ps_for PassesOwn.never rfl (pi_list (pe_call0 GO r1 rfl DO.gl DO.fn.kp DO.bd .nil pass0)) (pg_name (i := 3) scLaw.nd rfl (Or.inl rfl))
        (pss_one (ps_if (pt_not (pt_val (pe_fn DJ GJ hr rfl (pa_cons (pv 3) pa_nil)))) (pss_one (ps_ret pe_bl)) pss_nil)))
      (pss_one (ps_ret pe_bl))), ?_⟩
    obtain ⟨ms, em, lm⟩ := cut_ints ns none (some 20)
    refine ⟨_, rfl, 20, rfl, a, _, rfl, hSc, fun p0 hp0 => ?_⟩
    rw [em]
    have s0 : Same H (L2.upd H p0 (.lst (ms.map V.int))) := Same.upd hp0
    have e0 : L2.upd H p0 (.lst (ms.map V.int)) p0 = some (.lst (ms.map V.int)) := upd_same
    generalize L2.upd H p0 (.lst (ms.map V.int)) = Ha at s0 e0 ⊢
    refine ⟨(by show 1 ≤ sizeLine; decide), fun p1 hp1 => ?_⟩
    have s1 : Same Ha (L2.upd Ha p1 (.lst [.int 0])) := Same.upd hp1
    have e1 : L2.upd Ha p1 (.lst [.int 0]) p1 = some (.lst [.int 0]) := upd_same
    generalize L2.upd Ha p1 (.lst [.int 0]) = Hb at s1 e1 ⊢
    refine ⟨p0, p1, _, _, rfl, rfl, s1 _ _ e0, e1, Nat.le_of_lt (small1000 (by rw [List.length_map]; show ms.length + 1 ≤ 1000; omega)), fun L hL => ?_⟩
    have ec : ms.map V.int ++ [V.int 0] = (ms ++ [0]).map V.int := by rw [List.map_append]; rfl
    rw [ec]
    have e2 : L2.upd Hb L (.lst ((ms ++ [0]).map V.int)) L = some (.lst ((ms ++ [0]).map V.int)) := upd_same
    generalize L2.upd Hb L (.lst ((ms ++ [0]).map V.int)) = Hc at e2 ⊢
    refine ⟨L, rfl, ⟨_, SqL.of e2⟩, for_list (xs := (ms ++ [0]).map V.int) (fun i σ H' => ∃ (o1 o2 o3 o4 : Option V), σ = [some (.ref a), o1, o2, o3, o4] ∧ Same Hc H') ⟨none, none, none, none, rfl, Same.refl _⟩ (fun i σ H' _ ⟨_, _, _, _, _, sH⟩ => SqL.of (sH _ _ e2)) ?_ ?_⟩
    · rintro i x σ H1 hx ⟨o1, o2, o3, o4, rfl, sH⟩
      obtain ⟨c, hc, rfl⟩ := map_get hx
      refine ⟨_, rfl, c, rfl, fun d H2 hd s2 dd => ?_⟩
      refine ⟨_, rfl, d, 3, 1, rfl, by decide, by decide, dd, by decide, fun H3 p hA rA rs n hs M hn b3 d3 W3 _ _ _ _ => ?_⟩
      have hc0 : Hc d = none := by
        cases hq : Hc d with
        | none => rfl
        | some o => rw [sH _ _ hq] at hd; cases hd
      have s3 : Same Hc H3 := But.same (sH.trans s2) hc0 b3
      refine ⟨p, n, hs, M, rfl, ⟨hA, rA, rs, W3.tup, W3.hue, W3.rws, W3.row⟩, W3.len, fun z hz => (W3.pos z hz).2, W3.sq, by omega, fun t H4 s4 ht at_ => ?_⟩
      have d4 : Drw H4 d 201 := let ⟨x, y, z, e, h⟩ := d3; ⟨x, y, z, s4 _ _ e, h⟩
      refine ⟨_, rfl, t, rfl, by omega, at_, fun H5 s5 => ⟨_, rfl, iteF ?_⟩⟩
      have d5 : Drw H5 d 201 := let ⟨x, y, z, e, h⟩ := d4; ⟨x, y, z, s5 _ _ e, h⟩
      have sC : Same Hc H5 := s3.trans (s4.trans s5)
      refine ⟨2, rfl, by decide, by decide, for_range (n := 2) (fun i σ H' => ∃ (t : List Nat) (o4 : Option V), σ = [some (.ref a), some (.int c), some (.ref d), some (.str (Sg t)), o4] ∧ t.length + 100 ≤ 6100 * 2 ^ i ∧ (∀ c ∈ t, c < 128) ∧ Same Hc H' ∧ Drw H' d (201 + 20 * i)) ⟨t, _, rfl, by omega, at_, sC, d5⟩ ?_ ?_⟩
      · rintro j σ H6 hj ⟨t6, o6, rfl, l6, a6, s6, d6⟩
        have lj : 6100 * 2 ^ j ≤ 12200 := by
          match j, hj with
          | 0, _ => decide
          | 1, _ => decide
        refine ⟨_, rfl, _, rfl, d, t6, _, rfl, d6, by omega, by omega, a6, fun t7 H7 l7 a7 b7 d7 => ?_⟩
        refine ⟨_, rfl, t7, rfl, by omega, a7, fun H8 s8 => ⟨_, rfl, iteF ?_⟩⟩
        refine ⟨t7, _, rfl, ?_, a7, (But.same s6 hc0 b7).trans s8, ?_⟩
        · rw [Nat.pow_succ]
          omega
        · obtain ⟨x, y, z, e, h⟩ := d7.mono (m := 201 + 20 * (j + 1)) (by omega)
          exact ⟨x, y, z, s8 _ _ e, h⟩
      · rintro σ H6 ⟨t6, o6, rfl, _, _, s6, _⟩
        exact ⟨_, _, _, _, rfl, s6⟩
    · rintro σ H1 ⟨o1, o2, o3, o4, rfl, sH⟩
      refine ⟨rfl, fun R xs H2 s2 e2' gd lx => ?_⟩
      refine ⟨R, rfl, ⟨_, SqL.of e2'⟩, for_list (K := K) (a := R) (xs := xs.map fun l => V.str (Sg l)) (fun i σ H' => ∃ (o3 : Option V), σ = [some (.ref a), o1, o2, o3, o4] ∧ Same H2 H') ⟨_, rfl, Same.refl _⟩ (fun i σ H' _ ⟨_, _, s'⟩ => SqL.of (s' _ _ e2')) ?_ ?_⟩
      · rintro i x σ H3 hx ⟨o3', rfl, s3⟩
        obtain ⟨l, hl, rfl⟩ := map_get hx
        obtain ⟨ll, la⟩ := gd l (List.mem_of_getElem? hl)
        refine ⟨_, rfl, l, rfl, by omega, la, fun H4 s4 => ⟨_, rfl, iteF ?_⟩⟩
        exact ⟨_, rfl, s3.trans s4⟩
      · rintro σ H3 ⟨o3', rfl, s3⟩
        exact k H3
end
structure At (K : PySem.W.Frag) (x : Str) (st : Stmt) (f : Addr) (fd : FuncData) : Prop where
  fn : Fun K x x st f fd
  ns : PySem.W.nsIn K mainGlobals x = some (some (.ref f))
theorem at_mk {K : PySem.W.Frag} {x : Str} {st : Stmt} {f : Addr} {oc : Value} {od an : Option Addr} {osl : Array (Option Value)} {kV doc pm cdv ct : Value} (a : PySem.W.nsIn K mainGlobals x = some (some (.ref f))) (l : K.lookup f = some ⟨oc, od, .func (PySem.W.fnOf x x (defArgs st) (defBody st) (defScope st) .none kV doc pm an cdv ct), osl⟩)
    (c : PySem.W.codeIn K cdv x = true) (k : PySem.W.keepIn K (.ref f) = true) : ∃ f fd, At K x st f fd := ⟨f, _, fun_mk l c k, a⟩
theorem kit_ref {K : PySem.W.Frag} {CN C : Addr} {cd : ClassData} {b : Bool} (h0 : (Value.ref CN == Value.ref C) = false) (h1 : PySem.W.clsIn K C = some cd) (h2 : PySem.W.typeIn K (.ref C) = some (.type "type")) (h3 : PySem.W.subIn K (.ref CN) (.ref C) = some b) : PySem.W.kitOne K (.ref CN) (.ref C) = some b := by
  unfold PySem.W.kitOne PySem.W.kitCls
  rw [if_neg (by rw [h0]; decide)]
  show (if ((PySem.W.clsIn K C).isSome && PySem.W.typeIn K (.ref C) == some (.type "type")) = true then PySem.W.subIn K (.ref CN) (.ref C) else none) = some b
  rw [h1, h2, h3]
  rfl
theorem kit_ty {K : PySem.W.Frag} {CN : Addr} {T : String} {b : Bool} (h0 : (Value.ref CN == Value.type T) = false) (h1 : PySem.W.kitMeta T = true) (h3 : PySem.W.subIn K (.ref CN) (.type T) = some b) : PySem.W.kitOne K (.ref CN) (.type T) = some b := by
  unfold PySem.W.kitOne PySem.W.kitCls
  rw [if_neg (by rw [h0]; decide)]
  show (if PySem.W.kitMeta T = true then PySem.W.subIn K (.ref CN) (.type T) else none) = some b
  rw [if_pos h1, h3]
theorem all_mk {l : PySem.W.OpenLaw} {w : World} {K : PySem.W.Frag} {h : Heap} {mg : Str → Option Value} {fa fL : Addr} (X : K.In h) (G : h.Ns mainGlobals mg) (hfa : mg "law" = some (.ref fa)) (A0 : ∃ f fd, At K "has_row" sHas f fd) (A1 : ∃ f fd, At K "is_turned_alike" sTurned f fd) (A2 : ∃ f fd, At K "is_right_place" sRight f fd) (A3 : ∃ f fd, At K "look_at_web" sLook f fd) (A4 : ∃ f fd, At K "read_numbers" sReadN f fd) (A5 : ∃ f fd, At K "read_rows" sReadR f fd) (A6 : ∃ f fd, At K "read_web" sReadW f fd) (A7 : ∃ f fd, At K "_law_mix" sMix f fd) (A8 : ∃ f fd, At K "_law_begun" sBegun f fd) (A9 : ∃ f fd, At K "_law_take" sTake f fd) (A10 : ∃ f fd, At K "_law_weight" sWeight f fd) (A11 : ∃ f fd, At K "_law_web" sWeb f fd) (A12 : ∃ f fd, At K "_law_is" sIs f fd) (A13 : ∃ f fd, At K "_law_text" sText f fd) (A14 : ∃ f fd, At K "_law_number_of" sNumOf f fd) (A15 : ∃ f fd, At K "_law_numbers" sNums f fd) (A16 : ∃ f fd, At K "_law_web_of" sWebOf f fd) (A17 : ∃ f fd, At K "_law_bent" sBent f fd) (A18 : ∃ f fd, At K "_law_judged" sJudged f fd) (A19 : ∃ f fd, At K "_law_odd" sOdd f fd)
    {CK : Addr} (aK : PySem.W.nsIn K mainGlobals "KinError" = some (some (.ref CK))) {ocK : Value} {odK : Option Addr} {cdK : ClassData} {slK : Array (Option Value)} {bmK : List Value} (lK : K.lookup CK = some ⟨ocK, odK, .cls cdK, slK⟩) (mK : cdK.mro = .ref CK :: bmK) (okK : PySem.W.excIn K CK bmV "ValueError.__new__" = true) (gaK : PySem.W.findIn K (.ref CK) "__getattribute__" = some (some (.builtin "BaseException.__getattribute__"))) (gtK : PySem.W.findIn K (.ref CK) "__getattr__" = some none) (clK : PySem.W.findIn K (.ref CK) "__class__" = some (some (.builtin "object.__class__"))) {CT : Addr} (aT : PySem.W.nsIn K mainGlobals "NoText" = some (some (.ref CT))) {ocT : Value} {odT : Option Addr} {cdT : ClassData} {slT : Array (Option Value)} {bmT : List Value} (lT : K.lookup CT = some ⟨ocT, odT, .cls cdT, slT⟩) (mT : cdT.mro = .ref CT :: bmT) (okT : PySem.W.excIn K CT bmV "ValueError.__new__" = true) (gaT : PySem.W.findIn K (.ref CT) "__getattribute__" = some (some (.builtin "BaseException.__getattribute__"))) (gtT : PySem.W.findIn K (.ref CT) "__getattr__" = some none) (clT : PySem.W.findIn K (.ref CT) "__class__" = some (some (.builtin "object.__class__"))) {CW : Addr} (aW : PySem.W.nsIn K mainGlobals "NoWeb" = some (some (.ref CW))) {CS : Addr} (aS : PySem.W.nsIn K mainGlobals "NoStep" = some (some (.ref CS))) {CO : Addr} (aO : PySem.W.nsIn K mainGlobals "NoOrder" = some (some (.ref CO))) {CM : Addr} (aM : PySem.W.nsIn K mainGlobals "NoName" = some (some (.ref CM))) {CX : Addr} (aX : PySem.W.nsIn K mainGlobals "NoLine" = some (some (.ref CX))) (kit0 : PySem.W.kitOne K (.ref CT) (.ref CW) = some false) (kit1 : PySem.W.kitOne K (.ref CT) (.ref CS) = some false) (kit2 : PySem.W.kitOne K (.ref CT) (.ref CO) = some false) (kit3 : PySem.W.kitOne K (.ref CT) (.ref CT) = some true) (kit4 : PySem.W.kitOne K (.ref CT) (.ref CM) = some false) (kit5 : PySem.W.kitOne K (.ref CT) (.ref CX) = some false) (kit6 : PySem.W.kitOne K (.ref CT) (.type "ValueError") = some true) {CR : Addr} {tF tM tP : Tok} {fJ NW : Addr} {nmW qnW : Str} {bsW : List Value} {snW : List Str} {subW : List Value} {abW : Bool} {colW : Option Bool} {ddW : Option Addr} {k0 k1 k2 k3 k5 : Option Value} {ocJ kVJ docJ pmJ cdvJ ctJ : Value} {odJ anJ : Option Addr} {oslJ : Array (Option Value)} {fI : Addr} {ocII kVII docII pmII cdvII ctII : Value} {odII anII : Option Addr} {oslII : Array (Option Value)} {fU : Addr} {ocUU kVUU docUU pmUU cdvUU ctUU : Value} {odUU anUU : Option Addr} {oslUU : Array (Option Value)} {fA : Addr} {ocAA kVAA docAA pmAA cdvAA ctAA : Value} {odAA anAA : Option Addr} {oslAA : Array (Option Value)} {fB : Addr} {ocBB kVBB docBB pmBB cdvBB ctBB : Value} {odBB anBB : Option Addr} {oslBB : Array (Option Value)} {fE : Addr} {ocEE kVEE docEE pmEE cdvEE ctEE : Value} {odEE anEE : Option Addr} {oslEE : Array (Option Value)} {fF : Addr} {ocFF kVFF docFF pmFF cdvFF ctFF : Value} {odFF anFF : Option Addr} {oslFF : Array (Option Value)} {fZ : Addr} {ocZZ kVZZ docZZ pmZZ cdvZZ ctZZ : Value} {odZZ anZZ : Option Addr} {oslZZ : Array (Option Value)} {fN : Addr} {ocNN kVNN docNN pmNN cdvNN ctNN : Value} {odNN anNN : Option Addr} {oslNN : Array (Option Value)} (aR : PySem.W.nsIn K mainGlobals "Reader" = some (some (.ref CR))) (cpg : PySem.W.plainGet K CR Str.empty = true) (chd : PySem.W.hasDictIn K CR = true) (cpo : PySem.W.plainOver K CR = true) (csa : PySem.W.findIn K (.ref CR) "__setattr__" = some (some (.builtin "object.__setattr__"))) (ctx : PySem.W.findIn K (.ref CR) "text" = some none) (cpl : PySem.W.findIn K (.ref CR) "place" = some none) (cmk : PySem.W.makesIn K CR = true) (ckp : PySem.W.keepIn K (.ref CR) = true) (aFig : PySem.W.nsIn K mainGlobals "FIGURES" = some (some (.str figS tF))) (aMost : PySem.W.nsIn K mainGlobals "MOST_FIGURES" = some (some (.int 60 tM))) (aPl : PySem.W.nsIn K mainGlobals "MOST_PLACES" = some (some (.int 8 tP))) (hcT : bmT.contains (.ref CK) = true) (kpT : PySem.W.keepIn K (.ref CT) = true) (lkW : K.lookup CW = some (excClassObj nmW qnW CW NW bsW (.ref CK :: bmV) true snW subW abW colW ddW k0 k1 k2 k3 k5 "ValueError.__new__")) (okW : PySem.W.nsOkIn K NW = true) (inW : PySem.W.nsIn K NW "__init__" = some (some (.ref fJ))) (gaW : PySem.W.findIn K (.ref CW) "__getattribute__" = some (some (.builtin "BaseException.__getattribute__"))) (gtW : PySem.W.findIn K (.ref CW) "__getattr__" = some none) (clW : PySem.W.findIn K (.ref CW) "__class__" = some (some (.builtin "object.__class__"))) (saW : PySem.W.findIn K (.ref CW) "__setattr__" = some (some (.builtin "object.__setattr__"))) (plW : PySem.W.findIn K (.ref CW) "place" = some none) (fnW : PySem.W.isFn K (.ref fJ) = true) (kpW : PySem.W.keepIn K (.ref CW) = true) (lJ : K.lookup fJ = some ⟨ocJ, odJ, .func (PySem.W.fnOf "__init__" "NoWeb.__init__" (defArgs sInit) (defBody sInit) (defScope sInit) .none kVJ docJ pmJ anJ cdvJ ctJ), oslJ⟩) (cJ : PySem.W.codeIn K cdvJ "NoWeb.__init__" = true) (kJ : PySem.W.keepIn K (.ref fJ) = true) (spK : PySem.W.specialIn K (.ref CK) "__getattribute__" = some (some (.builtin "type.__getattribute__"))) (rdK : PySem.W.readsIn K CK (.type "type") = true) (fcK : PySem.W.findCls K (.ref CK) (.type "type") "__init__" = some (.val (.builtin "ValueError.__init__"))) (eqK : bmK = bmV) (mII : PySem.W.findIn K (.ref CR) "__init__" = some (some (.ref fI))) (nII : PySem.W.isFn K (.ref fI) = true) (lII : K.lookup fI = some ⟨ocII, odII, .func (PySem.W.fnOf "__init__" "Reader.__init__" (defArgs sInitR) (defBody sInitR) (defScope sInitR) .none kVII docII pmII anII cdvII ctII), oslII⟩) (cII : PySem.W.codeIn K cdvII "Reader.__init__" = true) (kII : PySem.W.keepIn K (.ref fI) = true) (mUU : PySem.W.findIn K (.ref CR) "refuse" = some (some (.ref fU))) (nUU : PySem.W.isFn K (.ref fU) = true) (lUU : K.lookup fU = some ⟨ocUU, odUU, .func (PySem.W.fnOf "refuse" "Reader.refuse" (defArgs sRefuse) (defBody sRefuse) (defScope sRefuse) .none kVUU docUU pmUU anUU cdvUU ctUU), oslUU⟩) (cUU : PySem.W.codeIn K cdvUU "Reader.refuse" = true) (kUU : PySem.W.keepIn K (.ref fU) = true) (mAA : PySem.W.findIn K (.ref CR) "takes" = some (some (.ref fA))) (nAA : PySem.W.isFn K (.ref fA) = true) (lAA : K.lookup fA = some ⟨ocAA, odAA, .func (PySem.W.fnOf "takes" "Reader.takes" (defArgs sTakes) (defBody sTakes) (defScope sTakes) .none kVAA docAA pmAA anAA cdvAA ctAA), oslAA⟩) (cAA : PySem.W.codeIn K cdvAA "Reader.takes" = true) (kAA : PySem.W.keepIn K (.ref fA) = true) (mBB : PySem.W.findIn K (.ref CR) "must_take" = some (some (.ref fB))) (nBB : PySem.W.isFn K (.ref fB) = true) (lBB : K.lookup fB = some ⟨ocBB, odBB, .func (PySem.W.fnOf "must_take" "Reader.must_take" (defArgs sMust) (defBody sMust) (defScope sMust) .none kVBB docBB pmBB anBB cdvBB ctBB), oslBB⟩) (cBB : PySem.W.codeIn K cdvBB "Reader.must_take" = true) (kBB : PySem.W.keepIn K (.ref fB) = true) (mEE : PySem.W.findIn K (.ref CR) "must_end" = some (some (.ref fE))) (nEE : PySem.W.isFn K (.ref fE) = true) (lEE : K.lookup fE = some ⟨ocEE, odEE, .func (PySem.W.fnOf "must_end" "Reader.must_end" (defArgs sEnd) (defBody sEnd) (defScope sEnd) .none kVEE docEE pmEE anEE cdvEE ctEE), oslEE⟩) (cEE : PySem.W.codeIn K cdvEE "Reader.must_end" = true) (kEE : PySem.W.keepIn K (.ref fE) = true) (mFF : PySem.W.findIn K (.ref CR) "figures" = some (some (.ref fF))) (nFF : PySem.W.isFn K (.ref fF) = true) (lFF : K.lookup fF = some ⟨ocFF, odFF, .func (PySem.W.fnOf "figures" "Reader.figures" (defArgs sFigs) (defBody sFigs) (defScope sFigs) .none kVFF docFF pmFF anFF cdvFF ctFF), oslFF⟩) (cFF : PySem.W.codeIn K cdvFF "Reader.figures" = true) (kFF : PySem.W.keepIn K (.ref fF) = true) (mZZ : PySem.W.findIn K (.ref CR) "number_from_nought" = some (some (.ref fZ))) (nZZ : PySem.W.isFn K (.ref fZ) = true) (lZZ : K.lookup fZ = some ⟨ocZZ, odZZ, .func (PySem.W.fnOf "number_from_nought" "Reader.number_from_nought" (defArgs sFrom0) (defBody sFrom0) (defScope sFrom0) .none kVZZ docZZ pmZZ anZZ cdvZZ ctZZ), oslZZ⟩) (cZZ : PySem.W.codeIn K cdvZZ "Reader.number_from_nought" = true) (kZZ : PySem.W.keepIn K (.ref fZ) = true) (mNN : PySem.W.findIn K (.ref CR) "number" = some (some (.ref fN))) (nNN : PySem.W.isFn K (.ref fN) = true) (lNN : K.lookup fN = some ⟨ocNN, odNN, .func (PySem.W.fnOf "number" "Reader.number" (defArgs sNumb) (defBody sNumb) (defScope sNumb) .none kVNN docNN pmNN anNN cdvNN ctNN), oslNN⟩) (cNN : PySem.W.codeIn K cdvNN "Reader.number" = true) (kNN : PySem.W.keepIn K (.ref fN) = true)
    {oc kV doc pm cdv ct : Value} {od an : Option Addr} {osl : Array (Option Value)} (aL : PySem.W.nsIn K mainGlobals "law" = some (some (.ref fL))) (lL : K.lookup fL = some ⟨oc, od, .func (PySem.W.fnOf "law" "law" (defArgs sLaw) (defBody sLaw) (defScope sLaw) .none kV doc pm an cdv ct), osl⟩) (cL : PySem.W.codeIn K cdv "law" = true) (kL : PySem.W.keepIn K (.ref fL) = true)
    (z_range : PySem.W.nsIn K mainGlobals "range" = some none) (z_list : PySem.W.nsIn K mainGlobals "list" = some none) (z_len : PySem.W.nsIn K mainGlobals "len" = some none) (z_int : PySem.W.nsIn K mainGlobals "int" = some none) (z_bool : PySem.W.nsIn K mainGlobals "bool" = some none) (z_str : PySem.W.nsIn K mainGlobals "str" = some none) (z_isinstance : PySem.W.nsIn K mainGlobals "isinstance" = some none) (z_sum : PySem.W.nsIn K mainGlobals "sum" = some none) (z_tuple : PySem.W.nsIn K mainGlobals "tuple" = some none) (z_max : PySem.W.nsIn K mainGlobals "max" = some none) (z_min : PySem.W.nsIn K mainGlobals "min" = some none) (z_sorted : PySem.W.nsIn K mainGlobals "sorted" = some none) (z_ValueError : PySem.W.nsIn K mainGlobals "ValueError" = some none) :
    ∃ fd : FuncData, (∀ (s : Shared) (v : Value), BindsTo s fd ⟨[v], []⟩ [("_law_script", v)]) ∧ ∀ base : Heap, K.In base → base.Ns mainGlobals mg → FnOk l.prog w K mg base CX0 8 fa fd ["_law_script"] (spLaw K) := by
  have e := hfa.symm.trans (PySem.W.mg_of X G aL)
  cases e
  obtain ⟨f0, fd0, T0⟩ := A0
  have D0 : Dn K mg "has_row" sHas ["rows", "place", "size"] f0 fd0 := ⟨T0.fn, PySem.W.mg_of X G T0.ns, T0.fn.binds fun _ _ _ _ _ _ us hl => match us, hl with | [_, _, _], _ => rfl⟩
  obtain ⟨f1, fd1, T1⟩ := A1
  have D1 : Dn K mg "is_turned_alike" sTurned ["rows", "place", "size"] f1 fd1 := ⟨T1.fn, PySem.W.mg_of X G T1.ns, T1.fn.binds fun _ _ _ _ _ _ us hl => match us, hl with | [_, _, _], _ => rfl⟩
  obtain ⟨f2, fd2, T2⟩ := A2
  have D2 : Dn K mg "is_right_place" sRight ["hues", "rows", "place"] f2 fd2 := ⟨T2.fn, PySem.W.mg_of X G T2.ns, T2.fn.binds fun _ _ _ _ _ _ us hl => match us, hl with | [_, _, _], _ => rfl⟩
  obtain ⟨f3, fd3, T3⟩ := A3
  have D3 : Dn K mg "look_at_web" sLook ["web"] f3 fd3 := ⟨T3.fn, PySem.W.mg_of X G T3.ns, T3.fn.binds fun _ _ _ _ _ _ us hl => match us, hl with | [_], _ => rfl⟩
  obtain ⟨f4, fd4, T4⟩ := A4
  have D4 : Dn K mg "read_numbers" sReadN ["reader"] f4 fd4 := ⟨T4.fn, PySem.W.mg_of X G T4.ns, T4.fn.binds fun _ _ _ _ _ _ us hl => match us, hl with | [_], _ => rfl⟩
  obtain ⟨f5, fd5, T5⟩ := A5
  have D5 : Dn K mg "read_rows" sReadR ["reader"] f5 fd5 := ⟨T5.fn, PySem.W.mg_of X G T5.ns, T5.fn.binds fun _ _ _ _ _ _ us hl => match us, hl with | [_], _ => rfl⟩
  obtain ⟨f6, fd6, T6⟩ := A6
  have D6 : Dn K mg "read_web" sReadW ["text"] f6 fd6 := ⟨T6.fn, PySem.W.mg_of X G T6.ns, T6.fn.binds fun _ _ _ _ _ _ us hl => match us, hl with | [_], _ => rfl⟩
  obtain ⟨f7, fd7, T7⟩ := A7
  have D7 : Dn K mg "_law_mix" sMix ["_law_cell", "_law_k"] f7 fd7 := ⟨T7.fn, PySem.W.mg_of X G T7.ns, T7.fn.binds fun _ _ _ _ _ _ us hl => match us, hl with | [_, _], _ => rfl⟩
  obtain ⟨f8, fd8, T8⟩ := A8
  have D8 : Dn K mg "_law_begun" sBegun ["_law_cell"] f8 fd8 := ⟨T8.fn, PySem.W.mg_of X G T8.ns, T8.fn.binds fun _ _ _ _ _ _ us hl => match us, hl with | [_], _ => rfl⟩
  obtain ⟨f9, fd9, T9⟩ := A9
  have D9 : Dn K mg "_law_take" sTake ["_law_draw", "_law_most"] f9 fd9 := ⟨T9.fn, PySem.W.mg_of X G T9.ns, T9.fn.binds fun _ _ _ _ _ _ us hl => match us, hl with | [_, _], _ => rfl⟩
  obtain ⟨f10, fd10, T10⟩ := A10
  have D10 : Dn K mg "_law_weight" sWeight ["_law_draw", "_law_way"] f10 fd10 := ⟨T10.fn, PySem.W.mg_of X G T10.ns, T10.fn.binds fun _ _ _ _ _ _ us hl => match us, hl with | [_, _], _ => rfl⟩
  obtain ⟨f11, fd11, T11⟩ := A11
  have D11 : Dn K mg "_law_web" sWeb ["_law_draw", "_law_most"] f11 fd11 := ⟨T11.fn, PySem.W.mg_of X G T11.ns, T11.fn.binds fun _ _ _ _ _ _ us hl => match us, hl with | [_, _], _ => rfl⟩
  obtain ⟨f12, fd12, T12⟩ := A12
  have D12 : Dn K mg "_law_is" sIs ["_law_caught", "_law_at"] f12 fd12 := ⟨T12.fn, PySem.W.mg_of X G T12.ns, T12.fn.binds fun _ _ _ _ _ _ us hl => match us, hl with | [_, _], _ => rfl⟩
  obtain ⟨f13, fd13, T13⟩ := A13
  have D13 : Dn K mg "_law_text" sText ["_law_web_here"] f13 fd13 := ⟨T13.fn, PySem.W.mg_of X G T13.ns, T13.fn.binds fun _ _ _ _ _ _ us hl => match us, hl with | [_], _ => rfl⟩
  obtain ⟨f14, fd14, T14⟩ := A14
  have D14 : Dn K mg "_law_number_of" sNumOf ["_law_word"] f14 fd14 := ⟨T14.fn, PySem.W.mg_of X G T14.ns, T14.fn.binds fun _ _ _ _ _ _ us hl => match us, hl with | [_], _ => rfl⟩
  obtain ⟨f15, fd15, T15⟩ := A15
  have D15 : Dn K mg "_law_numbers" sNums ["_law_row", "_law_word"] f15 fd15 := ⟨T15.fn, PySem.W.mg_of X G T15.ns, T15.fn.binds fun _ _ _ _ _ _ us hl => match us, hl with | [_, _], _ => rfl⟩
  obtain ⟨f16, fd16, T16⟩ := A16
  have D16 : Dn K mg "_law_web_of" sWebOf ["_law_text_here"] f16 fd16 := ⟨T16.fn, PySem.W.mg_of X G T16.ns, T16.fn.binds fun _ _ _ _ _ _ us hl => match us, hl with | [_], _ => rfl⟩
  obtain ⟨f17, fd17, T17⟩ := A17
  have D17 : Dn K mg "_law_bent" sBent ["_law_draw", "_law_text_here"] f17 fd17 := ⟨T17.fn, PySem.W.mg_of X G T17.ns, T17.fn.binds fun _ _ _ _ _ _ us hl => match us, hl with | [_, _], _ => rfl⟩
  obtain ⟨f18, fd18, T18⟩ := A18
  have D18 : Dn K mg "_law_judged" sJudged ["_law_text_here"] f18 fd18 := ⟨T18.fn, PySem.W.mg_of X G T18.ns, T18.fn.binds fun _ _ _ _ _ _ us hl => match us, hl with | [_], _ => rfl⟩
  obtain ⟨f19, fd19, T19⟩ := A19
  have D19 : Dn K mg "_law_odd" sOdd [] f19 fd19 := ⟨T19.fn, PySem.W.mg_of X G T19.ns, T19.fn.binds fun _ _ _ _ _ _ us hl => match us, hl with | [], _ => rfl⟩
  have FL := fun_mk (st := sLaw) lL cL kL
  have BW : BltW mg := ⟨PySem.W.mg_none_of X G z_range, PySem.W.mg_none_of X G z_int⟩
  have BX : BltX mg := ⟨PySem.W.mg_none_of X G z_range, PySem.W.mg_none_of X G z_list, PySem.W.mg_none_of X G z_len, PySem.W.mg_none_of X G z_int, PySem.W.mg_none_of X G z_bool, PySem.W.mg_none_of X G z_str, PySem.W.mg_none_of X G z_isinstance, PySem.W.mg_none_of X G z_sum, PySem.W.mg_none_of X G z_tuple⟩
  have BO : BltO mg := ⟨PySem.W.mg_none_of X G z_range, PySem.W.mg_none_of X G z_list, PySem.W.mg_none_of X G z_len, PySem.W.mg_none_of X G z_max, PySem.W.mg_none_of X G z_min, PySem.W.mg_none_of X G z_sorted, PySem.W.mg_none_of X G z_isinstance, PySem.W.mg_none_of X G z_tuple, PySem.W.mg_none_of X G z_ValueError⟩
  have TC : ClsR K CR := ⟨⟨cpg, chd, cpo, csa⟩, ctx, cpl⟩
  have GX : GlX mg := ⟨⟨_, PySem.W.mg_of X G aFig⟩, ⟨_, PySem.W.mg_of X G aMost⟩, ⟨_, PySem.W.mg_of X G aPl⟩⟩
  have MK : Mk K CR fI := ⟨cmk, mII, nII, ckp⟩
  have hC := PySem.W.mg_of X G aR
  have ZK : Exc K CK bmV := ⟨okK, ⟨_, _, _, _, lK, by rw [mK, eqK]⟩, gaK, gtK, clK⟩
  have ZT : Exc K CT bmT := ⟨okT, ⟨_, _, _, _, lT, mT⟩, gaT, gtT, clT⟩
  have Z : ExcI K CW CK fJ := ⟨⟨_, _, _, _, _, _, _, _, _, _, _, _, _, _, lkW, okW, inW⟩, ZK, gaW, gtW, clW, saW, fnW⟩
  have BI : BInit K CK := ⟨spK, rdK, fcK⟩
  have FJ := fun_mk (st := sInit) (qual := "NoWeb.__init__") lJ cJ kJ
  have bJ := FJ.binds (ps := nInit) fun _ _ _ _ _ _ us hl => match us, hl with | [_, _], _ => rfl
  have mK' := PySem.W.mg_of X G aK
  have mW' := PySem.W.mg_of X G aW
  have mT' := PySem.W.mg_of X G aT
  have NT : NoT K mg CT := ⟨⟨_, ZT⟩, mT'⟩
  have FI := fun_mk (st := sInitR) (qual := "Reader.__init__") lII cII kII
  have bI := FI.binds (ps := ["self", "text"]) fun _ _ _ _ _ _ us hl => match us, hl with | [_, _], _ => rfl
  have FU := fun_mk (st := sRefuse) (qual := "Reader.refuse") lUU cUU kUU
  have bU := FU.binds (ps := ["self", "wrong"]) fun _ _ _ _ _ _ us hl => match us, hl with | [_, _], _ => rfl
  have MU : Mn K CR "refuse" "Reader.refuse" sRefuse ["self", "wrong"] fU _ := ⟨FU, ⟨mUU, nUU, kUU⟩, bU⟩
  have FA := fun_mk (st := sTakes) (qual := "Reader.takes") lAA cAA kAA
  have bA := FA.binds (ps := ["self", "word"]) fun _ _ _ _ _ _ us hl => match us, hl with | [_, _], _ => rfl
  have MA : Mn K CR "takes" "Reader.takes" sTakes ["self", "word"] fA _ := ⟨FA, ⟨mAA, nAA, kAA⟩, bA⟩
  have FB := fun_mk (st := sMust) (qual := "Reader.must_take") lBB cBB kBB
  have bB := FB.binds (ps := ["self", "word"]) fun _ _ _ _ _ _ us hl => match us, hl with | [_, _], _ => rfl
  have MB : Mn K CR "must_take" "Reader.must_take" sMust ["self", "word"] fB _ := ⟨FB, ⟨mBB, nBB, kBB⟩, bB⟩
  have FE := fun_mk (st := sEnd) (qual := "Reader.must_end") lEE cEE kEE
  have bE := FE.binds (ps := ["self"]) fun _ _ _ _ _ _ us hl => match us, hl with | [_], _ => rfl
  have ME : Mn K CR "must_end" "Reader.must_end" sEnd ["self"] fE _ := ⟨FE, ⟨mEE, nEE, kEE⟩, bE⟩
  have FF := fun_mk (st := sFigs) (qual := "Reader.figures") lFF cFF kFF
  have bF := FF.binds (ps := ["self"]) fun _ _ _ _ _ _ us hl => match us, hl with | [_], _ => rfl
  have MF : Mn K CR "figures" "Reader.figures" sFigs ["self"] fF _ := ⟨FF, ⟨mFF, nFF, kFF⟩, bF⟩
  have FZ := fun_mk (st := sFrom0) (qual := "Reader.number_from_nought") lZZ cZZ kZZ
  have bZ := FZ.binds (ps := ["self"]) fun _ _ _ _ _ _ us hl => match us, hl with | [_], _ => rfl
  have MZ : Mn K CR "number_from_nought" "Reader.number_from_nought" sFrom0 ["self"] fZ _ := ⟨FZ, ⟨mZZ, nZZ, kZZ⟩, bZ⟩
  have FN := fun_mk (st := sNumb) (qual := "Reader.number") lNN cNN kNN
  have bN := FN.binds (ps := ["self"]) fun _ _ _ _ _ _ us hl => match us, hl with | [_], _ => rfl
  have MN : Mn K CR "number" "Reader.number" sNumb ["self"] fN _ := ⟨FN, ⟨mNN, nNN, kNN⟩, bN⟩
  refine ⟨PySem.W.fnOf "law" "law" (defArgs sLaw) (defBody sLaw) (defScope sLaw) .none kV doc pm an cdv ct, fun s v => .of_eq rfl, fun base _ _ => ?_⟩
  have GIt := ok_init (P := l.prog) (w := w) (base := base) (mg := mg) Z BI mK' plW FJ
  have GH := ok_has (P := l.prog) (w := w) (base := base) BO D0.fn
  have GTu := ok_turned BO D1.fn D0 GH
  have GRi := ok_right BO D2.fn D0 GH D1 GTu
  have GLk := ok_look BO Z kpW mW' bJ GIt D3.fn D2 GRi
  have GI := ok_initR (P := l.prog) (w := w) (base := base) (mg := mg) TC FI
  have GA := ok_takes (P := l.prog) (w := w) (base := base) BX TC FA
  have GU := ok_refuse (P := l.prog) (w := w) (base := base) TC NT FU
  have GB := ok_must TC FB MA GA MU GU
  have GE := ok_endR BX TC FE MU GU
  have GF := ok_figs (P := l.prog) (w := w) (base := base) BX TC GX FF
  have GZ := ok_from0 BX TC GX FZ MF GF MU GU
  have GN := ok_numb TC FN MA GA MZ GZ MU GU
  have GRn := ok_readN TC D4.fn MA GA MN GN
  have GRr := ok_readR TC D5.fn MA GA MB GB D4 GRn
  have GRw := ok_readW BX TC GX NT kpT Z mW' D6.fn hC MK bI GI MB GB ME GE D4 GRn D5 GRr D3 GLk
  have GBe := ok_begun (P := l.prog) (w := w) (base := base) (mg := mg) D8.fn
  have GTk := ok_take (P := l.prog) (w := w) (base := base) D9.fn D7
  have GWe := ok_weight D10.fn D9 GTk
  have GW := ok_web BW D11.fn D9 GTk D10 GWe
  have GTx := ok_text (P := l.prog) (w := w) (base := base) BX D13.fn
  have GNo := ok_numOf (P := l.prog) (w := w) (base := base) BX D14.fn
  have GNs := ok_nums D15.fn D14 GNo
  have GWo := ok_webOf BX D16.fn D15 GNs
  have GIs := ok_is (P := l.prog) (w := w) (base := base) BX (PySem.W.mg_none_of X G z_ValueError) ZT.w ⟨CW, mW', kit0⟩ ⟨CS, PySem.W.mg_of X G aS, kit1⟩ ⟨CO, PySem.W.mg_of X G aO, kit2⟩ ⟨CT, mT', kit3⟩ ⟨CM, PySem.W.mg_of X G aM, kit4⟩ ⟨CX, PySem.W.mg_of X G aX, kit5⟩ kit6 D12.fn
  have GJd := ok_judged ZT.w ZK.w hcT mK' D18.fn D16 GWo D6 GRw D12 GIs
  have GBt := ok_bent BX D17.fn D9 GTk
  have GOd := ok_odd (P := l.prog) (w := w) (base := base) (mg := mg) D19.fn
  exact ok_law BX FL D8 GBe D11 GW D13 GTx D18 GJd D17 GBt D19 GOd
theorem walk {l : PySem.W.OpenLaw} {q : Program} {loose : List Str} {XP : (Str → Option Value) → Heap → Prop} {YP : World → Heap → Prop} {d : DefRec} {K : Params → PySem.W.Frag} (hn : l.most = some 63) (hdf : d.params.defaults = [])
    (hY : ∀ (w : World) (h : Heap), YP w h → (K w.params).In h)
    (F : ∀ (w : World) (mg : Str → Option Value) (fa : Addr) (h : Heap), (K w.params).In h → h.Ns mainGlobals mg → mg d.name = some (.ref fa) →
      ∃ fd : FuncData, (∀ (s : Shared) (u : Value), BindsTo s fd ⟨[u], []⟩ [("_law_script", u)]) ∧ ∀ base : Heap, (K w.params).In base → base.Ns mainGlobals mg → FnOk l.prog w (K w.params) mg base CX0 8 fa fd ["_law_script"] (spLaw (K w.params))) :
    PySem.W.WalkO q loose XP YP l.row.toRowW d [] (fun f vs => PySem.call f vs) :=
  L2.walk_of (n := 63) (k := 8) (x := "_law_script") (CX := fun _ => CX0) (sp := fun w => spLaw (K w.params)) hn (by decide) hdf ⟨rfl, by decide, by decide, rfl⟩ hY F (fun _ _ a ns hl _ hS => ⟨a, ns, rfl, hS, hl, fun _ => rfl⟩) fun _ _ _ _ _ z => z
end My
open PySem PySem.W PyProof.Rows
namespace PySem.W.Fast
def tw12979302983321123452:=()
def tw15580387687273331512:=()
def tw2558060234093922939:=()
def tw1727952865966190877:=()
end PySem.W.Fast
set_option maxRecDepth 100000 in
set_option maxHeartbeats 0 in
theorem PySem.Challenge.cw_evenkin_k92_web_texts_refused_holds : PySem.Challenge.rw_evenkin_k92_web_texts_refused.Holds := by
  w_on; o_law; k_head; (case hw => w_witness2)
  k_fill
  refine My.walk (l := PySem.Challenge.rw_evenkin_k92_web_texts_refused) rfl rfl (fun w h Y => PySem.W.kIn_of Y) ?F
  case F =>
    intro w mg fa h KX G hmg
    refine' My.all_mk KX G hmg (My.at_mk ?a0 ?l0 ?c0 ?k0) (My.at_mk ?a1 ?l1 ?c1 ?k1) (My.at_mk ?a2 ?l2 ?c2 ?k2) (My.at_mk ?a3 ?l3 ?c3 ?k3) (My.at_mk ?a4 ?l4 ?c4 ?k4) (My.at_mk ?a5 ?l5 ?c5 ?k5) (My.at_mk ?a6 ?l6 ?c6 ?k6) (My.at_mk ?a7 ?l7 ?c7 ?k7) (My.at_mk ?a8 ?l8 ?c8 ?k8) (My.at_mk ?a9 ?l9 ?c9 ?k9) (My.at_mk ?a10 ?l10 ?c10 ?k10) (My.at_mk ?a11 ?l11 ?c11 ?k11) (My.at_mk ?a12 ?l12 ?c12 ?k12) (My.at_mk ?a13 ?l13 ?c13 ?k13) (My.at_mk ?a14 ?l14 ?c14 ?k14) (My.at_mk ?a15 ?l15 ?c15 ?k15) (My.at_mk ?a16 ?l16 ?c16 ?k16) (My.at_mk ?a17 ?l17 ?c17 ?k17) (My.at_mk ?a18 ?l18 ?c18 ?k18) (My.at_mk ?a19 ?l19 ?c19 ?k19) ?aK ?lK ?mK ?okK ?gaK ?gtK ?clK ?aT ?lT ?mT ?okT ?gaT ?gtT ?clT ?aW ?aS ?aO ?aM ?aX ?kit0 ?kit1 ?kit2 ?kit3 ?kit4 ?kit5 ?kit6 ?aR ?cpg ?chd ?cpo ?csa ?ctx ?cpl ?cmk ?ckp ?aFig ?aMost ?aPl ?hcT ?kpT ?lkW ?okW ?inW ?gaW ?gtW ?clW ?saW ?plW ?fnW ?kpW ?lJ ?cJ ?kJ ?spK ?rdK ?fcK ?eqK ?mII ?nII ?lII ?cII ?kII ?mUU ?nUU ?lUU ?cUU ?kUU ?mAA ?nAA ?lAA ?cAA ?kAA ?mBB ?nBB ?lBB ?cBB ?kBB ?mEE ?nEE ?lEE ?cEE ?kEE ?mFF ?nFF ?lFF ?cFF ?kFF ?mZZ ?nZZ ?lZZ ?cZZ ?kZZ ?mNN ?nNN ?lNN ?cNN ?kNN ?aL ?lL ?cL ?kL ?z_range ?z_list ?z_len ?z_int ?z_bool ?z_str ?z_isinstance ?z_sum ?z_tuple ?z_max ?z_min ?z_sorted ?z_ValueError
    (case a0 => k_is); (case l0 => k_is); (case c0 => k_is); (case k0 => k_is)
    (case a1 => k_is); (case l1 => k_is); (case c1 => k_is); (case k1 => k_is)
    (case a2 => k_is); (case l2 => k_is); (case c2 => k_is); (case k2 => k_is)
    (case a3 => k_is); (case l3 => k_is); (case c3 => k_is); (case k3 => k_is)
    (case a4 => k_is); (case l4 => k_is); (case c4 => k_is); (case k4 => k_is)
    (case a5 => k_is); (case l5 => k_is); (case c5 => k_is); (case k5 => k_is)
    (case a6 => k_is); (case l6 => k_is); (case c6 => k_is); (case k6 => k_is)
    (case a7 => k_is); (case l7 => k_is); (case c7 => k_is); (case k7 => k_is)
    (case a8 => k_is); (case l8 => k_is); (case c8 => k_is); (case k8 => k_is)
    (case a9 => k_is); (case l9 => k_is); (case c9 => k_is); (case k9 => k_is)
    (case a10 => k_is); (case l10 => k_is); (case c10 => k_is); (case k10 => k_is)
    (case a11 => k_is); (case l11 => k_is); (case c11 => k_is); (case k11 => k_is)
    (case a12 => k_is); (case l12 => k_is); (case c12 => k_is); (case k12 => k_is)
    (case a13 => k_is); (case l13 => k_is); (case c13 => k_is); (case k13 => k_is)
    (case a14 => k_is); (case l14 => k_is); (case c14 => k_is); (case k14 => k_is)
    (case a15 => k_is); (case l15 => k_is); (case c15 => k_is); (case k15 => k_is)
    (case a16 => k_is); (case l16 => k_is); (case c16 => k_is); (case k16 => k_is)
    (case a17 => k_is); (case l17 => k_is); (case c17 => k_is); (case k17 => k_is)
    (case a18 => k_is); (case l18 => k_is); (case c18 => k_is); (case k18 => k_is)
    (case a19 => k_is); (case l19 => k_is); (case c19 => k_is); (case k19 => k_is)
    (case aK => k_is); (case lK => k_is); (case mK => rfl); (case okK => first | k_is | k_exc); (case gaK => first | k_is | k_exc); (case gtK => first | k_is | k_exc); (case clK => first | k_is | k_exc)
    (case aT => k_is); (case lT => k_is); (case mT => rfl); (case okT => first | k_is | k_exc); (case gaT => first | k_is | k_exc); (case gtT => first | k_is | k_exc); (case clT => first | k_is | k_exc)
    (case aW => k_is)
    (case aS => k_is)
    (case aO => k_is)
    (case aM => k_is)
    (case aX => k_is)
    (case kit0 => first | rfl | (refine My.kit_ref (by decide) ?_ ?_ ?_ <;> k_is) | (refine My.kit_ty (by decide) (by decide +kernel) ?_ <;> k_is))
    (case kit1 => first | rfl | (refine My.kit_ref (by decide) ?_ ?_ ?_ <;> k_is) | (refine My.kit_ty (by decide) (by decide +kernel) ?_ <;> k_is))
    (case kit2 => first | rfl | (refine My.kit_ref (by decide) ?_ ?_ ?_ <;> k_is) | (refine My.kit_ty (by decide) (by decide +kernel) ?_ <;> k_is))
    (case kit3 => first | rfl | (refine My.kit_ref (by decide) ?_ ?_ ?_ <;> k_is) | (refine My.kit_ty (by decide) (by decide +kernel) ?_ <;> k_is))
    (case kit4 => first | rfl | (refine My.kit_ref (by decide) ?_ ?_ ?_ <;> k_is) | (refine My.kit_ty (by decide) (by decide +kernel) ?_ <;> k_is))
    (case kit5 => first | rfl | (refine My.kit_ref (by decide) ?_ ?_ ?_ <;> k_is) | (refine My.kit_ty (by decide) (by decide +kernel) ?_ <;> k_is))
    (case kit6 => first | rfl | (refine My.kit_ref (by decide) ?_ ?_ ?_ <;> k_is) | (refine My.kit_ty (by decide) (by decide +kernel) ?_ <;> k_is))
    (case aR => k_is)
    (case cpg => k_is)
    (case chd => k_is)
    (case cpo => k_is)
    (case csa => k_is)
    (case ctx => k_is)
    (case cpl => k_is)
    (case cmk => k_is)
    (case ckp => k_is)
    (case aFig => k_is)
    (case aMost => k_is)
    (case aPl => k_is)
    (case hcT => rfl)
    (case kpT => k_is)
    (case lkW => k_is)
    (case okW => first | rfl | with_unfolding_all rfl)
    (case inW => k_is)
    (case gaW => k_is)
    (case gtW => k_is)
    (case clW => k_is)
    (case saW => k_is)
    (case plW => k_is)
    (case fnW => k_is)
    (case kpW => k_is)
    (case lJ => k_is)
    (case cJ => k_is)
    (case kJ => k_is)
    (case spK => k_is)
    (case rdK => k_is)
    (case fcK => k_is)
    (case eqK => rfl)
    (case mII => k_is)
    (case nII => k_is)
    (case lII => k_is)
    (case cII => k_is)
    (case kII => k_is)
    (case mUU => k_is)
    (case nUU => k_is)
    (case lUU => k_is)
    (case cUU => k_is)
    (case kUU => k_is)
    (case mAA => k_is)
    (case nAA => k_is)
    (case lAA => k_is)
    (case cAA => k_is)
    (case kAA => k_is)
    (case mBB => k_is)
    (case nBB => k_is)
    (case lBB => k_is)
    (case cBB => k_is)
    (case kBB => k_is)
    (case mEE => k_is)
    (case nEE => k_is)
    (case lEE => k_is)
    (case cEE => k_is)
    (case kEE => k_is)
    (case mFF => k_is)
    (case nFF => k_is)
    (case lFF => k_is)
    (case cFF => k_is)
    (case kFF => k_is)
    (case mZZ => k_is)
    (case nZZ => k_is)
    (case lZZ => k_is)
    (case cZZ => k_is)
    (case kZZ => k_is)
    (case mNN => k_is)
    (case nNN => k_is)
    (case lNN => k_is)
    (case cNN => k_is)
    (case kNN => k_is)
    (case aL => k_is); (case lL => k_is); (case cL => k_is); (case kL => k_is)
    (case z_range => k_is); (case z_list => k_is); (case z_len => k_is); (case z_int => k_is); (case z_bool => k_is); (case z_str => k_is); (case z_isinstance => k_is); (case z_sum => k_is); (case z_tuple => k_is); (case z_max => k_is); (case z_min => k_is); (case z_sorted => k_is); (case z_ValueError => k_is)
