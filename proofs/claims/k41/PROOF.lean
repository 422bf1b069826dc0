import PyProof.Rows.All
import Wide.All
import OpenK.AllK
import Wide.FinOn
import Lean
import PyProof.EqAt
import PyProof.EqKinds
import PyProof.TupleCall
import KE.KSortTup
import KE.KSortAsk
import KE.KLam
import KE.KSortKey
import KE.KNestM
import PySem.Challenge.RW_evenkin_k41_trees_that_part
set_option Elab.async false
set_option linter.all false
set_option maxRecDepth 100000
namespace L2
open PySem PySem.Spec PyProof.Rows
abbrev Key:=Sum Int Str
def keyIs:Key→Value→Bool
 | .inl k,v=>Value.isInt k v
 | .inr x,v=>Value.isStrOf x v
def keyH (w:World):Key→Int
 | .inl k=>hashInt k
 | .inr x=>hashStr w x
theorem keyIs_shape:∀ {k:Key} {v:Value},keyIs k v=true→(∃ i t,k=Sum.inl i∧v=Value.int i t) ∨ (∃ x t,k=Sum.inr x∧v=Value.str x t)
 | .inl i,v,h=>by
  obtain ⟨t,e⟩:=Value.isInt_shape (k:=i) (v:=v) h
  exact .inl ⟨i,t,rfl,e⟩
 | .inr x,v,h=>by
  obtain ⟨t,e⟩:=Value.isStrOf_shape (x:=x) (v:=v) h
  exact .inr ⟨x,t,rfl,e⟩
theorem keyIs_int (i:Int) (t:Tok):keyIs (.inl i) (.int i t)=true:=by simp [keyIs,Value.isInt]
theorem keyIs_str (x:Str) (t:Tok):keyIs (.inr x) (.str x t)=true:=by simp [keyIs,Value.isStrOf]
theorem key_ll (a b:Int):decide ((Sum.inl a:Key)=Sum.inl b)=(a == b):=by
 by_cases e:a=b
 ·subst e; simp
 ·have h:¬ (Sum.inl a:Key)=Sum.inl b:=fun q=>e (Sum.inl.inj q)
  rw [decide_eq_false h]
  exact (beq_eq_false_iff_ne.mpr e).symm
theorem key_rr (a b:Str):decide ((Sum.inr a:Key)=Sum.inr b)=decide (a=b):=by
 by_cases e:a=b
 ·subst e; simp
 ·have h:¬ (Sum.inr a:Key)=Sum.inr b:=fun q=>e (Sum.inr.inj q)
  rw [decide_eq_false h,decide_eq_false e]
theorem key_lr (a:Int) (b:Str):decide ((Sum.inl a:Key)=Sum.inr b)=false:=decide_eq_false (fun q=>nomatch q)
theorem key_rl (a:Str) (b:Int):decide ((Sum.inr a:Key)=Sum.inl b)=false:=decide_eq_false (fun q=>nomatch q)
def mixKind (prog:Program) (w:World):PySem.KeyKind prog w Key where
 is:=keyIs
 hash:=keyH w
 inj:=fun v a b ha hb=>by
  rcases keyIs_shape ha with ⟨i,t,rfl,rfl⟩ | ⟨x,t,rfl,rfl⟩
  ·rcases keyIs_shape hb with ⟨j,u,rfl,e⟩ | ⟨y,u,rfl,e⟩
   ·injection e with e1 _; rw [e1]
   ·exact nomatch e
  ·rcases keyIs_shape hb with ⟨j,u,rfl,e⟩ | ⟨y,u,rfl,e⟩
   ·exact nomatch e
   ·injection e with e1 _; rw [e1]
 byValue:=fun k v h=>by
  rcases keyIs_shape h with ⟨i,t,rfl,rfl⟩ | ⟨x,t,rfl,rfl⟩ <;> rfl
 pyHash:=fun hv h=>by
  rcases keyIs_shape hv with ⟨i,t,rfl,rfl⟩ | ⟨x,t,rfl,rfl⟩
  ·exact wpAny_pyHash_int h
  ·exact wpAny_pyHash_str h
 eqBool:=fun hu hv h=>by
  rcases keyIs_shape hu with ⟨i,t,rfl,rfl⟩ | ⟨x,t,rfl,rfl⟩
  ·rcases keyIs_shape hv with ⟨j,u,rfl,rfl⟩ | ⟨y,u,rfl,rfl⟩
   ·rw [key_ll] at h; exact wpAny_eqBool_int h
   ·rw [key_lr] at h; exact SeqAt.EqAt.int_str i t y u _ _ _ _ h
  ·rcases keyIs_shape hv with ⟨j,u,rfl,rfl⟩ | ⟨y,u,rfl,rfl⟩
   ·rw [key_rl] at h; exact SeqAt.EqAt.str_int x t j u _ _ _ _ h
   ·rw [key_rr] at h; exact wpAny_eqBool_str h
 «strs»:=fun k x t v h=>by
  rcases keyIs_shape h with ⟨i,u,rfl,e⟩ | ⟨y,u,rfl,e⟩
  ·exact nomatch e
  ·injection e with e1 _
   subst e1
   cases v <;> rfl
theorem mixKind_int (prog:Program) (w:World) (i:Int) (t:Tok):(mixKind prog w).is (.inl i) (.int i t)=true:=keyIs_int i t
theorem mixKind_str (prog:Program) (w:World) (x:Str) (t:Tok):(mixKind prog w).is (.inr x) (.str x t)=true:=keyIs_str x t
end L2
namespace L2
open PySem PySem.Spec PyProof.Rows
inductive V where
 | non | bl (b:Bool) | int (i:Int) | str (x:Str) | byt (b:Array UInt8) | flt (b:UInt64) | ref (a:Addr) | ty (n:String)
 deriving DecidableEq
def RelV:V→Value→Prop
 | .non,u=>u=Value.none
 | .bl b,u=>u=Value.bool b
 | .int i,u=>∃ t,u=Value.int i t
 | .str x,u=>∃ t,u=Value.str x t
 | .byt b,u=>∃ t,u=Value.bytes b t
 | .flt b,u=>∃ t,u=Value.float b t
 | .ref a,u=>u=Value.ref a
 | .ty n,u=>u=Value.type n
abbrev Vals:List V→List Value→Prop:=Paired RelV
theorem Vals.length {xs:List V} {us:List Value} (r:Vals xs us):xs.length=us.length:=Paired.length r
theorem Vals.get:∀ {xs:List V} {us:List Value} {i:Nat} {x:V},Vals xs us→xs[i]? = some x→∃ u,us[i]? = some u∧RelV x u
 | _,_,_,_,.nil,e=>by simp at e
 | _,_,0,_,.cons r _,e=>by simp at e; subst e; exact ⟨_,rfl,r⟩
 | _,_,i+1,x,.cons _ t,e=>by
  obtain ⟨u,h1,h2⟩:=Vals.get (i:=i) (x:=x) t (by simpa using e)
  exact ⟨u,by simpa using h1,h2⟩
theorem Vals.set {x:V} {u:Value} (r:RelV x u):∀ {xs:List V} {us:List Value} (i:Nat),Vals xs us→Vals (xs.set i x) (us.set i u)
 | _,_,_,.nil=>.nil
 | _,_,0,.cons _ t=>.cons r t
 | _,_,i+1,.cons q t=>.cons q (Vals.set r i t)
theorem Vals.append:∀ {xs ys:List V} {us ws:List Value},Vals xs us→Vals ys ws→Vals (xs++ys) (us++ws)
 | _,_,_,_,.nil,s=>s
 | _,_,_,_,.cons r t,s=>.cons r (Vals.append t s)
theorem Vals.take:∀ {xs:List V} {us:List Value} (n:Nat),Vals xs us→Vals (xs.take n) (us.take n)
 | _,_,0,_=>.nil
 | _,_,_+1,.nil=>.nil
 | _,_,n+1,.cons r t=>.cons r (Vals.take n t)
theorem Vals.drop:∀ {xs:List V} {us:List Value} (n:Nat),Vals xs us→Vals (xs.drop n) (us.drop n)
 | _,_,0,r=>r
 | _,_,_+1,.nil=>.nil
 | _,_,n+1,.cons _ t=>Vals.drop n t
def RelO:Option V→Option Value→Prop
 | some v,some u=>RelV v u
 | none,none=>True
 | _,_=>False
def KV {κ:Type}:List (κ × V)→List (κ × Value)→Prop:=Paired fun (p:κ × V) (q:κ × Value)=>p.1=q.1∧RelV p.2 q.2
def kV:Key→V
 | .inl i=>.int i
 | .inr x=>.str x
inductive HO where
 | lst (xs:List V)
 | tup (xs:List V)
 | dK (kvs:List (Key × V)) | dT (kvs:List (List Key × V))
 | set (S:Int→Bool) (n:Nat)
 | ins (C dx:Addr) (fs:List (Str × V))
 | own (x:Addr)
 | xd (fs:List (Str × V))
 | met (f x:Addr)
 | rng (lo hi:Int)
 | frz (o:Obj) (u:HO)
 | tbl (ps:Array Value)
 | ext (φ:Heap→Prop)
abbrev Hp:=Addr→Option HO
def upd (H:Hp) (a:Addr) (o:HO):Hp:=fun b=>if b=a then some o else H b
theorem upd_same {H:Hp} {a:Addr} {o:HO}:upd H a o a=some o:=by unfold upd; rw [if_pos rfl]
theorem upd_ne {H:Hp} {a b:Addr} {o:HO} (h:b≠a):upd H a o b=H b:=by unfold upd; rw [if_neg h]
theorem upd_upd {H:Hp} {a:Addr} {o u:HO}:upd (upd H a o) a u=upd H a u:=by
 funext b; unfold upd; split <;> rfl
theorem ne_of {H:Hp} {a b:Addr} {o u:HO} (h:H a=some o) (h':H b=some u) (d:o≠u):a≠b:=by
 intro e; subst e; rw [h] at h'; exact d (Option.some.inj h')
theorem ne_of_none {H:Hp} {a b:Addr} {o:HO} (h:H a=some o) (h':H b=none):a≠b:=by
 intro e; subst e; rw [h] at h'; cases h'
section
variable (P:Program) (w:World)
def ObjOk (H:Hp) (h:Heap) (a:Addr):HO→Prop
 | .lst xs=>xs.length≤sizeLine∧∃ (its:List Value) (n:Nat),Vals xs its∧h.get? a=some { cls:=.type "list",data:=.seq its.toArray n }
 | .tup xs=>xs.length≤sizeLine∧∃ its:List Value,Vals xs its∧IsTup h a its.toArray
 | .dK kvs=>kvs.length≤sizeLine∧(a == sysModules)=false∧∃ vs,KV kvs vs∧h.DictOf (mixKind P w) a vs
 | .dT kvs=>kvs.length≤sizeLine∧(a == sysModules)=false∧∃ xs:List (List Key × Addr × Value),
   Paired (fun (p:List Key × V) (q:List Key × Addr × Value)=>p.1=q.1∧H q.2.1=some (.tup (p.1.map kV))∧RelV p.2 q.2.2) kvs xs ∧
   ∃ o es ep,h.get? a=some o∧o.ExactDict∧o.data=.dict es ep∧es.toList=xs.map (entryOfKey (tupleKind (mixKind P w)))∧(xs.map (·.1)).Nodup
 | .set S n=>h.SetOf (intKind P w) a S n
 | .ins C dx fs=>H dx=some (.own a)∧fs.length≤1000∧dx≠a∧h.get? a=some (PySem.W.instObj C dx) ∧
   ∃ mA,h.Ns1 dx mA∧(∀ f,RelO (fs.lookup f) (mA f))∧PySem.Within mA (fs.map (·.1))
 | .own _=>∃ o,h.get? a=some o
 | .xd fs=>∃ mA,h.Ns1 a mA∧∀ f,RelO (fs.lookup f) (mA f)
 | .rng lo hi=>∃ t u v,h.get? a=some { cls:=.type "range",data:=.fields #[.int lo t,.int hi u,.int 1 v] }
 | .frz o u=>h.get? a=some o∧ObjOk H h a u
 | .tbl ps=>h.get? a=some { cls:=.none,data:=.fields ps }
 | .met f x=>h.get? a=some (PySem.W.methodObj (.ref f) (.ref x))
 | .ext φ=>φ h∧(∃ o,h.get? a=some o)∧∀ h1 h2:Heap,φ h1→(∀ o,h1.get? a=some o→h2.get? a=some o)→φ h2
def HOk (H:Hp) (h:Heap):Prop:=∀ a o,H a=some o→ObjOk P w H h a o
end
section
variable {P:Program} {w:World} {H H':Hp} {h h':Heap} {a:Addr} {o:HO}
theorem ObjOk.lt (x:ObjOk P w H h a o):a < h.objs.size:=by
 cases o with
 | lst xs=>obtain ⟨_,_,_,_,e⟩:=x; exact Heap.lt_size e
 | tup xs=>obtain ⟨_,_,_,p⟩:=x; exact p.lt
 | dK kvs=>obtain ⟨_,_,_,_,o,_,_,e,_⟩:=x; exact Heap.lt_size e
 | dT kvs=>obtain ⟨_,_,_,_,o,_,_,e,_⟩:=x; exact Heap.lt_size e
 | set S n=>obtain ⟨o,_,_,_,e,_⟩:=x; exact Heap.lt_size e
 | ins C dx fs=>obtain ⟨_,_,_,e,_⟩:=x; exact Heap.lt_size e
 | own y=>obtain ⟨_,e⟩:=x; exact Heap.lt_size e
 | xd fs=>obtain ⟨_,⟨_,_,_,e,_⟩,_⟩:=x; exact Heap.lt_size e
 | rng lo hi=>obtain ⟨_,_,_,e⟩:=x; exact Heap.lt_size e
 | frz ob u=>obtain ⟨e,_⟩:=x; exact Heap.lt_size e
 | tbl ps=>exact Heap.lt_size (show h.get? a=some _ from x)
 | met f y=>exact Heap.lt_size (show h.get? a=some _ from x)
 | ext φ=>obtain ⟨_,⟨_,e⟩,_⟩:=x; exact Heap.lt_size e
theorem Paired.mapP {α β:Type} {F G:α→β→Prop}:∀ {l₁:List α} {l₂:List β},Paired F l₁ l₂→(∀ a b,F a b→G a b)→Paired G l₁ l₂
 | _,_,.nil,_=>.nil
 | _,_,.cons r t,f=>.cons (f _ _ r) (Paired.mapP t f)
theorem ObjOk.stay (x:ObjOk P w H h a o) (k:∀ b u,(b=a ∨ H b=some (.own a))→h.get? b=some u→h'.get? b=some u)
  (ho:∀ b,H b=some (.own a)→H' b=some (.own a)) (ht:∀ b xs,H b=some (.tup xs)→H' b=some (.tup xs)):ObjOk P w H' h' a o:=by
 induction o with
 | lst xs=>obtain ⟨z,its,n,r,e⟩:=x; exact ⟨z,its,n,r,k _ _ (.inl rfl) e⟩
 | tup xs=>obtain ⟨z,its,r,ob,e,c⟩:=x; exact ⟨z,its,r,ob,k _ _ (.inl rfl) e,c⟩
 | dK kvs=>obtain ⟨z,y,vs,r,ob,es,ep,e,c⟩:=x; exact ⟨z,y,vs,r,ob,es,ep,k _ _ (.inl rfl) e,c⟩
 | dT kvs =>
  obtain ⟨z,y,xs,r,ob,es,ep,e,c⟩:=x
  exact ⟨z,y,xs,Paired.mapP r fun p q z=>⟨z.1,ht _ _ z.2.1,z.2.2⟩,ob,es,ep,k _ _ (.inl rfl) e,c⟩
 | set S n=>obtain ⟨ob,es,ep,t,e,c⟩:=x; exact ⟨ob,es,ep,t,k _ _ (.inl rfl) e,c⟩
 | ins C dx fs =>
  obtain ⟨d,z,ne,e,mA,⟨od,es,ep,e2,c⟩,r⟩:=x
  exact ⟨ho _ d,z,ne,k _ _ (.inl rfl) e,mA,⟨od,es,ep,k _ _ (.inr d) e2,c⟩,r⟩
 | own y=>obtain ⟨ob,e⟩:=x; exact ⟨ob,k _ _ (.inl rfl) e⟩
 | xd fs=>obtain ⟨mA,⟨od,es,ep,e,c⟩,r⟩:=x; exact ⟨mA,⟨od,es,ep,k _ _ (.inl rfl) e,c⟩,r⟩
 | rng lo hi=>obtain ⟨t,u,v,e⟩:=x; exact ⟨t,u,v,k _ _ (.inl rfl) e⟩
 | frz ob u ih=>obtain ⟨e,q⟩:=x; exact ⟨k _ _ (.inl rfl) e,ih q⟩
 | tbl ps =>
  have e:h.get? a=some { cls:=.none,data:=.fields ps }:=x
  show h'.get? a=some { cls:=.none,data:=.fields ps }
  exact k a _ (.inl rfl) e
 | met f y =>
  have e:h.get? a=some (PySem.W.methodObj (.ref f) (.ref y)):=x
  show h'.get? a=some (PySem.W.methodObj (.ref f) (.ref y))
  exact k a _ (.inl rfl) e
 | ext φ=>obtain ⟨p,⟨o,e⟩,st⟩:=x; exact ⟨st _ _ p fun o q=>k _ _ (.inl rfl) q,⟨o,k _ _ (.inl rfl) e⟩,st⟩
theorem HOk.lt (x:HOk P w H h) (e:H a=some o):a < h.objs.size:=(x a o e).lt
theorem HOk.fresh (x:HOk P w H h) (e:h.objs.size≤a):H a=none:=by
 cases q:H a with
 | none=>rfl
 | some u=>exact absurd (Nat.lt_of_lt_of_le (x.lt q) e) (Nat.lt_irrefl _)
theorem HOk.kept (x:HOk P w H h) (k:∀ b u,h.get? b=some u→h'.get? b=some u):HOk P w H h':=fun a o e =>
 (x a o e).stay (fun b u _ q=>k b u q) (fun _ q=>q) fun _ _ q=>q
theorem HOk.laid (x:HOk P w H h) (k:∀ b u,h.get? b=some u→h'.get? b=some u) (hp:h.objs.size≤a) (new:ObjOk P w (upd H a o) h' a o):HOk P w (upd H a o) h':=fun b u e=>by
 have hn:=x.fresh hp
 by_cases hb:b=a
 ·subst hb; rw [upd_same] at e; cases e; exact new
 ·rw [upd_ne hb] at e
  exact (x b u e).stay (fun c v _ q=>k c v q) (fun c q=>by rw [upd_ne (ne_of_none q hn)]; exact q) fun c xs q=>by rw [upd_ne (ne_of_none q hn)]; exact q
end
def Rd (H:Hp) (a:Addr) (u:HO):Prop:=H a=some u ∨ ∃ o,H a=some (.frz o u)
theorem Rd.ok {P:Program} {w:World} {H:Hp} {h:Heap} {a:Addr} {u:HO} (r:Rd H a u) (x:HOk P w H h):ObjOk P w H h a u:=by
 rcases r with r | ⟨o,r⟩
 ·exact x a u r
 ·obtain ⟨_,q⟩:=x a _ r
  exact q
def Mut:Option HO→Prop
 | some (.lst _)=>True
 | some (.dK _)=>True
 | some (.dT _)=>True
 | some (.set _ _)=>True
 | some (.ins _ _ _)=>True
 | some (.ext _)=>True
 | _=>False
section
variable {P:Program} {w:World} {H:Hp} {h h':Heap} {x e:Addr} {o':HO}
theorem HOk.write (ok:HOk P w H h) (mu:Mut (H x)) (he:e=x ∨ H e=some (.own x)) (k:∀ b u,b≠e→h.get? b=some u→h'.get? b=some u) (heo:∃ u,h'.get? e=some u)
  (new:ObjOk P w (upd H x o') h' x o'):HOk P w (upd H x o') h':=fun b u q=>by
 have nown:∀ c y,H c=some (.own y)→c≠x:=fun c y r z=>by subst z; rw [r] at mu; exact mu
 have ntup:∀ c xs,H c=some (.tup xs)→c≠x:=fun c xs r z=>by subst z; rw [r] at mu; exact mu
 by_cases hb:b=x
 ·subst hb; rw [upd_same] at q; cases q; exact new
 ·rw [upd_ne hb] at q
  by_cases hbe:b=e
  ·have q':H b=some (.own x):=by
    rcases he with z | z
    ·exact absurd (hbe.trans z) hb
    ·rw [hbe]; exact z
   rw [q] at q'; cases q'
   obtain ⟨v,hv⟩:=heo
   exact ⟨v,by rw [hbe]; exact hv⟩
  ·refine (ok b u q).stay (fun c v hc r=>k c v ?_ r) (fun c r=>by rw [upd_ne (nown c b r)]; exact r) fun c xs r=>by rw [upd_ne (ntup c xs r)]; exact r
   rcases hc with rfl | hc
   ·exact hbe
   ·rintro rfl
    rcases he with z | z
    ·exact nown c b hc z
    ·rw [hc] at z; cases z; exact hb rfl
end
structure Un (fs ex:List Addr) (H H':Hp) (h h':Heap):Prop where
 keep:∀ b o,h.get? b=some o→H b=none→b ∉ fs→b ∉ ex→h'.get? b=some o
 slot:∀ b o,h.get? b=some o→H b=none→b ∈ fs→b ∉ ex→∃ sl,h'.get? b=some { o with slots:=sl }
 free:∀ b o,h.get? b=some o→H b=none→b ∉ ex→H' b=none
 there:∀ b o,h.get? b=some o→b ∉ ex→∃ o',h'.get? b=some o'
 tups:∀ b xs,H b=some (.tup xs)→H' b=some (.tup xs)
 frzs:∀ b o u,H b=some (.frz o u)→H' b=some (.frz o u)
 tbls:∀ b ps,H b=some (.tbl ps)→∃ more,H' b=some (.tbl (ps++more))
section
variable {fs fs' ex ex':List Addr} {H H1 H2:Hp} {h h1 h2 h':Heap} {a x e:Addr} {o:HO}
theorem Un.any (u:Un fs ex H H1 h h1) {b:Addr} {ob:Obj} (q:h.get? b=some ob) (n:H b=none) (hx:b ∉ ex):∃ sl,h1.get? b=some { ob with slots:=sl }:=by
 by_cases hb:b ∈ fs
 ·exact u.slot b ob q n hb hx
 ·exact ⟨ob.slots,u.keep b ob q n hb hx⟩
theorem Un.kept (k:∀ b u,h.get? b=some u→h'.get? b=some u):Un fs ex H H h h' :=
 ⟨fun b ob q _ _ _=>k b ob q,fun b ob q _ _ _=>⟨ob.slots,k b ob q⟩,fun _ _ _ n _=>n,fun b ob q _=>⟨ob,k b ob q⟩,fun _ _ q=>q,fun _ _ _ q=>q,fun _ ps q=>⟨#[],by rw [q]; simp⟩⟩
theorem Un.refl:Un fs ex H H h h:=Un.kept fun _ _ q=>q
theorem Un.laid (k:∀ b u,h.get? b=some u→h'.get? b=some u) (hp:h.objs.size≤a) (hn:H a=none):Un fs ex H (upd H a o) h h' where
 keep:=fun b u q _ _ _=>k b u q
 slot:=fun b u q _ _ _=>⟨u.slots,k b u q⟩
 free:=fun b u q n _=>by rw [upd_ne (Nat.ne_of_lt (Nat.lt_of_lt_of_le (Heap.lt_size q) hp))]; exact n
 there:=fun b u q _=>⟨u,k b u q⟩
 tups:=fun b xs q=>by rw [upd_ne (ne_of_none q hn)]; exact q
 frzs:=fun b u xs q=>by rw [upd_ne (ne_of_none q hn)]; exact q
 tbls:=fun b ps q=>⟨#[],by rw [upd_ne (ne_of_none q hn),q]; simp⟩
theorem Un.write (mu:Mut (H x)) (he:e=x ∨ H e=some (.own x)) (k:∀ b u,b≠e→h.get? b=some u→h'.get? b=some u) (heo:∃ u,h'.get? e=some u):Un fs ex H (upd H x o) h h':=by
 have hx:∀ b,H b=none→b≠x:=fun b n z=>by subst z; rw [n] at mu; exact mu
 have hb:∀ b,H b=none→b≠e:=fun b n z=>by
  subst z
  rcases he with r | r
  ·exact hx b n r
  ·rw [n] at r; cases r
 have hm:∀ b u,H b=some u→¬ Mut (some u)→b≠x:=fun b u q nm z=>by subst z; rw [q] at mu; exact nm mu
 refine ⟨fun b u q n _ _=>k b u (hb b n) q,fun b u q n _ _=>⟨u.slots,k b u (hb b n) q⟩,fun b u q n _=>by rw [upd_ne (hx b n)]; exact n,fun b u q _=>?_,
  fun b xs q=>by rw [upd_ne (hm b _ q fun z=>z)]; exact q,fun b u xs q=>by rw [upd_ne (hm b _ q fun z=>z)]; exact q,fun b ps q=>⟨#[],by rw [upd_ne (hm b _ q fun z=>z),q]; simp⟩⟩
 by_cases hbe:b=e
 ·subst hbe; exact heo
 ·exact ⟨u,k b u hbe q⟩
end
def trk (h:Heap) (H:Hp):List Addr:=(List.range h.objs.size).filter fun a=>(H a).isSome
def hidT (h:Heap) (H:Hp):Heap:=PySem.W.hideAll h (trk h H)
theorem hidT_size (h:Heap) (H:Hp):(hidT h H).objs.size=h.objs.size:=PySem.W.hideAll_size _ _
theorem hidT_get {h:Heap} {H:Hp} {b:Addr} {o:Obj} (e:h.get? b=some o) (n:H b=none):(hidT h H).get? b=some o :=
 PySem.W.hideAll_get _ e fun hm=>by
  have q:(H b).isSome=true:=(List.mem_filter.mp hm).2
  rw [n] at q; simp at q
theorem of_hidT {h:Heap} {H:Hp} {b:Addr} {o:Obj} (e:(hidT h H).get? b=some o):h.get? b=some o∧H b=none:=by
 have e':h.get? b=some o:=PySem.W.of_hideAll (trk h H) e
 refine ⟨e',?_⟩
 cases q:H b with
 | none=>rfl
 | some x =>
  have hm:b ∈ trk h H:=List.mem_filter.mpr ⟨List.mem_range.mpr (Heap.lt_size e'),by simp [q]⟩
  have z:(hidT h H).get? b=none:=PySem.W.hideAll_none (trk h H) hm
  rw [z] at e; cases e
def allNews (g h:Heap) (L:Addr):List (Addr × Obj):=(List.range h.objs.size).filterMap fun a=>if a=L ∨ (g.get? a).isSome=true then none else (h.get? a).map fun o=>(a,o)
theorem mem_allNews {g h:Heap} {L a:Addr} {o:Obj} (h1:a≠L) (h2:g.get? a=none) (h3:h.get? a=some o):(a,o) ∈ allNews g h L :=
 List.mem_filterMap.mpr ⟨a,List.mem_range.mpr (Heap.lt_size h3),by simp [h1,h2,h3]⟩
theorem of_mem_allNews {g h:Heap} {L:Addr} {p:Addr × Obj} (hp:p ∈ allNews g h L):p.1≠L∧g.get? p.1=none∧h.get? p.1=some p.2:=by
 obtain ⟨b,_,e⟩:=List.mem_filterMap.mp hp
 split at e
 ·cases e
 ·rename_i hn
  cases q:h.get? b with
  | none=>rw [q] at e; simp at e
  | some u =>
   rw [q] at e
   simp only [Option.map_some,Option.some.injEq] at e
   subst e
   refine ⟨fun z=>hn (.inl z),?_,q⟩
   show g.get? b=none
   cases r:g.get? b with
   | none=>rfl
   | some v=>exact (hn (.inr (by simp [r]))).elim
def rest (g h:Heap) (L d:Addr):List (Addr × Obj):=(allNews g h L).filter fun p=>decide (p.1≠d)
theorem news_all {g h:Heap} {L:Addr}:News g L h (allNews g h L):=fun p hp=>let ⟨a,b,c⟩:=of_mem_allNews hp; ⟨c,a,b⟩
end L2
namespace L2
open PySem PySem.Spec PyProof.Rows
structure Mod (K:PySem.W.Frag) (mg:Str→Option Value) (base:Heap):Prop where
 kin:K.In base
 glob:base.Ns mainGlobals mg
 blt:∃ mb,base.Ns builtinsNs mb∧∀ x:Str,x≠"__name__"→mb x=bootBuiltins x
 nolimit:base.NoLimit
structure Cx where
 prog:Program
 w:World
 K:PySem.W.Frag
 mg:Str→Option Value
 base:Heap
 A:Around
 N:List Str
 s₀:Shared
 H₀:Hp
 env:Env
 outer:List Env
 stack:List Env
 ex:List Addr
 fn:Str→Bool
 calm:Bool
 pn:List (Addr × Obj)
 xe:Value→Shared→Prop
def frs (l:List Env):List Addr:=l.filterMap (·.frame)
abbrev Cx.fs (X:Cx):List Addr:=frs X.outer
def Vis (sc:Scope) (x:Str):Prop:=sc.names.lookup x=some .local ∨ sc.names.lookup x=some .cell ∨ sc.names.lookup x=some .free
def Loc (sc:Scope) (x:Str):Prop:=sc.names.lookup x=some .local ∨ sc.names.lookup x=some .cell
def Look (env:Env) (h:Heap) (m:Str→Option Value) (x:Str) (u:Value):Prop :=
 (env.kindOf x=some .local∧m x=some u) ∨ ((env.kindOf x=some .cell ∨ env.kindOf x=some .free)∧∃ c,env.cells.lookup x=some c∧h.IsCell c (some u))
structure Cx.Ok (X:Cx):Prop where
 mod:Mod X.K X.mg X.base
 kind:X.env.scope.kind=.function
 glob:X.env.globals=mainGlobals
 blt:X.env.builtins=builtinsNs
 above:X.s₀.heap.objs.size≤X.env.locals
 inj:∀ x y c,X.env.cells.lookup x=some c→X.env.cells.lookup y=some c→x=y
 has:∀ x,(X.env.kindOf x=some .cell ∨ X.env.kindOf x=some .free)→∃ c,X.env.cells.lookup x=some c
 cab:∀ x c,X.fn x=true→X.env.cells.lookup x=some c→X.s₀.heap.objs.size≤c
 hd:X.calm=true→X.A.handled=none
 frames:X.A.frames=some X.stack
 stk:X.stack=X.outer ∨ (X.stack=X.env :: X.outer∧X.env.frame=some X.env.locals)
 exf:∀ b ∈ X.ex,b≠X.env.locals∧∀ x c,X.env.cells.lookup x=some c→c≠b
 bs:∀ b o,X.base.get? b=some o→X.s₀.heap.get? b=some o∧X.H₀ b=none
 bsz:X.base.objs.size≤X.s₀.heap.objs.size
 noex:∀ b o,X.base.get? b=some o→b ∉ X.ex
 exfs:∀ b ∈ X.ex,b ∉ X.fs
 funs:X.s₀.heap.FunFrames X.base X.outer
 frf:∀ b ∈ X.fs,X.H₀ b=none
structure Inv (X:Cx) (pins:List (Addr × Obj)) (σ:List (Option V)) (H:Hp) (s:Shared):Prop where
 ok:X.Ok
 os:s.os=X.s₀.os
 bare:AllBare s.gens
 base:Un X.fs X.ex X.H₀ H X.s₀.heap s.heap
 loc:∃ m,s.heap.Ns X.env.locals m∧∀ (i:Nat) (x:Str) (v:V),X.N[i]? = some x→σ[i]? = some (some v)→Vis X.env.scope x→∃ u,RelV v u∧Look X.env s.heap m x u
 cell:∀ x c,X.env.cells.lookup x=some c→∃ v,s.heap.IsCell c v
 free:H X.env.locals=none
 freeC:∀ x c,X.env.cells.lookup x=some c→H c=none
 pin:∀ p ∈ X.pn++pins,s.heap.get? p.1=some p.2∧H p.1=none∧p.1≠X.env.locals∧p.1 ∉ X.fs∧∀ v,p.2.data≠.cell v
 hok:HOk X.prog X.w H s.heap
 len:σ.length=X.N.length
section
variable {X:Cx} {pins:List (Addr × Obj)} {σ:List (Option V)} {H H':Hp} {s:Shared} {h':Heap}
theorem Cx.Ok.nofr (ok:X.Ok) {b:Addr} {o:Obj} (e:X.base.get? b=some o):b ∉ X.fs:=fun hb=>by
 have:=(ok.funs.mem hb).1
 rw [e] at this; cases this
theorem Inv.bs (I:Inv X pins σ H s):∀ b o,X.base.get? b=some o→s.heap.get? b=some o∧H b=none:=fun b o e =>
 ⟨I.base.keep b o (I.ok.bs b o e).1 (I.ok.bs b o e).2 (I.ok.nofr e) (I.ok.noex b o e),I.base.free b o (I.ok.bs b o e).1 (I.ok.bs b o e).2 (I.ok.noex b o e)⟩
theorem Inv.bk (I:Inv X pins σ H s):∀ b o,X.base.get? b=some o→s.heap.get? b=some o:=fun b o e=>(I.bs b o e).1
theorem Inv.mod (I:Inv X pins σ H s):Mod X.K X.mg X.base:=I.ok.mod
theorem Inv.kIn (I:Inv X pins σ H s):X.K.In s.heap:=I.ok.mod.kin.keeps I.bk
theorem Inv.nolimit (I:Inv X pins σ H s):s.heap.NoLimit:=I.ok.mod.nolimit.keeps I.bk
theorem Inv.fr (I:Inv X pins σ H s):∃ m,Fr X.base X.env.locals s.heap m :=
 let ⟨m,hn,_⟩:=I.loc
 ⟨m,hn,I.bk,Nat.le_trans I.ok.bsz I.ok.above⟩
theorem Inv.lt (I:Inv X pins σ H s):X.env.locals < s.heap.objs.size:=let ⟨_,hn,_⟩:=I.loc; hn.lt
theorem Inv.sz (I:Inv X pins σ H s):X.s₀.heap.objs.size≤s.heap.objs.size:=Nat.le_trans I.ok.above (Nat.le_of_lt I.lt)
theorem Inv.nofs (I:Inv X pins σ H s) {a:Addr} (h:s.heap.objs.size≤a):a ∉ X.fs:=fun hb=>by
 obtain ⟨_,o,ho,_⟩:=I.ok.funs.mem hb
 exact absurd (Nat.lt_of_lt_of_le (Heap.lt_size ho) (Nat.le_trans I.sz h)) (Nat.lt_irrefl _)
theorem Inv.cne (I:Inv X pins σ H s):∀ x c,X.env.cells.lookup x=some c→c≠X.env.locals:=fun x c e z=>by
 obtain ⟨v,o,ho,hd⟩:=I.cell x c e
 obtain ⟨m,⟨o',es,ep,ho',hd',_⟩,_⟩:=I.loc
 rw [z,ho'] at ho; cases ho; rw [hd'] at hd; cases hd
theorem Inv.funs (I:Inv X pins σ H s):s.heap.FunFrames X.base X.outer:=by
 have all:∀ (l:List Env),(∀ b ∈ frs l,b ∈ X.fs)→X.s₀.heap.FunFrames X.base l→s.heap.FunFrames X.base l:=by
  intro l
  induction l with
  | nil=>intro _ _; trivial
  | cons env r ih =>
   intro hs hl
   obtain ⟨hk,⟨L,o,hf,hn,ho,hd⟩,hr⟩:=hl
   have hL:L ∈ X.fs:=hs L (by unfold frs; rw [List.filterMap_cons,hf]; exact List.mem_cons_self)
   obtain ⟨sl,e⟩:=I.base.slot L o ho (I.ok.frf L hL) hL fun z=>I.ok.exfs L z hL
   exact ⟨hk,⟨L,_,hf,hn,e,hd⟩,ih (fun b hb=>hs b (by unfold frs; rw [List.filterMap_cons,hf]; exact List.mem_cons_of_mem _ hb)) hr⟩
 exact all X.outer (fun _ hb=>hb) I.ok.funs
theorem Inv.stack (I:Inv X pins σ H s):s.heap.FunFrames X.base X.stack:=by
 rcases I.ok.stk with e | ⟨e,hf⟩
 ·rw [e]; exact I.funs
 ·rw [e]
  obtain ⟨m,hn,_⟩:=I.loc
  refine .cons (by rw [I.ok.kind]; decide) hf hn ?_ I.funs
  exact Heap.get?_none_of_le (Nat.le_trans I.ok.bsz I.ok.above)
theorem Inv.stkSub (I:Inv X pins σ H s):∀ b ∈ frs X.stack,b ∈ X.env.locals :: X.fs:=fun b hb=>by
 rcases I.ok.stk with e | ⟨e,hf⟩
 ·rw [e] at hb; exact List.mem_cons_of_mem _ hb
 ·rw [e] at hb
  unfold frs at hb
  rw [List.filterMap_cons,hf] at hb
  exact hb
theorem Inv.stkFree (I:Inv X pins σ H s):∀ b ∈ frs X.stack,H b=none:=fun b hb=>by
 rcases List.mem_cons.mp (I.stkSub b hb) with e | hb
 ·rw [e]; exact I.free
 ·obtain ⟨_,o,ho,_⟩:=I.ok.funs.mem hb
  exact I.base.free b o ho (I.ok.frf b hb) fun z=>I.ok.exfs b z hb
theorem Inv.step {g':Array GenState} {t':Nat} {d':Drawn} {ch:List Addr} (I:Inv X pins σ H s)
  (hch:∀ b ∈ ch,(b ∈ X.ex ∨ X.s₀.heap.objs.size≤b)∧b≠X.env.locals∧(∀ x c,X.env.cells.lookup x=some c→c≠b)∧∀ p ∈ X.pn++pins,p.1≠b)
  (keep:∀ b o,b≠X.env.locals→b ∉ X.fs→b ∉ ch→s.heap.get? b=some o→H b=none→h'.get? b=some o)
  (slot:∀ b o,b≠X.env.locals→b ∈ X.fs→b ∉ ch→s.heap.get? b=some o→H b=none→∃ sl,h'.get? b=some { o with slots:=sl }) (free:∀ b o,b ∉ ch→s.heap.get? b=some o→H b=none→H' b=none)
  (there:∀ b o,b ∉ ch→s.heap.get? b=some o→∃ o',h'.get? b=some o')
  (tups:∀ b xs,H b=some (.tup xs)→H' b=some (.tup xs)) (frzs:∀ b o u,H b=some (.frz o u)→H' b=some (.frz o u)) (tbls:∀ b ps,H b=some (.tbl ps)→∃ more,H' b=some (.tbl (ps++more)))
  (ns:∀ m,s.heap.Ns X.env.locals m→h'.Ns X.env.locals m) (hok:HOk X.prog X.w H' h') (hg:AllBare g') :
  Inv X pins σ H' { s with heap:=h',gens:=g',drawn:=d',toks:=t' }:=by
 have neL:∀ b o,X.s₀.heap.get? b=some o→b≠X.env.locals:=fun b o e=>Nat.ne_of_lt (Nat.lt_of_lt_of_le (Heap.lt_size e) I.ok.above)
 have neC:∀ b o,X.s₀.heap.get? b=some o→b ∉ X.ex→b ∉ ch:=fun b o e hx hb=>by
  rcases (hch b hb).1 with z | z
  ·exact hx z
  ·exact absurd (Nat.lt_of_lt_of_le (Heap.lt_size e) z) (Nat.lt_irrefl _)
 have cellK:∀ x c,X.env.cells.lookup x=some c→∀ v,s.heap.IsCell c v→h'.IsCell c v:=fun x c e v ⟨o,ho,hd⟩=>by
  have nch:c ∉ ch:=fun z=>(hch c z).2.2.1 x c e rfl
  by_cases hc:c ∈ X.fs
  ·obtain ⟨sl,q⟩:=slot c o (I.cne x c e) hc nch ho (I.freeC x c e)
   exact ⟨_,q,hd⟩
  ·exact ⟨o,keep c o (I.cne x c e) hc nch ho (I.freeC x c e),hd⟩
 refine ⟨I.ok,I.os,hg,⟨fun b o e n hb hx=>?_,fun b o e n hb hx=>?_,fun b o e n hx=>?_,fun b o e hx=>?_,fun b xs e=>tups b xs (I.base.tups b xs e),fun b o xs e=>frzs b o xs (I.base.frzs b o xs e),fun b ps e=>?_⟩,?_,fun x c e=>?_,?_,fun x c e=>?_,fun p hp=>?_,hok,I.len⟩
 ·exact keep b o (neL b o e) hb (neC b o e hx) (I.base.keep b o e n hb hx) (I.base.free b o e n hx)
 ·obtain ⟨sl,e1⟩:=I.base.slot b o e n hb hx
  obtain ⟨sl',e2⟩:=slot b _ (neL b o e) hb (neC b o e hx) e1 (I.base.free b o e n hx)
  exact ⟨sl',e2⟩
 ·obtain ⟨o',e1⟩:=I.base.there b o e hx
  exact free b o' (neC b o e hx) e1 (I.base.free b o e n hx)
 ·obtain ⟨o',e1⟩:=I.base.there b o e hx
  exact there b o' (neC b o e hx) e1
 ·obtain ⟨m1,e1⟩:=I.base.tbls b ps e
  obtain ⟨m2,e2⟩:=tbls b _ e1
  exact ⟨m1++m2,by rw [e2,Array.append_assoc]⟩
 ·obtain ⟨m,hn,hl⟩:=I.loc
  refine ⟨m,ns m hn,fun i x v e1 e2 e3=>?_⟩
  obtain ⟨u,r,l⟩:=hl i x v e1 e2 e3
  refine ⟨u,r,?_⟩
  rcases l with l | ⟨k,c,e,z⟩
  ·exact .inl l
  ·exact .inr ⟨k,c,e,cellK x c e _ z⟩
 ·obtain ⟨v,z⟩:=I.cell x c e
  exact ⟨v,cellK x c e v z⟩
 ·obtain ⟨m,⟨o,_,_,ho,_⟩,_⟩:=I.loc
  exact free _ o (fun z=>(hch _ z).2.1 rfl) ho I.free
 ·obtain ⟨v,o,ho,hd⟩:=I.cell x c e
  exact free c o (fun z=>(hch c z).2.2.1 x c e rfl) ho (I.freeC x c e)
 ·obtain ⟨e,n,ne,nf,d⟩:=I.pin p hp
  have nch:p.1 ∉ ch:=fun z=>(hch p.1 z).2.2.2 p hp rfl
  exact ⟨keep p.1 p.2 ne nf nch e n,free p.1 p.2 nch e n,ne,nf,d⟩
theorem Inv.un {t':Nat} (I:Inv X pins σ H s) (u:Un X.fs [] H H' s.heap h') (hok:HOk X.prog X.w H' h'):Inv X pins σ H' { s with heap:=h',toks:=t' }:=by
 obtain ⟨m,⟨o,es,ep,ho,r⟩,_⟩:=id I.loc
 obtain ⟨sl,hL⟩:=u.any ho I.free (by simp)
 exact I.step (g':=s.gens) (d':=s.drawn) (ch:=[]) (fun _ z=>nomatch z) (fun b o _ hb _ e n=>u.keep b o e n hb (by simp)) (fun b o _ hb _ e n=>u.slot b o e n hb (by simp)) (fun b o _ e n=>u.free b o e n (by simp)) (fun b o _ e=>u.there b o e (by simp)) u.tups u.frzs u.tbls (fun m' hm=>by
  obtain ⟨o',es',ep',ho',r'⟩:=hm
  rw [ho] at ho'; cases ho'
  exact ⟨_,es',ep',hL,r'⟩) hok I.bare
theorem Inv.call {g':Array GenState} {t':Nat} {d':Drawn} {ch:List Addr} (I:Inv X pins σ H s) (u:Un (frs X.stack) ch H H' s.heap h') (hok:HOk X.prog X.w H' h') (hg:AllBare g')
  (hch:∀ b ∈ ch,(b ∈ X.ex ∨ X.s₀.heap.objs.size≤b)∧b≠X.env.locals∧(∀ x c,X.env.cells.lookup x=some c→c≠b)∧∀ p ∈ X.pn++pins,p.1≠b) :
  Inv X pins σ H' { s with heap:=h',gens:=g',drawn:=d',toks:=t' }:=by
 obtain ⟨m,⟨o,es,ep,ho,r⟩,_⟩:=id I.loc
 obtain ⟨sl,hL⟩:=u.any ho I.free fun z=>(hch _ z).2.1 rfl
 exact I.step (ch:=ch) hch (fun b o hL hb hc e n=>u.keep b o e n (fun z=>(List.mem_cons.mp (I.stkSub b z)).elim hL hb) hc) (fun b o _ _ hc e n=>u.any e n hc) (fun b o hc e n=>u.free b o e n hc) (fun b o hc e=>u.there b o e hc) u.tups u.frzs u.tbls (fun m' hm=>by
  obtain ⟨o',es',ep',ho',r'⟩:=hm
  rw [ho] at ho'; cases ho'
  exact ⟨_,es',ep',hL,r'⟩) hok hg
theorem Inv.turned {t':Nat} {it:Addr} (I:Inv X pins σ H s) (k:∀ b o,b≠it→s.heap.get? b=some o→h'.get? b=some o) (hn:H it=none) (hL:it≠X.env.locals)
  (h1:it ∈ X.ex ∨ X.s₀.heap.objs.size≤it) (h2:∀ x c,X.env.cells.lookup x=some c→c≠it) (h3:∀ p ∈ X.pn++pins,p.1≠it):Inv X pins σ H { s with heap:=h',toks:=t' }:=by
 have nit:∀ b u,H b=some u→b≠it:=fun b u e z=>by rw [z,hn] at e; cases e
 refine I.step (g':=s.gens) (d':=s.drawn) (ch:=[it]) (fun b hb=>?_) (fun b o _ _ hc e _=>k b o (fun z=>hc (by simp [z])) e) (fun b o _ _ hc e _=>⟨o.slots,k b o (fun z=>hc (by simp [z])) e⟩) (fun _ _ _ _ n=>n)
  (fun b o hc e=>⟨o,k b o (fun z=>hc (by simp [z])) e⟩) (fun _ _ e=>e) (fun _ _ _ e=>e) (fun b ps e=>⟨#[],by rw [e]; simp⟩) (fun m hm=>?_) (fun b u e=>?_) I.bare
 ·have e:b=it:=by simpa using hb
  subst e
  exact ⟨h1,hL,h2,h3⟩
 ·obtain ⟨o,es,ep,ho,r⟩:=hm
  exact ⟨o,es,ep,k _ o (Ne.symm hL) ho,r⟩
 ·refine (I.hok b u e).stay (fun c v hc q=>k c v ?_ q) (fun _ q=>q) fun _ _ q=>q
  rcases hc with z | z
  ·rw [z]; exact nit b u e
  ·exact nit c _ z
theorem Inv.tok (I:Inv X pins σ H s) (t:Nat):Inv X pins σ H { s with toks:=t }:=I.un (h':=s.heap) (t':=t) Un.refl I.hok
theorem Inv.kept {t':Nat} (I:Inv X pins σ H s) (k:∀ b u,s.heap.get? b=some u→h'.get? b=some u):Inv X pins σ H { s with heap:=h',toks:=t' }:=I.un (Un.kept k) (I.hok.kept k)
theorem Inv.laid {a:Addr} {o:HO} {t':Nat} (I:Inv X pins σ H s) (k:∀ b u,s.heap.get? b=some u→h'.get? b=some u) (hp:s.heap.objs.size≤a) (new:ObjOk X.prog X.w (upd H a o) h' a o) :
  Inv X pins σ (upd H a o) { s with heap:=h',toks:=t' }:=I.un (Un.laid k hp (I.hok.fresh hp)) (I.hok.laid k hp new)
theorem Inv.write {x e:Addr} {o:HO} {t':Nat} (I:Inv X pins σ H s) (mu:Mut (H x)) (he:e=x ∨ H e=some (.own x)) (k:∀ b u,b≠e→s.heap.get? b=some u→h'.get? b=some u) (heo:∃ u,h'.get? e=some u)
  (new:ObjOk X.prog X.w (upd H x o) h' x o):Inv X pins σ (upd H x o) { s with heap:=h',toks:=t' }:=I.un (Un.write mu he k heo) (I.hok.write mu he k heo new)
theorem Inv.pins_of {pins':List (Addr × Obj)} (I:Inv X pins σ H s) (h:∀ p ∈ pins',s.heap.get? p.1=some p.2∧H p.1=none∧p.1≠X.env.locals∧p.1 ∉ X.fs∧∀ v,p.2.data≠.cell v):Inv X pins' σ H s :=
 ⟨I.ok,I.os,I.bare,I.base,I.loc,I.cell,I.free,I.freeC,fun p hp=>(List.mem_append.mp hp).elim (fun z=>I.pin p (List.mem_append_left _ z)) (h p),I.hok,I.len⟩
theorem nodup_ix {N:List Str} (hN:N.Nodup) {i j:Nat} {x:Str} (a:N[i]? = some x) (b:N[j]? = some x):i=j:=by
 obtain ⟨h1,e1⟩:=List.getElem?_eq_some_iff.mp a
 obtain ⟨h2,e2⟩:=List.getElem?_eq_some_iff.mp b
 exact (List.getElem_inj hN).mp (e1.trans e2.symm)
theorem store_ok2 {M:Model} {A:Around} {E:Value→Shared→Prop} {i:Nat} {x:Str} {v:V} {u:Value} {Q:Unit→Shared→Prop} (I:Inv X pins σ H s) (hN:X.N.Nodup) (hi:X.N[i]? = some x) (hx:Loc X.env.scope x) (r:RelV v u)
  (h:∀ s',Inv X pins (σ.set i (some v)) H s'→(∃ a,Heap.SameBut a s.heap s'.heap∧(a=X.env.locals ∨ X.env.cells.lookup x=some a))→Q () s') (hf:X.fn x=true ∨ X.env.scope.names.lookup x=some .local:=by first | exact .inl rfl | exact .inr rfl | assumption):wpAny M A (storeName X.env x u) Q E s:=by
 obtain ⟨m,hn,hl⟩:=id I.loc
 have hcls:(X.env.scope.kind == .class || (X.env.scope.kind == .module && X.env.locals != X.env.globals))=false:=by rw [I.ok.kind]; rfl
 have hiσ:i < σ.length:=by rw [I.len]; exact (List.getElem?_eq_some_iff.mp hi).1
 have cne:=I.cne
 have tracked:∀ {a:Addr} {h':Heap},(∃ o,s.heap.get? a=some o∧H a=none)→Heap.SameBut a s.heap h'→HOk X.prog X.w H h':=fun {a h'} ha hs b ob e=>by
  obtain ⟨_,_,hfree⟩:=ha
  refine (I.hok b ob e).stay (fun c w' hc q=>(hs.2 c ?_).trans q) (fun _ q=>q) fun _ _ q=>q
  rintro rfl
  rcases hc with rfl | hc
  ·rw [hfree] at e; cases e
  ·rw [hfree] at hc; cases hc
 rcases hx with hk | hk
 ·refine wpAny_storeName_local hk hn (fun h' hn' hs=>?_) hcls
  obtain ⟨oL,_,_,hoL,_⟩:=id hn
  refine h _ ⟨I.ok,I.os,I.bare,⟨fun b o e n hb hx=>?_,fun b o e n hb hx=>?_,I.base.free,fun b o e hx=>?_,I.base.tups,I.base.frzs,I.base.tbls⟩,⟨_,hn',fun j y v' e1 e2 e3=>?_⟩,fun y c e=>?_,I.free,I.freeC,fun p hp=>?_,tracked ⟨oL,hoL,I.free⟩ hs,by simpa using I.len⟩ ⟨_,hs,.inl rfl⟩
  ·exact (hs.2 b (Nat.ne_of_lt (Nat.lt_of_lt_of_le (Heap.lt_size e) I.ok.above))).trans (I.base.keep b o e n hb hx)
  ·obtain ⟨sl,e1⟩:=I.base.slot b o e n hb hx
   exact ⟨sl,(hs.2 b (Nat.ne_of_lt (Nat.lt_of_lt_of_le (Heap.lt_size e) I.ok.above))).trans e1⟩
  ·obtain ⟨o',e1⟩:=I.base.there b o e hx
   exact ⟨o',(hs.2 b (Nat.ne_of_lt (Nat.lt_of_lt_of_le (Heap.lt_size e) I.ok.above))).trans e1⟩
  ·by_cases hj:j=i
   ·subst hj
    rw [hi] at e1; cases e1
    rw [List.getElem?_set_self hiσ] at e2
    cases e2
    exact ⟨u,r,.inl ⟨hk,by simp⟩⟩
   ·rw [List.getElem?_set_ne (Ne.symm hj)] at e2
    obtain ⟨u',r',q⟩:=hl j y v' e1 e2 e3
    refine ⟨u',r',?_⟩
    rcases q with ⟨k,e⟩ | ⟨k,c,e,z⟩
    ·refine .inl ⟨k,?_⟩
     have:y≠x:=fun e=>hj (nodup_ix hN e1 (e ▸ hi))
     simp [this,e]
    ·exact .inr ⟨k,c,e,z.sameBut hs (cne y c e)⟩
  ·obtain ⟨w',z⟩:=I.cell y c e
   exact ⟨w',z.sameBut hs (cne y c e)⟩
  ·obtain ⟨e,n,ne,nf,d⟩:=I.pin p hp
   exact ⟨(hs.2 p.1 ne).trans e,n,ne,nf,d⟩
 ·have hfn:X.fn x=true:=by
   rcases hf with z | z
   ·exact z
   ·rw [z] at hk; cases hk
  obtain ⟨c,hc⟩:=I.ok.has x (.inl hk)
  obtain ⟨w',z⟩:=I.cell x c hc
  refine wpAny_storeName_cell I.ok.kind hk hc z (fun h' hc' hs=>?_)
  obtain ⟨oc,hoc,hocd⟩:=id z
  refine h { s with heap:=h' } ⟨I.ok,I.os,I.bare,⟨fun b o e n hb hx=>?_,fun b o e n hb hx=>?_,I.base.free,fun b o e hx=>?_,I.base.tups,I.base.frzs,I.base.tbls⟩,⟨m,hn.sameBut hs (Ne.symm (cne x c hc)),fun j y v' e1 e2 e3=>?_⟩,fun y c' e=>?_,I.free,I.freeC,fun p hp=>?_,tracked ⟨oc,hoc,I.freeC x c hc⟩ hs,by simpa using I.len⟩ ⟨c,hs,.inr hc⟩
  ·exact (hs.2 b (Nat.ne_of_lt (Nat.lt_of_lt_of_le (Heap.lt_size e) (I.ok.cab x c hfn hc)))).trans (I.base.keep b o e n hb hx)
  ·obtain ⟨sl,e1⟩:=I.base.slot b o e n hb hx
   exact ⟨sl,(hs.2 b (Nat.ne_of_lt (Nat.lt_of_lt_of_le (Heap.lt_size e) (I.ok.cab x c hfn hc)))).trans e1⟩
  ·obtain ⟨o',e1⟩:=I.base.there b o e hx
   exact ⟨o',(hs.2 b (Nat.ne_of_lt (Nat.lt_of_lt_of_le (Heap.lt_size e) (I.ok.cab x c hfn hc)))).trans e1⟩
  ·by_cases hj:j=i
   ·subst hj
    rw [hi] at e1; cases e1
    rw [List.getElem?_set_self hiσ] at e2
    cases e2
    exact ⟨u,r,.inr ⟨.inl hk,c,hc,hc'⟩⟩
   ·rw [List.getElem?_set_ne (Ne.symm hj)] at e2
    obtain ⟨u',r',q⟩:=hl j y v' e1 e2 e3
    refine ⟨u',r',?_⟩
    rcases q with q | ⟨k,c',e,z'⟩
    ·exact .inl q
    ·refine .inr ⟨k,c',e,z'.sameBut hs ?_⟩
     rintro rfl
     exact hj (nodup_ix hN e1 (I.ok.inj _ _ _ e hc ▸ hi))
  ·by_cases hcc:c'=c
   ·subst hcc; exact ⟨_,hc'⟩
   ·obtain ⟨w2,z2⟩:=I.cell y c' e
    exact ⟨w2,z2.sameBut hs hcc⟩
  ·obtain ⟨e,n,ne,nf,d⟩:=I.pin p hp
   refine ⟨(hs.2 p.1 ?_).trans e,n,ne,nf,d⟩
   intro q
   rw [q,hoc] at e
   have q':oc=p.2:=Option.some.inj e
   exact d w' (by rw [←q']; exact hocd)
theorem store_ok {M:Model} {A:Around} {E:Value→Shared→Prop} {i:Nat} {x:Str} {v:V} {u:Value} {Q:Unit→Shared→Prop} (I:Inv X pins σ H s) (hN:X.N.Nodup) (hi:X.N[i]? = some x) (hx:Loc X.env.scope x) (r:RelV v u)
  (h:∀ s',Inv X pins (σ.set i (some v)) H s'→Q () s') (hf:X.fn x=true ∨ X.env.scope.names.lookup x=some .local:=by first | exact .inl rfl | exact .inr rfl | assumption):wpAny M A (storeName X.env x u) Q E s :=
 store_ok2 I hN hi hx r (fun s' I' _=>h s' I') hf
theorem Inv.call' {s':Shared} {ch:List Addr} (I:Inv X pins σ H s) (ho:s'.os=s.os) (u:Un (frs X.stack) ch H H' s.heap s'.heap) (hok:HOk X.prog X.w H' s'.heap) (hg:AllBare s'.gens)
  (hch:∀ b ∈ ch,(b ∈ X.ex ∨ X.s₀.heap.objs.size≤b)∧b≠X.env.locals∧(∀ x c,X.env.cells.lookup x=some c→c≠b)∧∀ p ∈ X.pn++pins,p.1≠b):Inv X pins σ H' s':=by
 obtain ⟨h',g',d',t',o'⟩:=s'
 have e:o'=s.os:=ho
 subst e
 exact I.call (g':=g') (t':=t') (d':=d') u hok hg hch
end
abbrev XK:=Value→Option Addr→Hp→Prop
abbrev St:=List (Option V)
abbrev VK:=V→Hp→Prop
abbrev TE:=St→Hp→VK→Prop
abbrev TT:=St→Hp→(Bool→Hp→Prop)→Prop
abbrev TA:=St→Hp→(List V→Hp→Prop)→Prop
structure Ends where
 nx:St→Hp→Prop
 rt:VK
 bk:St→Hp→Prop:=fun _ _=>False
 ct:St→Hp→Prop:=fun _ _=>False
abbrev TS:=Ends→St→Hp→Prop
def EP (X:Cx) (pins:List (Addr × Obj)) (σ:St) (Q:VK) (u:Value) (s':Shared):Prop:=∃ v H',Inv X pins σ H' s'∧RelV v u∧Q v H'
def TP (X:Cx) (pins:List (Addr × Obj)) (σ:St) (Q:Bool→Hp→Prop) (b:Bool) (s':Shared):Prop:=∃ H',Inv X pins σ H' s'∧Q b H'
def AP (X:Cx) (pins:List (Addr × Obj)) (σ:St) (Q:List V→Hp→Prop) (us:List Value) (s':Shared):Prop:=∃ vs H',Inv X pins σ H' s'∧Vals vs us∧Q vs H'
def SP (X:Cx) (pins:List (Addr × Obj)) (D:Ends) (f:Flow) (s':Shared):Prop :=
 match f with
 | .next=>∃ σ' H',Inv X pins σ' H' s'∧D.nx σ' H'
 | .brk=>∃ σ' H',Inv X pins σ' H' s'∧D.bk σ' H'
 | .cont=>∃ σ' H',Inv X pins σ' H' s'∧D.ct σ' H'
 | .ret u=>∃ v σ' H',Inv X pins σ' H' s'∧RelV v u∧D.rt v H'
def PE (X:Cx) (e:Expr) (t:TE):Prop :=
 ∀ (pins:List (Addr × Obj)) (s:Shared) (σ:St) (H:Hp) (Q:VK),Inv X pins σ H s→t σ H Q→wpAny (model X.prog X.w) X.A (eval e X.env) (EP X pins σ Q) X.xe s
def PT (X:Cx) (e:Expr) (t:TT):Prop :=
 ∀ (pins:List (Addr × Obj)) (s:Shared) (σ:St) (H:Hp) (Q:Bool→Hp→Prop),Inv X pins σ H s→t σ H Q→wpAny (model X.prog X.w) X.A (isTrue e X.env (eval e X.env)) (TP X pins σ Q) X.xe s
def PW (X:Cx) (e:Expr) (t:TT):Prop :=
 ∀ (whole:Sem Value) (pins:List (Addr × Obj)) (s:Shared) (σ:St) (H:Hp) (Q:Bool→Hp→Prop),Inv X pins σ H s→t σ H Q→wpAny (model X.prog X.w) X.A (isTrue e X.env whole) (TP X pins σ Q) X.xe s
theorem PW.pt {X:Cx} {e:Expr} {t:TT} (h:PW X e t):PT X e t:=h _
def PA (X:Cx) (es:List Expr) (t:TA):Prop :=
 ∀ (pos:Pos) (pins:List (Addr × Obj)) (s:Shared) (σ:St) (H:Hp) (Q:List V→Hp→Prop),Inv X pins σ H s→t σ H Q→wpAny (model X.prog X.w) X.A (spliced (backTo pos (starEach es X.env))) (AP X pins σ Q) X.xe s
def PS (X:Cx) (st:Stmt) (t:TS):Prop :=
 ∀ (pins:List (Addr × Obj)) (s:Shared) (σ:St) (H:Hp) (D:Ends),Inv X pins σ H s→t D σ H→wpAny (model X.prog X.w) X.A (exec st X.env) (SP X pins D) X.xe s
def PSs (X:Cx) (st:List Stmt) (t:TS):Prop :=
 ∀ (pins:List (Addr × Obj)) (s:Shared) (σ:St) (H:Hp) (D:Ends),Inv X pins σ H s→t D σ H→wpAny (model X.prog X.w) X.A (execs st X.env) (SP X pins D) X.xe s
theorem thn {α:Type} {t:Sem α} {Q Q':α→Shared→Prop} {M:Model} {A:Around} {E:Value→Shared→Prop} {s:Shared} (h:wpAny M A t Q E s) (hQ:∀ a s,Q a s→Q' a s):wpAny M A t Q' E s:=wpAny_mono h hQ fun _ _ x=>x
end L2
namespace L2
open PySem PySem.Spec PyProof.Rows
section
variable {X:Cx}
theorem bin {a b:Expr} {ta tb:TE} (ha:PE X a ta) (hb:PE X b tb) {pins:List (Addr × Obj)} {s:Shared} {σ:St} {H:Hp} {R:V→V→Hp→Prop} (I:Inv X pins σ H s) (h:ta σ H fun x H1=>tb σ H1 fun y H2=>R x y H2)
  {α:Type} {Q:α→Shared→Prop} {f:Value→Value→Sem α}
  (hf:∀ v u s2 x y H2,Inv X pins σ H2 s2→RelV x v→RelV y u→R x y H2→wpAny (model X.prog X.w) X.A (f v u) Q X.xe s2) :
  wpAny (model X.prog X.w) X.A (eval a X.env) (fun v s₁=>wpAny (model X.prog X.w) X.A (eval b X.env) (fun u s₂=>wpAny (model X.prog X.w) X.A (f v u) Q X.xe s₂) X.xe s₁) X.xe s:=by
 refine thn (ha pins s σ H _ I h) fun v s1 ⟨x,H1,I1,r1,q1⟩=>?_
 refine thn (hb pins s1 σ H1 _ I1 q1) fun u s2 ⟨y,H2,I2,r2,q2⟩=>?_
 exact hf v u s2 x y H2 I2 r1 r2 q2
def tVar (i:Nat):TE:=fun σ H Q=>∃ v,σ[i]? = some (some v)∧Q v H
def tC (v:V):TE:=fun _ H Q=>Q v H
theorem pe_var {i:Nat} {x:Str} {pos:Pos} (hN:X.N[i]? = some x) (hv:Vis X.env.scope x) (hd:(x == ("__debug__" : Str))=false:=by decide) (hcd:(x == ("__classdict__" : Str))=false:=by decide):PE X (.Name x pos) (tVar i):=by
 intro pins s σ H Q I h
 obtain ⟨v,e,h⟩:=h
 obtain ⟨m,hn,hl⟩:=I.loc
 obtain ⟨u,r,l⟩:=hl i x v hN e hv
 have fin:EP X pins σ Q u s:=⟨v,H,I,r,h⟩
 rcases l with ⟨hk,hm⟩ | ⟨hk,c,hc,hcell⟩
 ·exact wpAny_Name (wpAny_loadName_local I.ok.kind hk hn hm fin) hd
 ·rcases hk with hk | hk
  ·exact wpAny_Name (wpAny_loadName_cell I.ok.kind hk hc hcell fin) hd
  ·exact wpAny_Name (wpAny_loadName_free I.ok.kind hk hc hcell fin hcd) hd
theorem pe_int {i j pos}:PE X (.Constant (.int i) j pos) (tC (.int i)):=fun _ _ _ H _ I h=>wpAny_Constant_int ⟨.int i,H,I.tok _,⟨_,rfl⟩,h⟩
theorem pe_bl {b j pos}:PE X (.Constant (.bool b) j pos) (tC (.bl b)):=fun _ _ _ H _ I h=>Constant_bool ⟨.bl b,H,I,rfl,h⟩
theorem pe_non {j pos}:PE X (.Constant .none j pos) (tC .non):=fun _ _ _ H _ I h=>Constant_none ⟨.non,H,I,rfl,h⟩
def Gl (X:Cx) (x:Str):Prop:=X.env.kindOf x=some .globalImplicit
theorem ld_glob {E:Value→Shared→Prop} {pins:List (Addr × Obj)} {s:Shared} {σ:St} {H:Hp} {x:Str} {u:Value} {pos:Pos} {Q:Value→Shared→Prop} (I:Inv X pins σ H s) (hg:Gl X x) (hm:X.mg x=some u) (h:Q u s)
  (hd:(x == ("__debug__" : Str))=false:=by decide):wpAny (model X.prog X.w) X.A (eval (.Name x pos) X.env) Q E s :=
 Calls.Name_function_global I.ok.kind hg (Calls.loadGlobal_global (by rw [I.ok.glob]; exact I.mod.glob.keeps I.bk) hm h) hd
theorem ld_blt {E:Value→Shared→Prop} {pins:List (Addr × Obj)} {s:Shared} {σ:St} {H:Hp} {x:Str} {u:Value} {pos:Pos} {Q:Value→Shared→Prop} (I:Inv X pins σ H s) (hg:Gl X x) (hm:X.mg x=none) (hv:bootBuiltins x=some u) (h:Q u s)
  (hn:x≠"__name__":=by decide) (hd:(x == ("__debug__" : Str))=false:=by decide):wpAny (model X.prog X.w) X.A (eval (.Name x pos) X.env) Q E s:=by
 obtain ⟨mb,h1,h2⟩:=I.mod.blt
 exact Calls.Name_function_global I.ok.kind hg (Calls.loadGlobal_builtin (by rw [I.ok.glob]; exact I.mod.glob.keeps I.bk) hm (by rw [I.ok.blt]; exact h1.keeps I.bk) ((h2 x hn).trans hv) h) hd
theorem pe_bltn {x:Str} {v:V} {u:Value} {pos:Pos} (hg:Gl X x) (hm:X.mg x=none) (hv:bootBuiltins x=some u) (r:RelV v u) (hn:x≠"__name__":=by decide) (hd:(x == ("__debug__" : Str))=false:=by decide):PE X (.Name x pos) (tC v) :=
 fun _ _ _ H _ I h=>ld_blt I hg hm hv ⟨v,H,I,r,h⟩ hn hd
variable {a b:Expr} {ta tb:TE} {pos:Pos}
def PC (X:Cx) (op:CmpOp) (a b:Expr) (t:TE):Prop :=
 ∀ (pins:List (Addr × Obj)) (s:Shared) (σ:St) (H:Hp) (Q:VK),Inv X pins σ H s→t σ H Q →
  wpAny (model X.prog X.w) X.A (eval a X.env) (fun v s₁=>wpAny (model X.prog X.w) X.A (eval b X.env) (fun u s₂=>wpAny (model X.prog X.w) X.A (compareOp op v u) (EP X pins σ Q) X.xe s₂) X.xe s₁) X.xe s
def tB (t:TE):TT:=fun σ H Q=>t σ H fun x H1=>∃ c,x=.bl c∧Q c H1
theorem pt_cmp {op:CmpOp} {t:TE} (h:PC X op a b t) (h1:behindInMarks op b=false:=by first | exact nobehind _ (by decide) (by decide) | rfl):PT X (.Compare a [op] [b] pos) (tB t):=by
 intro pins s σ H Q I hw
 refine wpAny_isTrue_Compare1 (thn (h pins s σ H _ I hw) fun v s1 h1=>thn h1 fun u s2 h2=>thn h2 fun c s3 ⟨x,H1,I1,r1,q1⟩=>?_) h1
 obtain ⟨d,rfl,q⟩:=q1
 cases r1
 exact wpAny_truthy_bool ⟨H1,I1,q⟩
theorem pt_val {e:Expr} {t:TE} (h:PE X e t) (he:∀ whole,isTrue e X.env whole=(do let v ← whole; standAt e.pos; holding [v] (truthy v)):=by intro _; rfl):PT X e (tB t):=by
 intro pins s σ H Q I hw
 refine isTrue_plain (thn (h pins s σ H _ I hw) fun v s1 ⟨x,H1,I1,r1,q1⟩=>?_) (he _)
 obtain ⟨d,rfl,q⟩:=q1
 cases r1
 exact wpAny_truthy_bool ⟨H1,I1,q⟩
variable {tA tB':TT} {rest:List Expr}
def tAnd (t u:TT):TT:=fun σ H Q=>t σ H fun c H1=>if c=true then u σ H1 Q else Q false H1
def tOr (t u:TT):TT:=fun σ H Q=>t σ H fun c H1=>if c=true then Q true H1 else u σ H1 Q
def tNot (t:TT):TT:=fun σ H Q=>t σ H fun c H1=>Q (!c) H1
theorem pw_and1 (ha:PT X a tA):PW X (.BoolOp .And [a] pos) tA:=by
 intro wh pins s σ H Q I h
 refine isTrue_and (thn (ha pins s σ H Q I h) fun c s1 e=>?_)
 cases c with
 | true=>exact isTrue_and_nil e
 | false=>exact e
theorem pw_or1 (ha:PT X a tA):PW X (.BoolOp .Or [a] pos) tA:=by
 intro wh pins s σ H Q I h
 refine isTrue_or (thn (ha pins s σ H Q I h) fun c s1 e=>?_)
 cases c with
 | false=>exact isTrue_or_nil e
 | true=>exact e
theorem pw_and (ha:PT X a tA) (hb:PW X (.BoolOp .And (b :: rest) pos) tB'):PW X (.BoolOp .And (a :: b :: rest) pos) (tAnd tA tB'):=by
 intro wh pins s σ H Q I h
 refine isTrue_and (thn (ha pins s σ H _ I h) fun c s1 ⟨H1,I1,q1⟩=>?_)
 cases c with
 | true=>exact hb wh pins s1 σ H1 Q I1 q1
 | false=>exact ⟨H1,I1,q1⟩
theorem pw_or (ha:PT X a tA) (hb:PW X (.BoolOp .Or (b :: rest) pos) tB'):PW X (.BoolOp .Or (a :: b :: rest) pos) (tOr tA tB'):=by
 intro wh pins s σ H Q I h
 refine isTrue_or (thn (ha pins s σ H _ I h) fun c s1 ⟨H1,I1,q1⟩=>?_)
 cases c with
 | true=>exact ⟨H1,I1,q1⟩
 | false=>exact hb wh pins s1 σ H1 Q I1 q1
theorem pt_not (ha:PT X a tA):PT X (.UnaryOp .Not a pos) (tNot tA):=by
 intro pins s σ H Q I h
 exact isTrue_not (ha pins s σ H (fun c H1=>Q (!c) H1) I h)
def tAndV (ta tb:TE):TE:=fun σ H Q=>ta σ H fun x H1=>∃ c,x=.bl c∧if c=true then tb σ H1 Q else Q (.bl false) H1
def tOrV (ta tb:TE):TE:=fun σ H Q=>ta σ H fun x H1=>∃ c,x=.bl c∧if c=true then Q (.bl true) H1 else tb σ H1 Q
theorem pe_one {op} {t:TE} (h:PE X a t):PE X (.BoolOp op [a] pos) t:=fun pins s σ H Q I hw=>BoolOp_one (h pins s σ H Q I hw)
theorem pe_and (ha:PE X a ta) (hb:PE X (.BoolOp .And (b :: rest) pos) tb):PE X (.BoolOp .And (a :: b :: rest) pos) (tAndV ta tb):=by
 intro pins s σ H Q I h
 refine BoolOp_and (thn (ha pins s σ H _ I h) fun v s1 ⟨x,H1,I1,r1,q1⟩=>?_)
 obtain ⟨c,rfl,q1⟩:=q1
 cases r1
 refine wpAny_truthy_bool ?_
 cases c with
 | true=>exact hb pins s1 σ H1 Q I1 q1
 | false=>exact ⟨.bl false,H1,I1,rfl,q1⟩
theorem pe_or (ha:PE X a ta) (hb:PE X (.BoolOp .Or (b :: rest) pos) tb):PE X (.BoolOp .Or (a :: b :: rest) pos) (tOrV ta tb):=by
 intro pins s σ H Q I h
 refine BoolOp_or (thn (ha pins s σ H _ I h) fun v s1 ⟨x,H1,I1,r1,q1⟩=>?_)
 obtain ⟨c,rfl,q1⟩:=q1
 cases r1
 refine wpAny_truthy_bool ?_
 cases c with
 | false=>exact hb pins s1 σ H1 Q I1 q1
 | true=>exact ⟨.bl true,H1,I1,rfl,q1⟩
def tIf (t:TT) (ta tb:TE):TE:=fun σ H Q=>t σ H fun c H1=>if c=true then ta σ H1 Q else tb σ H1 Q
theorem pe_ifExp {c:Expr} (hc:PT X c tA) (ha:PE X a ta) (hb:PE X b tb):PE X (.IfExp c a b pos) (tIf tA ta tb):=by
 intro pins s σ H Q I h
 refine wpAny_IfExp (thn (hc pins s σ H _ I h) fun d s1 ⟨H1,I1,q1⟩=>?_)
 cases d with
 | true=>exact ha pins s1 σ H1 Q I1 q1
 | false=>exact hb pins s1 σ H1 Q I1 q1
end
end L2
namespace L2
open PySem PySem.Spec PyProof.Rows
def SqL (K:PySem.W.Frag) (H:Hp) (a:Addr) (xs:List V):Prop :=
 Rd H a (.lst xs) ∨
  ∃ (o:Obj) (its:Array Value) (n:Nat),K.lookup a=some o∧o.cls=.type "list"∧o.dict=none∧o.data=.seq its n∧its.size≤sizeLine∧Vals xs its.toList
def SqT (K:PySem.W.Frag) (H:Hp) (a:Addr) (xs:List V):Prop :=
 Rd H a (.tup xs) ∨
  ∃ (o:Obj) (its:Array Value) (n:Nat),K.lookup a=some o∧o.cls=.type "tuple"∧o.data=.seq its n∧its.size≤sizeLine∧Vals xs its.toList
def absV:Value→Option V
 | .none=>some .non
 | .bool b=>some (.bl b)
 | .int i _=>some (.int i)
 | .str x _=>some (.str x)
 | .bytes b _=>some (.byt b)
 | .float b _=>some (.flt b)
 | .ref a=>some (.ref a)
 | .type n=>some (.ty n)
 | _=>none
theorem RelV.abs {x:V} {u:Value} (r:RelV x u):absV u=some x:=by
 cases x with
 | non=>cases r; rfl
 | bl _=>cases r; rfl
 | int _=>obtain ⟨t,rfl⟩:=r; rfl
 | str _=>obtain ⟨t,rfl⟩:=r; rfl
 | byt _=>obtain ⟨t,rfl⟩:=r; rfl
 | flt _=>obtain ⟨t,rfl⟩:=r; rfl
 | ref _=>cases r; rfl
 | ty _=>cases r; rfl
theorem RelV.inj {x y:V} {u:Value} (r:RelV x u) (q:RelV y u):x=y:=Option.some.inj (r.abs.symm.trans q.abs)
theorem Vals.inj:∀ {xs ys:List V} {us:List Value},Vals xs us→Vals ys us→xs=ys
 | _,_,_,.nil,.nil=>rfl
 | _,_,_,.cons r t,.cons r' t'=>by rw [r.inj r',Vals.inj t t']
section
variable {X:Cx} {pins:List (Addr × Obj)} {σ:St} {H:Hp} {s:Shared} {a:Addr} {xs ys:List V}
theorem SqL.of {K:PySem.W.Frag} (h:H a=some (.lst xs)):SqL K H a xs:=.inl (.inl h)
theorem SqT.of {K:PySem.W.Frag} (h:H a=some (.tup xs)):SqT K H a xs:=.inl (.inl h)
theorem Inv.list (I:Inv X pins σ H s) (h:SqL X.K H a xs):∃ its:List Value,Vals xs its∧PlainL s.heap a its.toArray∧xs.length≤sizeLine:=by
 rcases h with h | ⟨o,its,n,hk,hc,hd,hs,hz,r⟩
 ·obtain ⟨z,its,n,r,e⟩:=h.ok I.hok
  exact ⟨its,r,⟨_,n,e,rfl,rfl,rfl⟩,z⟩
 ·refine ⟨its.toList,r,⟨o,n,I.kIn a o hk,hc,hd,by simpa using hs⟩,?_⟩
  have e:=r.length
  simp only [Array.length_toList] at e
  omega
theorem Inv.tuple (I:Inv X pins σ H s) (h:SqT X.K H a xs):∃ its:List Value,Vals xs its∧IsTup s.heap a its.toArray∧xs.length≤sizeLine:=by
 rcases h with h | ⟨o,its,n,hk,hc,hs,hz,r⟩
 ·obtain ⟨z,its,r,p⟩:=h.ok I.hok
  exact ⟨its,r,p,z⟩
 ·refine ⟨its.toList,r,⟨o,I.kIn a o hk,hc,n,by simpa using hs⟩,?_⟩
  have e:=r.length
  simp only [Array.length_toList] at e
  omega
theorem Inv.list_inj (I:Inv X pins σ H s) (h:SqL X.K H a xs) (h':SqL X.K H a ys):xs=ys:=by
 obtain ⟨its,r,⟨o,n,e,_,_,d⟩,_⟩:=I.list h
 obtain ⟨its',r',⟨o',n',e',_,_,d'⟩,_⟩:=I.list h'
 rw [e] at e'; cases e'
 rw [d] at d'
 injection d' with d1 _
 have:its=its':=by simpa using congrArg Array.toList d1
 subst this
 exact r.inj r'
end
abbrev Cx.wish (X:Cx) (E:Value→Shared→Prop):Cx:={ X with xe:=E }
abbrev Cx.nox (X:Cx):Cx:=X.wish fun _ _=>False
theorem Cx.Ok.wish {X:Cx} (ok:X.Ok) (E:Value→Shared→Prop):(X.wish E).Ok :=
 ⟨ok.mod,ok.kind,ok.glob,ok.blt,ok.above,ok.inj,ok.has,ok.cab,ok.hd,ok.frames,ok.stk,ok.exf,ok.bs,ok.bsz,ok.noex,ok.exfs,ok.funs,ok.frf⟩
theorem Cx.Ok.unwish {X:Cx} {E:Value→Shared→Prop} (ok:(X.wish E).Ok):X.Ok :=
 ⟨ok.mod,ok.kind,ok.glob,ok.blt,ok.above,ok.inj,ok.has,ok.cab,ok.hd,ok.frames,ok.stk,ok.exf,ok.bs,ok.bsz,ok.noex,ok.exfs,ok.funs,ok.frf⟩
section
variable {X:Cx} {pins:List (Addr × Obj)} {σ:St} {H:Hp} {s:Shared} {E:Value→Shared→Prop}
theorem Inv.wish (I:Inv X pins σ H s) (E:Value→Shared→Prop):Inv (X.wish E) pins σ H s:=⟨I.ok.wish E,I.os,I.bare,I.base,I.loc,I.cell,I.free,I.freeC,I.pin,I.hok,I.len⟩
theorem Inv.unwish (I:Inv (X.wish E) pins σ H s):Inv X pins σ H s:=⟨I.ok.unwish,I.os,I.bare,I.base,I.loc,I.cell,I.free,I.freeC,I.pin,I.hok,I.len⟩
theorem SP.unwish {D:Ends} {f:Flow} {s':Shared} (h:SP (X.wish E) pins D f s'):SP X pins D f s':=by
 cases f with
 | next=>obtain ⟨σ',H',I,q⟩:=h; exact ⟨σ',H',I.unwish,q⟩
 | brk=>obtain ⟨σ',H',I,q⟩:=h; exact ⟨σ',H',I.unwish,q⟩
 | cont=>obtain ⟨σ',H',I,q⟩:=h; exact ⟨σ',H',I.unwish,q⟩
 | ret u=>obtain ⟨v,σ',H',I,r,q⟩:=h; exact ⟨v,σ',H',I.unwish,r,q⟩
theorem PSs.nox {st:List Stmt} {t:TS} (h:PSs X.nox st t):PSs X st t:=fun pins s σ H D I hw =>
 wpAny_mono (h pins s σ H D (I.wish _) hw) (fun _ _ q=>q.unwish) fun _ _ z=>False.elim z
end
section
variable {X:Cx} {st:Stmt} {rest:List Stmt} {t u:TS} {e:Expr} {te:TE} {pos:Pos}
def tNext:TS:=fun D σ H=>D.nx σ H
def tSeq (t u:TS):TS:=fun D σ H=>t { D with nx:=u D } σ H
theorem pss_nil:PSs X [] tNext:=fun _ _ σ H _ I h=>wpAny_execs_nil ⟨σ,H,I,h⟩
theorem pss_cons (h1:PS X st t) (h2:PSs X rest u):PSs X (st :: rest) (tSeq t u):=by
 intro pins s σ H D I h
 refine wpAny_execs_cons (thn (h1 pins s σ H { D with nx:=u D } I h) fun f s1 q=>?_)
 cases f with
 | next =>
  obtain ⟨σ',H',I',q⟩:=q
  exact h2 pins s1 σ' H' D I' q
 | ret v=>exact q
 | brk=>exact q
 | cont=>exact q
theorem pss_one (h1:PS X st t):PSs X [st] t:=by
 intro pins s σ H D I h
 refine wpAny_execs_cons (thn (h1 pins s σ H D I h) fun f s1 q=>?_)
 cases f with
 | next=>exact wpAny_execs_nil q
 | ret v=>exact q
 | brk=>exact q
 | cont=>exact q
theorem Inv.quiet {pins:List (Addr × Obj)} {σ:St} {H:Hp} {s:Shared} (I:Inv X pins σ H s):interactive X.env=false:=by simp [interactive,I.ok.kind]
def tDrop (te:TE):TS:=fun D σ H=>te σ H fun _ H1=>D.nx σ H1
theorem ps_expr (he:PE X e te) (hs:swapsWith e none pos.line X.env=pure false:=by rfl):PS X (.Expr e pos) (tDrop te):=by
 intro pins s σ H D I h
 exact wpAny_Expr_any (thn (he pins s σ H _ I h) fun v s1 ⟨x,H1,I1,r1,q1⟩=>⟨σ,H1,I1,q1⟩) I.quiet hs
def tRet (te:TE):TS:=fun D σ H=>te σ H D.rt
theorem ps_ret (he:PE X e te):PS X (.Return (some e) pos) (tRet te):=by
 intro pins s σ H D I h
 exact wpAny_Return_some (thn (he pins s σ H _ I h) fun v s1 ⟨x,H1,I1,r1,q1⟩=>⟨x,σ,H1,I1,r1,q1⟩)
def tIfS (c:TT) (t u:TS):TS:=fun D σ H=>c σ H fun b H1=>if b=true then t D σ H1 else u D σ H1
theorem ps_if {c:Expr} {a b:List Stmt} {tc:TT} (hc:PT X c tc) (ha:PSs X a t) (hb:PSs X b u):PS X (.If c a b pos) (tIfS tc t u):=by
 intro pins s σ H D I h
 refine wpAny_If (thn (hc pins s σ H _ I h) fun d s1 ⟨H1,I1,q1⟩=>?_)
 cases d with
 | true=>exact ha pins s1 σ H1 D I1 q1
 | false=>exact hb pins s1 σ H1 D I1 q1
end
abbrev TG:=V→St→Hp→(St→Hp→Prop)→Prop
abbrev TGs:=List V→St→Hp→(St→Hp→Prop)→Prop
def PG (X:Cx) (target:Expr) (t:TG):Prop :=
 ∀ (pins:List (Addr × Obj)) (s:Shared) (σ:St) (H:Hp) (v:V) (u:Value) (Q:St→Hp→Prop),Inv X pins σ H s→RelV v u→t v σ H Q →
  wpAny (model X.prog X.w) X.A (assign target X.env u) (fun _ s'=>∃ σ' H',Inv X pins σ' H' s'∧Q σ' H') X.xe s
def PGs (X:Cx) (ts:List Expr) (t:TGs):Prop :=
 ∀ (pins:List (Addr × Obj)) (s:Shared) (σ:St) (H:Hp) (vs:List V) (us:List Value) (Q:St→Hp→Prop),Inv X pins σ H s→Vals vs us→t vs σ H Q →
  wpAny (model X.prog X.w) X.A (assignInOrder ((assignEach ts X.env).map (·.2)) us) (fun _ s'=>∃ σ' H',Inv X pins σ' H' s'∧Q σ' H') X.xe s
abbrev TSet:=V→V→V→Hp→(Hp→Prop)→Prop
def PSet (X:Cx) (t:TSet):Prop :=
 ∀ (pins:List (Addr × Obj)) (s:Shared) (σ:St) (H:Hp) (o i v:V) (ov iv u:Value) (Q:Hp→Prop),Inv X pins σ H s→RelV o ov→RelV i iv→RelV v u→t o i v H Q →
  wpAny (model X.prog X.w) X.A (setItem ov iv u) (fun _ s'=>∃ H',Inv X pins σ H' s'∧Q H') X.xe s
abbrev TIp:=V→V→Hp→VK→Prop
def PIp (X:Cx) (op:Operator) (t:TIp):Prop :=
 ∀ (pins:List (Addr × Obj)) (s:Shared) (σ:St) (H:Hp) (x y:V) (v u:Value) (Q:VK),Inv X pins σ H s→RelV x v→RelV y u→t x y H Q →
  wpAny (model X.prog X.w) X.A (inplaceOp op v u) (EP X pins σ Q) X.xe s
section
variable {X:Cx} {pos:Pos}
def gName (i:Nat):TG:=fun v σ H Q=>Q (σ.set i (some v)) H
theorem pg_name {i:Nat} {x:Str} (hN:X.N.Nodup) (hi:X.N[i]? = some x) (hx:Loc X.env.scope x) (hf:X.fn x=true ∨ X.env.scope.names.lookup x=some .local:=by first | exact .inl rfl | exact .inr rfl | assumption):PG X (.Name x pos) (gName i):=by
 intro pins s σ H v u Q I r h
 exact wpAny_assign_Name (store_ok I hN hi hx r (fun s' I'=>⟨_,H,I',h⟩) hf)
def gNil:TGs:=fun vs σ H Q=>vs=[]∧Q σ H
def gCons (t:TG) (u:TGs):TGs:=fun vs σ H Q=>∃ v r,vs=v :: r∧t v σ H fun σ' H'=>u r σ' H' Q
theorem pgs_nil:PGs X [] gNil:=by
 intro pins s σ H vs us Q I r h
 obtain ⟨e,h⟩:=h
 subst e
 cases r
 exact assignInOrder_nil ⟨σ,H,I,h⟩
theorem pgs_cons {e:Expr} {es:List Expr} {t:TG} {u:TGs} (h1:PG X e t) (h2:PGs X es u)
  (hs:(assignEach (e :: es) X.env).map (·.2)=assign e X.env :: (assignEach es X.env).map (·.2):=by rfl):PGs X (e :: es) (gCons t u):=by
 intro pins s σ H vs us Q I r h
 obtain ⟨v,vr,e1,h⟩:=h
 subst e1
 cases r with
 | cons r rr =>
  rw [hs]
  refine assignInOrder_cons (thn (h1 pins s σ H _ _ _ I r h) fun _ s1 ⟨σ1,H1,I1,q1⟩=>?_)
  exact h2 pins s1 σ1 H1 _ _ Q I1 rr q1
def gTup (K:PySem.W.Frag) (n:Nat) (t:TGs):TG:=fun v σ H Q=>∃ a xs,v=.ref a∧SqT K H a xs∧xs.length=n∧t xs σ H Q
theorem pg_tup {es:List Expr} {k:Nat} {t:TGs} {n:Nat} (hc:X.calm=true) (h:PGs X es t)
  (hn:(assignEach es X.env).length=n:=by rfl) (hst:(assignEach es X.env).findIdx? (·.1)=none:=by rfl):PG X (.Tuple es k pos) (gTup X.K n t):=by
 intro pins s σ H v u Q I r hw
 obtain ⟨a,xs,e1,hq,hl,hw⟩:=hw
 subst e1
 cases r
 obtain ⟨its,rv,ht,hz⟩:=I.tuple hq
 refine assign_Tuple_tuple (I.ok.hd hc) ht (by simp [hn,←hl,rv.length]) hst fun h' hx=>?_
 have I1:Inv X pins σ H { s with heap:=h' }:=I.kept (t':=s.toks) fun b o e=>hx b o (Nat.ne_of_lt (Heap.lt_size e)) e
 exact h pins _ σ H xs _ Q I1 (by simpa using rv) hw
def gSub (to ti:TE) (t:TSet):TG:=fun v σ H Q=>to σ H fun o H1=>ti σ H1 fun i H2=>t o i v H2 fun H3=>Q σ H3
theorem pg_sub {o i:Expr} {to ti:TE} {t:TSet} (ho:PE X o to) (hi:PE X i ti) (hs:PSet X t)
  (ha:∀ v,assign (.Subscript o i pos) X.env v=(do
   let ov ← holding [v] (eval o X.env)
   let iv ← holding [v,ov] (eval i X.env)
   standAt pos
   holding [v,ov,iv] (setItem ov iv v)
   release [v,ov,iv] []):=by intro _; rfl):PG X (.Subscript o i pos) (gSub to ti t):=by
 intro pins s σ H v u Q I r h
 rw [ha]
 refine wpAny_bind (wpAny_holding (thn (ho pins s σ H _ I h) fun ov s1 ⟨x,H1,I1,r1,q1⟩=>?_))
 refine wpAny_bind (wpAny_holding (thn (hi pins s1 σ H1 _ I1 q1) fun iv s2 ⟨y,H2,I2,r2,q2⟩=>?_))
 refine wpAny_bind (wpAny_standAt (wpAny_bind (wpAny_holding (thn (hs pins s2 σ H2 x y v ov iv u _ I2 r1 r2 r q2) fun _ s3 ⟨H3,I3,q3⟩=>?_))))
 exact wpAny_release ⟨σ,H3,I3,q3⟩
def tAsg (te:TE) (g:TG):TS:=fun D σ H=>te σ H fun x H1=>g x σ H1 D.nx
theorem ps_asg {tg e:Expr} {te:TE} {g:TG} (he:PE X e te) (hg:PG X tg g) (hs:swapsWithSole [tg] e pos.line X.env=pure false:=by rfl) (hw:swappedStores [tg] e X.env=pure none:=by rfl)
  (h1:(assignEach [tg] X.env).map (·.2)=[assign tg X.env]:=by rfl):PS X (.Assign [tg] e pos) (tAsg te g):=by
 intro pins s σ H D I h
 refine wpAny_Assign_stores (thn (he pins s σ H _ I h) fun v s1 ⟨x,H1,I1,r1,q1⟩=>?_) hs hw
 rw [h1]
 exact thn (hg pins s1 σ H1 x v _ I1 r1 q1) fun _ s2 q=>q
theorem ps_set {i:Nat} {x:Str} {e:Expr} {te:TE} {pos':Pos} (hN:X.N.Nodup) (hi:X.N[i]? = some x) (hx:Loc X.env.scope x) (he:PE X e te) (hs:swapsWith e (some (.Name x pos')) pos.line X.env=pure false:=by rfl) (hf:X.fn x=true ∨ X.env.scope.names.lookup x=some .local:=by first | exact .inl rfl | exact .inr rfl | assumption) :
  PS X (.Assign [.Name x pos'] e pos) (tAsg te (gName i)):=by
 intro pins s σ H D I h
 refine wpAny_Assign_Name (thn (he pins s σ H _ I h) fun v s1 ⟨y,H1,I1,r1,q1⟩=>?_) hs
 exact store_ok I1 hN hi hx r1 (fun s2 I2=>⟨_,H1,I2,q1⟩) hf
def tAug (i:Nat) (te:TE) (ti:TIp):TS:=fun D σ H=>∃ x,σ[i]? = some (some x)∧te σ H fun y H1=>ti x y H1 fun z H2=>D.nx (σ.set i (some z)) H2
theorem ps_aug {i:Nat} {x:Str} {e:Expr} {te:TE} {op:Operator} {ti:TIp} {pos':Pos} (hN:X.N.Nodup) (hi:X.N[i]? = some x) (hx:Loc X.env.scope x) (he:PE X e te) (ho:PIp X op ti) (hf:X.fn x=true ∨ X.env.scope.names.lookup x=some .local:=by first | exact .inl rfl | exact .inr rfl | assumption) :
  PS X (.AugAssign (.Name x pos') op e pos) (tAug i te ti):=by
 intro pins s σ H D I h
 obtain ⟨v,e1,h⟩:=h
 obtain ⟨m,hn,hl⟩:=I.loc
 have vis:Vis X.env.scope x:=by rcases hx with k | k; exact .inl k; exact .inr (.inl k)
 obtain ⟨u,r,l⟩:=hl i x v hi e1 vis
 refine wpAny_AugAssign_Name ?_
 have go:wpAny (model X.prog X.w) X.A (eval e X.env) (fun w s₂=>wpAny (model X.prog X.w) X.A (inplaceOp op u w) (fun r s₃=>wpAny (model X.prog X.w) X.A (storeName X.env x r) (fun _=>SP X pins D .next) X.xe s₃) X.xe s₂) X.xe s:=by
  refine thn (he pins s σ H _ I h) fun w s1 ⟨y,H1,I1,r1,q1⟩=>?_
  refine thn (ho pins s1 σ H1 v y u w _ I1 r r1 q1) fun z s2 ⟨zv,H2,I2,r2,q2⟩=>?_
  exact store_ok I2 hN hi hx r2 (fun s3 I3=>⟨_,H2,I3,q2⟩) hf
 rcases l with ⟨hk,hm⟩ | ⟨hk,c,hc,hcell⟩
 ·exact wpAny_loadName_local I.ok.kind hk hn hm go
 ·rcases hk with hk | hk
  ·exact wpAny_loadName_cell I.ok.kind hk hc hcell go
  ·rcases hx with k | k
   ·have:X.env.scope.names.lookup x=some .free:=hk
    rw [k] at this; cases this
   ·have:X.env.scope.names.lookup x=some .free:=hk
    rw [k] at this; cases this
def ipI (f:Int→Int→Int):TIp:=fun x y H Q=>∃ i j,x=.int i∧y=.int j∧Q (.int (f i j)) H
theorem ip_add:PIp X .Add (ipI fun i j=>i+j):=by
 intro pins s σ H x y v u Q I r1 r2 h
 obtain ⟨i,j,e1,e2,q⟩:=h
 subst e1; subst e2
 obtain ⟨t,rfl⟩:=r1
 obtain ⟨t',rfl⟩:=r2
 exact iadd_int ⟨.int _,H,I.tok _,⟨_,rfl⟩,q⟩
end
section
variable {X:Cx} {pos:Pos}
def tWhile (c:TT) (tb:TS):TS:=fun D σ H=>∃ W:Nat→St→Hp→Prop,(∃ m,W m σ H)∧∀ m σ H,W m σ H →
 c σ H fun b H1=>if b=true then ∃ N:St→Hp→Prop,(∀ σ' H',N σ' H'→∃ m',m' < m∧W m' σ' H')∧tb { D with nx:=N,ct:=N,bk:=D.nx } σ H1 else D.nx σ H1
theorem ps_while {c:Expr} {body:List Stmt} {tc:TT} {tb:TS} (hp:PassesOwn (model X.prog X.w) X.A X.env X.xe) (hc:PT X c tc) (hb:PSs X body tb):PS X (.While c body [] pos) (tWhile tc tb):=by
 intro pins s σ H D I h
 obtain ⟨W,⟨m0,w0⟩,turn⟩:=h
 refine wpAny_While (codeAny_whileLoop (fun n s'=>∃ σ' H',Inv X pins σ' H' s'∧W n σ' H') ?_ m0 ⟨σ,H,I,w0⟩)
 rintro n s1 ⟨σ1,H1,I1,w1⟩
 refine wpAny_passesOwn hp (thn (hc pins s1 σ1 H1 _ I1 (turn n σ1 H1 w1)) fun b s2 ⟨H2,I2,q2⟩=>?_)
 cases b with
 | true =>
  obtain ⟨N,hN,q2⟩:=q2
  rw [if_pos rfl]
  refine wpAny_passesOwn hp (thn (hb pins s2 σ1 H2 _ I2 q2) fun f s3 q3=>?_)
  cases f with
  | next =>
   obtain ⟨σ3,H3,I3,n3⟩:=q3
   obtain ⟨m',hm,w3⟩:=hN σ3 H3 n3
   exact ⟨m',hm,σ3,H3,I3,w3⟩
  | cont =>
   obtain ⟨σ3,H3,I3,n3⟩:=q3
   obtain ⟨m',hm,w3⟩:=hN σ3 H3 n3
   exact ⟨m',hm,σ3,H3,I3,w3⟩
  | brk=>exact q3
  | ret v=>exact q3
 | false =>
  rw [if_neg Bool.false_ne_true]
  exact wpAny_execs_nil ⟨σ1,H2,I2,q2⟩
end
structure It where
 go:Nat→Hp→Prop
 yld:Nat→Hp→V→Hp→Prop
 stop:Nat→Hp→Prop
def FpOk (X:Cx) (pins:List (Addr × Obj)) (H:Hp) (b:Addr):Prop :=
 H b=none∧b≠X.env.locals∧b ∉ X.fs∧(b ∈ X.ex ∨ X.s₀.heap.objs.size≤b)∧(∀ x c,X.env.cells.lookup x=some c→c≠b)∧∀ p ∈ X.pn++pins,p.1≠b
theorem Inv.fpOk {X:Cx} {pins:List (Addr × Obj)} {σ:St} {H H':Hp} {s:Shared} {b:Addr} (I:Inv X pins σ H s) (hb:s.heap.objs.size≤b) (hn:H' b=none):FpOk X pins H' b:=by
 refine ⟨hn,Nat.ne_of_gt (Nat.lt_of_lt_of_le I.lt hb),I.nofs hb,.inr (Nat.le_trans I.sz hb),fun x c e z=>?_,fun p hp z=>?_⟩
 ·obtain ⟨v,q⟩:=I.cell x c e
  exact absurd (Nat.lt_of_lt_of_le q.lt (by rw [z]; exact hb)) (Nat.lt_irrefl _)
 ·exact absurd (Nat.lt_of_lt_of_le (Heap.lt_size (I.pin p hp).1) (by rw [z]; exact hb)) (Nat.lt_irrefl _)
structure Turn (P:Program) (w:World) (K:PySem.W.Frag) (tg:Expr) (J:It) (fp:List Addr) (it:Addr) (tn:Nat→Heap→Prop):Prop where
 mem:it ∈ fp
 obj:∀ i h,tn i h→∀ b ∈ fp,∃ o,h.get? b=some o∧∀ v,o.data≠.cell v
 keep:∀ i h h',tn i h→(∀ b ∈ fp,∀ o,h.get? b=some o→h'.get? b=some o)→tn i h'
 item:∀ (X:Cx),X.prog=P→X.w=w→X.K=K→X.calm=true→∀ (i:Nat) (pins:List (Addr × Obj)) (s:Shared) (σ:St) (H:Hp) (E:Value→Shared→Prop),Inv X pins σ H s→(∀ b ∈ fp,FpOk X pins H b)→tn i s.heap→J.go i H →
  wpAny (model P w) X.A (pyNext (.ref it)) (fun r s1=>∃ u,r=some u ∧
   wpAny (model P w) X.A (letOwnedTupleGo tg (.ref it) u) (fun _ s2=>∃ x H',Inv X pins σ H' s2∧RelV x u∧J.yld i H x H'∧tn (i+1) s2.heap∧∀ b ∈ fp,H' b=none) E s1) E s
 done:∀ (X:Cx),X.prog=P→X.w=w→X.K=K→X.calm=true→∀ (i:Nat) (pins:List (Addr × Obj)) (s:Shared) (σ:St) (H:Hp) (E:Value→Shared→Prop),Inv X pins σ H s→(∀ b ∈ fp,FpOk X pins H b)→tn i s.heap→J.stop i H →
  wpAny (model P w) X.A (pyNext (.ref it)) (fun r s1=>r=none∧Inv X pins σ H s1) E s
 self:∀ (A:Around) (i:Nat) (s:Shared) (Q:Value→Shared→Prop) (E:Value→Shared→Prop),tn i s.heap→Q (.ref it) s→wpAny (model P w) A (pyIter (.ref it)) Q E s
abbrev TI:=St→Hp→(It→Hp→Prop)→Prop
def PIE (X:Cx) (pins:List (Addr × Obj)) (σ:St) (tg:Expr) (R:It→Hp→Prop) (itv:Value) (s2:Shared):Prop :=
 ∃ (it:Addr) (fp:List Addr) (tn:Nat→Heap→Prop) (J:It) (H':Hp),itv=.ref it∧Inv X pins σ H' s2∧Turn X.prog X.w X.K tg J fp it tn∧tn 0 s2.heap∧(∀ b ∈ fp,FpOk X pins H' b)∧R J H'
def PI (X:Cx) (tg iter:Expr) (wi:TI):Prop :=
 ∀ (pins:List (Addr × Obj)) (s:Shared) (σ:St) (H:Hp) (R:It→Hp→Prop),Inv X pins σ H s→wi σ H R →
  wpAny (model X.prog X.w) X.A (eval iter X.env) (fun v s1=>wpAny (model X.prog X.w) X.A (pyIter v) (PIE X pins σ tg R) X.xe s1) X.xe s
theorem go_of {M:Model} {A:Around} {E:Value→Shared→Prop} {s:Shared} {tg:Expr} {it:Addr} {u:Value} {o:Obj} {n:String} {vs:Array Value} {Q:Unit→Shared→Prop} (ho:s.heap.get? it=some o) (hc:o.cls=.type n) (hd:o.data=.fields vs)
  (hn:["enumerate","zip","dict_itemiterator","dict_reverseitemiterator","odict_iterator","itertools.zip_longest","itertools.pairwise"].contains n=false) (hQ:Q () s):wpAny M A (letOwnedTupleGo tg (.ref it) u) Q E s:=by
 unfold letOwnedTupleGo
 cases tg <;> first
  | exact wpAny_pure hQ
  | (cases u <;> first
      | exact wpAny_pure hQ
      | (refine wpAny_bind (wpAny_load ho ?_)
         rw [hc,hd]
         show wpAny M A (if (["enumerate","zip","dict_itemiterator","dict_reverseitemiterator","odict_iterator","itertools.zip_longest","itertools.pairwise"].contains n && vs[0]? == some (rawInt _))=true then _ else _) Q E s
         rw [if_neg (by intro h; rw [hn,Bool.false_and] at h; cases h)]
         exact wpAny_pure hQ))
def Itl (K:PySem.W.Frag) (a:Addr):It :=
 ⟨fun i H=>∃ xs x,SqL K H a xs∧xs[i]? = some x,fun i H x H'=>H'=H∧∀ xs,SqL K H a xs→xs[i]? = some x,fun i H=>∃ xs,SqL K H a xs∧xs.length≤i⟩
def Itr (lo:Int) (n:Nat):It:=⟨fun i _=>i < n,fun i H x H'=>H'=H∧x=.int (lo+i),fun i _=>n≤i⟩
theorem turn_list {P:Program} {w:World} {K:PySem.W.Frag} {tg:Expr} (a it:Addr):Turn P w K tg (Itl K a) [it] it (fun i h=>h.IsListIter it a i) where
 mem:=by simp
 obj:=fun i h st b hb=>by
  have e:b=it:=by simpa using hb
  subst e
  obtain ⟨o,e,c,d⟩:=st
  exact ⟨o,e,fun v z=>by rw [d] at z; cases z⟩
 keep:=fun i h h' st k=>st.at fun o e=>k it (by simp) o e
 item:=by
  intro X hP hw hK hc i pins s σ H E I hf st hg
  subst hP hw hK
  obtain ⟨xs,x,hq,hx⟩:=hg
  obtain ⟨its,rv,p,hz⟩:=I.list hq
  obtain ⟨u,hu,ru⟩:=rv.get hx
  obtain ⟨f0,f1,f2,f3,f4,f5⟩:=hf it (by simp)
  refine wpAny_pyNext_list_item st p.isList (x:=u) (by simpa using hu) fun h' st' sb=>?_
  have I1:Inv X pins σ H { s with heap:=h' }:=I.turned (t':=s.toks) (fun b o hb e=>(sb.2 b hb).trans e) f0 f1 f3 f4 f5
  obtain ⟨o,e,c,d⟩:=id st'
  exact ⟨u,rfl,go_of (s:={ s with heap:=h' }) e c d (by decide) ⟨x,H,I1,ru,⟨rfl,fun ys hy=>by rw [I.list_inj hy hq]; exact hx⟩,st',fun b hb=>(hf b hb).1⟩⟩
 done:=by
  intro X hP hw hK hc i pins s σ H E I hf st hg
  subst hP hw hK
  obtain ⟨xs,hq,hx⟩:=hg
  obtain ⟨its,rv,p,hz⟩:=I.list hq
  obtain ⟨f0,f1,f2,f3,f4,f5⟩:=hf it (by simp)
  have hl:=rv.length
  exact wpAny_pyNext_list_end (I.ok.hd hc) st p.isList (by simp; omega) fun h' eb=>⟨rfl,I.turned (t':=s.toks) (fun b o hb e=>eb b o hb e) f0 f1 f3 f4 f5⟩
 self:=fun _ _ _ _ _ st h=>wpAny_pyIter_listiter st h
theorem turn_range {P:Program} {w:World} {K:PySem.W.Frag} {tg:Expr} (it:Addr) (lo:Int) (n:Nat):Turn P w K tg (Itr lo n) [it] it (fun i h=>IsRangeIter h it (lo+(i:Nat) * 1) ((n:Int) - (i:Nat)) 1) where
 mem:=by simp
 obj:=fun i h st b hb=>by
  have e:b=it:=by simpa using hb
  subst e
  exact ⟨_,st,fun v z=>by
   have z':Data.fields _=Data.cell v:=z
   cases z'⟩
 keep:=fun i h h' st k=>k it (by simp) _ st
 item:=by
  intro X hP hw hK hc i pins s σ H E I hf st hg
  subst hP hw hK
  obtain ⟨f0,f1,f2,f3,f4,f5⟩:=hf it (by simp)
  have W:=Walks.range (prog:=X.prog) (w:=X.w) (I.ok.hd hc) it lo 1 n
  refine W.item i s _ _ hg st fun v h' tk hv st' kk=>?_
  obtain ⟨t,rfl⟩:=hv
  have I1:Inv X pins σ H { s with heap:=h',toks:=tk }:=I.turned (fun b o hb e=>kk b o (by simpa using hb) e) f0 f1 f3 f4 f5
  refine ⟨_,rfl,go_of (s:={ s with heap:=h',toks:=tk }) (n:="range_iterator") st' rfl rfl (by decide) ⟨.int (lo+i),H,I1,⟨t,?_⟩,⟨rfl,rfl⟩,st',fun b hb=>(hf b hb).1⟩⟩
  rw [Int.mul_one]
 done:=by
  intro X hP hw hK hc i pins s σ H E I hf st hg
  subst hP hw hK
  obtain ⟨f0,f1,f2,f3,f4,f5⟩:=hf it (by simp)
  exact wpAny_pyNext_range_end (I.ok.hd hc) st (by have:n≤i:=hg; omega) fun h' eb=>⟨rfl,I.turned (t':=s.toks) (fun b o hb e=>eb b o hb e) f0 f1 f3 f4 f5⟩
 self:=fun _ _ _ _ _ st h=>wpAny_pyIter_rangeiter st h
end L2
namespace L2
open PySem PySem.Spec PyProof.Rows
section
variable {X:Cx} {tg:Expr}
def iList (K:PySem.W.Frag) (tl:TE):TI:=fun σ H R=>tl σ H fun x H1=>∃ a,x=.ref a∧(∃ xs,SqL K H1 a xs)∧R (Itl K a) H1
theorem pi_list {l:Expr} {tl:TE} (hl:PE X l tl):PI X tg l (iList X.K tl):=by
 intro pins s σ H R I h
 refine thn (hl pins s σ H _ I h) fun v s1 ⟨x,H1,I1,r1,q1⟩=>?_
 obtain ⟨a,e,⟨xs,hq⟩,q⟩:=q1
 subst e
 cases r1
 obtain ⟨its,rv,p,hz⟩:=I1.list hq
 refine wpAny_pyIter_list p.isList ?_
 refine ⟨s1.heap.objs.size,[s1.heap.objs.size],_,_,H1,rfl,I1.kept (t':=s1.toks) fun b o e=>Heap.get?_push_of_some _ e,turn_list a _,⟨_,Heap.get?_push_size _ rfl,rfl,rfl⟩,fun b hb=>?_,q⟩
 have e:b=s1.heap.objs.size:=by simpa using hb
 subst e
 exact I1.fpOk (Nat.le_refl _) (I1.hok.fresh (Nat.le_refl _))
theorem range_it {pins:List (Addr × Obj)} {σ:St} {H:Hp} {s:Shared} {R:It→Hp→Prop} {E:Value→Shared→Prop} {lo hi:Int} {t u v:Tok} {tk:Nat} (I:Inv X pins σ H s) (h1:-(2 ^ 62)≤lo) (h2:lo < 2 ^ 62) (h3:-(2 ^ 62)≤hi) (h4:hi < 2 ^ 62)
  (q:R (Itr lo (hi - lo).toNat) H):wpAny (model X.prog X.w) X.A (pyIter (.ref s.heap.objs.size)) (PIE X pins σ tg R) E { s with heap:=s.heap.push { cls:=.type "range",data:=.fields #[.int lo t,.int hi u,.int 1 v] },toks:=tk }:=by
 refine wpAny_pyIter_range (IsRange.new ..) (small_one h1 h2 h3 h4) ?_
 have I1:Inv X pins σ H { s with heap:=s.heap.push { cls:=.type "range",data:=.fields #[.int lo t,.int hi u,.int 1 v] },toks:=tk }:=I.kept fun b o e=>Heap.get?_push_of_some _ e
 refine ⟨(s.heap.push { cls:=.type "range",data:=.fields #[.int lo t,.int hi u,.int 1 v] }).objs.size,[(s.heap.push { cls:=.type "range",data:=.fields #[.int lo t,.int hi u,.int 1 v] }).objs.size],_,_,H,rfl,
  I1.kept (t':=tk) fun b o e=>Heap.get?_push_of_some _ e,turn_range _ lo (hi - lo).toNat,?_,fun b hb=>?_,q⟩
 ·have e1:lo+((0:Nat):Int) * 1=lo:=by simp
  have e2:(((hi - lo).toNat:Nat):Int) - ((0:Nat):Int)=Builtin.Range.rangeSize lo hi 1:=by rw [rangeSize_one]; split <;> omega
  show IsRangeIter _ _ (lo+((0:Nat):Int) * 1) ((((hi - lo).toNat:Nat):Int) - ((0:Nat):Int)) 1
  rw [e1,e2]
  exact Heap.get?_push_size _ rfl
 ·have e:b=(s.heap.push { cls:=.type "range",data:=.fields #[.int lo t,.int hi u,.int 1 v] }).objs.size:=by simpa using hb
  subst e
  exact I1.fpOk (Nat.le_refl _) (I1.hok.fresh (Nat.le_refl _))
def iRng1 (ta:TA):TI:=fun σ H R=>ta σ H fun vs H1=>∃ j:Int,vs=[.int j]∧-(2 ^ 62)≤j∧j < 2 ^ 62∧R (Itr 0 j.toNat) H1
def iRng2 (ta:TA):TI:=fun σ H R=>ta σ H fun vs H1=>∃ i j:Int,vs=[.int i,.int j]∧(-(2 ^ 62)≤i∧i < 2 ^ 62∧-(2 ^ 62)≤j∧j < 2 ^ 62)∧R (Itr i (j - i).toNat) H1
theorem pi_range1 {a:Expr} {ta:TA} {p pos:Pos} (hg:Gl X "range") (hm:X.mg "range" = none) (ha:PA X [a] ta) (hs:starEach [a] X.env=[(false,eval a X.env)]:=by rfl):PI X tg (.Call (.Name "range" p) [a] [] pos) (iRng1 ta):=by
 intro pins s σ H R I h
 refine Call_ (ld_blt I hg hm boot_range (PyProof.Rows.callWith_type1 (thn (ha pos pins s σ H _ I h) fun us s1 ⟨vs,H1,I1,r1,q1⟩=>?_) hs rfl))
 obtain ⟨j,e,q1,q2,q⟩:=q1
 subst e
 cases r1 with
 | cons r rr =>
  cases rr
  obtain ⟨t,rfl⟩:=r
  exact call_range_1 (range_it I1 (by omega) (by omega) q1 q2 (by simpa using q))
theorem pi_range2 {a b:Expr} {ta:TA} {p pos:Pos} (hg:Gl X "range") (hm:X.mg "range" = none) (ha:PA X [a,b] ta) (hs:starEach [a,b] X.env=[(false,eval a X.env),(false,eval b X.env)]:=by rfl) (hs2:starEach [b] X.env=[(false,eval b X.env)]:=by rfl) :
  PI X tg (.Call (.Name "range" p) [a,b] [] pos) (iRng2 ta):=by
 intro pins s σ H R I h
 refine Call_ (ld_blt I hg hm boot_range (PyProof.Rows.callWith_type1 (thn (ha pos pins s σ H _ I h) fun us s1 ⟨vs,H1,I1,r1,q1⟩=>?_) (by rw [hs,hs2]) (by rw [hs2]; rfl)))
 obtain ⟨i,j,e,⟨q1,q2,q3,q4⟩,q⟩:=q1
 subst e
 cases r1 with
 | cons r rr =>
  cases rr with
  | cons r' rr =>
   cases rr
   obtain ⟨t,rfl⟩:=r
   obtain ⟨t',rfl⟩:=r'
   exact call_range_2 (range_it I1 q1 q2 q3 q4 q)
def tFor (wi:TI) (g:TG) (tb:TS):TS:=fun D σ H=>wi σ H fun J H1=>∃ W:Nat→Nat→St→Hp→Prop,(∃ m,W 0 m σ H1)∧∀ i m σ H,W i m σ H →
 (J.stop i H∧D.nx σ H) ∨ (J.go i H∧∃ N:St→Hp→Prop,(∀ σ' H',N σ' H'→∃ m',m' < m∧W (i+1) m' σ' H')∧∀ x H',J.yld i H x H'→g x σ H' fun σ2 H2=>tb { D with nx:=N,ct:=N,bk:=D.nx } σ2 H2)
def pinsAt (fp:List Addr) (h:Heap):List (Addr × Obj):=fp.filterMap fun b=>(h.get? b).map fun o=>(b,o)
theorem mem_pinsAt {fp:List Addr} {h:Heap} {b:Addr} {o:Obj} (hb:b ∈ fp) (e:h.get? b=some o):(b,o) ∈ pinsAt fp h:=List.mem_filterMap.mpr ⟨b,hb,by rw [e]; rfl⟩
theorem of_pinsAt {fp:List Addr} {h:Heap} {p:Addr × Obj} (hp:p ∈ pinsAt fp h):p.1 ∈ fp∧h.get? p.1=some p.2:=by
 obtain ⟨b,hb,e⟩:=List.mem_filterMap.mp hp
 cases q:h.get? b with
 | none=>rw [q] at e; cases e
 | some o =>
  rw [q] at e
  have e':(b,o)=p:=Option.some.inj e
  subst e'
  exact ⟨hb,q⟩
theorem Inv.pinned {pins:List (Addr × Obj)} {σ:St} {H:Hp} {s:Shared} {fp:List Addr} (I:Inv X pins σ H s) (hf:∀ b ∈ fp,FpOk X pins H b) (ho:∀ b ∈ fp,∃ o,s.heap.get? b=some o∧∀ v,o.data≠.cell v):Inv X (pins++pinsAt fp s.heap) σ H s :=
 I.pins_of fun p hp=>(List.mem_append.mp hp).elim (fun z=>I.pin p (List.mem_append_right _ z)) fun z=>by
  obtain ⟨hb,e⟩:=of_pinsAt z
  obtain ⟨f0,f1,f2,_⟩:=hf p.1 hb
  obtain ⟨o,e',d⟩:=ho p.1 hb
  rw [e] at e'; cases e'
  exact ⟨e,f0,f1,f2,d⟩
theorem Inv.unpinned {pins pl:List (Addr × Obj)} {σ:St} {H:Hp} {s:Shared} (I:Inv X (pins++pl) σ H s):Inv X pins σ H s:=I.pins_of fun p hp=>I.pin p (List.mem_append_right _ (List.mem_append_left _ hp))
theorem ps_for {iter:Expr} {body:List Stmt} {wi:TI} {g:TG} {tb:TS} {pos:Pos} (hp:PassesOwn (model X.prog X.w) X.A X.env X.xe) (hc:X.calm=true) (hi:PI X tg iter wi) (hg:PG X tg g) (hb:PSs X body tb)
  (hs:∀ x,foldedSetIterable iter X.env x=pure x:=by intro _; rfl):PS X (.For tg iter body [] pos) (tFor wi g tb):=by
 intro pins s σ H D I h
 refine wpAny_For (thn (hi pins s σ H _ I h) fun v s1 h1=>thn h1 fun itv s2 h2=>?_) hs
 obtain ⟨it,fp,tn,J,H2,e,I2,T,st2,f2,W,⟨m0,w0⟩,turn⟩:=h2
 subst e
 have stat:∀ {H':Hp},(∀ b ∈ fp,H' b=none)→∀ b ∈ fp,FpOk X pins H' b:=fun hn b hb=>⟨hn b hb,(f2 b hb).2⟩
 refine codeAny_forLoop_any (fun n s'=>∃ i σ' H',Inv X pins σ' H' s'∧tn i s'.heap∧(∀ b ∈ fp,H' b=none)∧W i n σ' H') ?_ m0 ⟨0,σ,H2,I2,st2,fun b hb=>(f2 b hb).1,w0⟩
 rintro n s3 ⟨i,σ3,H3,I3,st3,fr3,w3⟩
 rcases turn i n σ3 H3 w3 with ⟨stop,qn⟩ | ⟨go,N,hN,step⟩
 ·refine wpAny_passesOwn hp (thn (T.done X rfl rfl rfl hc i pins s3 σ3 H3 X.xe I3 (stat fr3) st3 stop) fun r s4 ⟨hr,I4⟩=>?_)
  subst hr
  exact wpAny_execs_nil ⟨σ3,H3,I4,qn⟩
 ·refine wpAny_passesOwn hp (thn (T.item X rfl rfl rfl hc i pins s3 σ3 H3 X.xe I3 (stat fr3) st3 go) fun r s4 ⟨u,hr,h4⟩=>?_)
  subst hr
  refine wpAny_passesOwn hp (thn h4 fun _ s5 ⟨x,H5,I5,r5,y5,st5,fr5⟩=>?_)
  have I5':=I5.pinned (stat fr5) (T.obj _ _ st5)
  refine wpAny_passesOwn hp (thn (hg _ s5 σ3 H5 x u _ I5' r5 (step x H5 y5)) fun _ s6 ⟨σ6,H6,I6,q6⟩=>?_)
  refine wpAny_passesOwn hp (thn (hb _ s6 σ6 H6 _ I6 q6) fun f s7 q7=>?_)
  have again:∀ {σ7:St} {H7:Hp},Inv X (pins++pinsAt fp s5.heap) σ7 H7 s7→N σ7 H7→∃ m,m < n∧∃ i σ' H',Inv X pins σ' H' s7∧tn i s7.heap∧(∀ b ∈ fp,H' b=none)∧W i m σ' H':=fun {σ7 H7} I7 n7=>by
   obtain ⟨m',hm,w7⟩:=hN σ7 H7 n7
   refine ⟨m',hm,i+1,σ7,H7,I7.unpinned,T.keep _ _ _ st5 fun b hb o e=>(I7.pin (b,o) (List.mem_append_right _ (List.mem_append_right _ (mem_pinsAt hb e)))).1,fun b hb=>?_,w7⟩
   obtain ⟨o,e,d⟩:=T.obj _ _ st5 b hb
   exact (I7.pin (b,o) (List.mem_append_right _ (List.mem_append_right _ (mem_pinsAt hb e)))).2.1
  cases f with
  | next=>obtain ⟨σ7,H7,I7,n7⟩:=q7; exact again I7 n7
  | cont=>obtain ⟨σ7,H7,I7,n7⟩:=q7; exact again I7 n7
  | brk=>obtain ⟨σ7,H7,I7,q7⟩:=q7; exact ⟨σ7,H7,I7.unpinned,q7⟩
  | ret v=>obtain ⟨x7,σ7,H7,I7,r7,q7⟩:=q7; exact ⟨x7,σ7,H7,I7.unpinned,r7,q7⟩
end
theorem for_list {K:PySem.W.Frag} {a:Addr} {xs:List V} {g:TG} {tb:TS} {D:Ends} {σ:St} {H:Hp} (Pv:Nat→St→Hp→Prop) (h0:Pv 0 σ H) (hl:∀ i σ H,i≤xs.length→Pv i σ H→SqL K H a xs)
  (hs:∀ i x σ H,xs[i]? = some x→Pv i σ H→g x σ H fun σ2 H2=>tb { D with nx:=Pv (i+1),ct:=Pv (i+1),bk:=D.nx } σ2 H2) (hd:∀ σ H,Pv xs.length σ H→D.nx σ H) :
  ∃ W:Nat→Nat→St→Hp→Prop,(∃ m,W 0 m σ H)∧∀ i m σ H,W i m σ H →
   ((Itl K a).stop i H∧D.nx σ H) ∨ ((Itl K a).go i H∧∃ N:St→Hp→Prop,(∀ σ' H',N σ' H'→∃ m',m' < m∧W (i+1) m' σ' H')∧∀ x H',(Itl K a).yld i H x H'→g x σ H' fun σ2 H2=>tb { D with nx:=N,ct:=N,bk:=D.nx } σ2 H2):=by
 refine ⟨fun i m σ H=>m=xs.length - i∧i≤xs.length∧Pv i σ H,⟨xs.length,by simp,Nat.zero_le _,h0⟩,?_⟩
 rintro i m σ H ⟨rfl,hi,p⟩
 have q:=hl i σ H hi p
 by_cases hlt:i < xs.length
 ·refine .inr ⟨⟨xs,xs[i],q,by simp [hlt]⟩,Pv (i+1),fun σ' H' p'=>⟨xs.length - (i+1),by omega,rfl,hlt,p'⟩,fun x H' y=>?_⟩
  obtain ⟨e,y⟩:=y
  subst e
  exact hs i x σ _ (y xs q) p
 ·have e:i=xs.length:=by omega
  subst e
  exact .inl ⟨⟨xs,q,Nat.le_refl _⟩,hd σ H p⟩
theorem for_range {lo:Int} {n:Nat} {g:TG} {tb:TS} {D:Ends} {σ:St} {H:Hp} (Pv:Nat→St→Hp→Prop) (h0:Pv 0 σ H)
  (hs:∀ i σ H,i < n→Pv i σ H→g (.int (lo+i)) σ H fun σ2 H2=>tb { D with nx:=Pv (i+1),ct:=Pv (i+1),bk:=D.nx } σ2 H2) (hd:∀ σ H,Pv n σ H→D.nx σ H) :
  ∃ W:Nat→Nat→St→Hp→Prop,(∃ m,W 0 m σ H)∧∀ i m σ H,W i m σ H →
   ((Itr lo n).stop i H∧D.nx σ H) ∨ ((Itr lo n).go i H∧∃ N:St→Hp→Prop,(∀ σ' H',N σ' H'→∃ m',m' < m∧W (i+1) m' σ' H')∧∀ x H',(Itr lo n).yld i H x H'→g x σ H' fun σ2 H2=>tb { D with nx:=N,ct:=N,bk:=D.nx } σ2 H2):=by
 refine ⟨fun i m σ H=>m=n - i∧i≤n∧Pv i σ H,⟨n,by simp,Nat.zero_le _,h0⟩,?_⟩
 rintro i m σ H ⟨rfl,hi,p⟩
 by_cases hlt:i < n
 ·refine .inr ⟨hlt,Pv (i+1),fun σ' H' p'=>⟨n - (i+1),by omega,rfl,hlt,p'⟩,fun x H' y=>?_⟩
  obtain ⟨e,y⟩:=y
  subst e y
  exact hs i σ _ hlt p
 ·have e:i=n:=by omega
  subst e
  exact .inl ⟨Nat.le_refl _,hd σ H p⟩
end L2
namespace L2
open PySem PySem.Spec PyProof.Rows
abbrev R2:=V→V→Hp→VK→Prop
def OpR (X:Cx) (f:Value→Value→Sem Value) (r:R2):Prop :=
 ∀ (pins:List (Addr × Obj)) (s:Shared) (σ:St) (H:Hp) (x y:V) (v u:Value) (Q:VK),Inv X pins σ H s→RelV x v→RelV y u→r x y H Q →
  wpAny (model X.prog X.w) X.A (f v u) (EP X pins σ Q) X.xe s
def UnR (X:Cx) (f:Value→Sem Value) (r:V→Hp→VK→Prop):Prop :=
 ∀ (pins:List (Addr × Obj)) (s:Shared) (σ:St) (H:Hp) (x:V) (v:Value) (Q:VK),Inv X pins σ H s→RelV x v→r x H Q →
  wpAny (model X.prog X.w) X.A (f v) (EP X pins σ Q) X.xe s
def CallR (X:Cx) (f:Value) (r:List V→Hp→VK→Prop):Prop :=
 ∀ (pins:List (Addr × Obj)) (s:Shared) (σ:St) (H:Hp) (xs:List V) (us:List Value) (Q:VK),Inv X pins σ H s→Vals xs us→r xs H Q →
  wpAny (model X.prog X.w) X.A (call f us) (EP X pins σ Q) X.xe s
def TruR (X:Cx) (r:V→Hp→(Bool→Hp→Prop)→Prop):Prop :=
 ∀ (pins:List (Addr × Obj)) (s:Shared) (σ:St) (H:Hp) (x:V) (v:Value) (Q:Bool→Hp→Prop),Inv X pins σ H s→RelV x v→r x H Q →
  wpAny (model X.prog X.w) X.A (truthy v) (TP X pins σ Q) X.xe s
def tOp (r:R2) (ta tb:TE):TE:=fun σ H Q=>ta σ H fun x H1=>tb σ H1 fun y H2=>r x y H2 Q
def tUn (r:V→Hp→VK→Prop) (ta:TE):TE:=fun σ H Q=>ta σ H fun x H1=>r x H1 Q
def rI (C:Int→Int→Prop) (g:Int→Int→V):R2:=fun x y H Q=>∃ i j,x=.int i∧y=.int j∧C i j∧Q (g i j) H
def rI0 (g:Int→Int→V):R2:=fun x y H Q=>∃ i j,x=.int i∧y=.int j∧Q (g i j) H
def rU (g:Int→V):V→Hp→VK→Prop:=fun x H Q=>∃ i,x=.int i∧Q (g i) H
section
variable {X:Cx} {a b c:Expr} {ta tb tc:TE} {pos:Pos}
theorem binT (ha:PE X a ta) (hb:PE X b tb) {pins:List (Addr × Obj)} {s:Shared} {σ:St} {H:Hp} {R:V→V→Hp→Prop} (I:Inv X pins σ H s)
  (h:ta σ H fun x H1=>tb σ H1 fun y H2=>R x y H2) {Q:Value→Shared→Prop} {f:Value→Value→Sem Value}
  (hf:∀ v u s2 x y H2,Inv X pins σ H2 s2→RelV x v→RelV y u→R x y H2→wpAny (model X.prog X.w) X.A (f v u) Q X.xe s2) :
  wpAny (model X.prog X.w) X.A (eval a X.env) (fun v s₁=>wpAny (model X.prog X.w) X.A (eval b X.env) (fun u s₂=>wpAny (model X.prog X.w) X.A (f v u) Q X.xe s₂) X.xe s₁) X.xe s:=by
 refine thn (ha pins s σ H _ I h) fun v s1 ⟨x,H1,I1,r1,q1⟩=>?_
 refine thn (hb pins s1 σ H1 _ I1 q1) fun u s2 ⟨y,H2,I2,r2,q2⟩=>?_
 exact hf v u s2 x y H2 I2 r1 r2 q2
theorem pe_op {op:Operator} {r:R2} (ho:OpR X (binaryOp op) r) (ha:PE X a ta) (hb:PE X b tb):PE X (.BinOp a op b pos) (tOp r ta tb):=by
 intro pins s σ H Q I h
 exact wpAny_BinOp (binT ha hb I h fun v u s2 x y H2 I2 rx ry q=>ho pins s2 σ H2 x y v u Q I2 rx ry q)
theorem pe_un {op:UnaryOp} {r:V→Hp→VK→Prop} (ho:UnR X (unaryOp op) r) (ha:PE X a ta):PE X (.UnaryOp op a pos) (tUn r ta):=by
 intro pins s σ H Q I h
 exact UnaryOp_ (thn (ha pins s σ H _ I h) fun v s1 ⟨x,H1,I1,r1,q1⟩=>ho pins s1 σ H1 x v Q I1 r1 q1)
theorem opI {f:Value→Value→Sem Value} {C:Int→Int→Prop} {g:Int→Int→Int}
  (rule:∀ (i j:Int) (t u:Tok) (s:Shared) (Q:Value→Shared→Prop) (E:Value→Shared→Prop),C i j→Q (.int (g i j) s.toks) { s with toks:=s.toks+1 }→wpAny (model X.prog X.w) X.A (f (.int i t) (.int j u)) Q E s) :
  OpR X f (rI C fun i j=>.int (g i j)):=by
 intro pins s σ H x y v u Q I rx ry h
 obtain ⟨i,j,rfl,rfl,hc,q⟩:=h
 obtain ⟨t,rfl⟩:=rx
 obtain ⟨t',rfl⟩:=ry
 exact rule i j t t' s _ _ hc ⟨.int (g i j),H,I.tok _,⟨_,rfl⟩,q⟩
theorem opI0 {f:Value→Value→Sem Value} {g:Int→Int→Int}
  (rule:∀ (i j:Int) (t u:Tok) (s:Shared) (Q:Value→Shared→Prop) (E:Value→Shared→Prop),Q (.int (g i j) s.toks) { s with toks:=s.toks+1 }→wpAny (model X.prog X.w) X.A (f (.int i t) (.int j u)) Q E s) :
  OpR X f (rI0 fun i j=>.int (g i j)):=by
 intro pins s σ H x y v u Q I rx ry h
 obtain ⟨i,j,rfl,rfl,q⟩:=h
 obtain ⟨t,rfl⟩:=rx
 obtain ⟨t',rfl⟩:=ry
 exact rule i j t t' s _ _ ⟨.int (g i j),H,I.tok _,⟨_,rfl⟩,q⟩
theorem opB0 {f:Value→Value→Sem Value} {g:Int→Int→Bool}
  (rule:∀ (i j:Int) (t u:Tok) (s:Shared) (Q:Value→Shared→Prop) (E:Value→Shared→Prop),Q (.bool (g i j)) s→wpAny (model X.prog X.w) X.A (f (.int i t) (.int j u)) Q E s) :
  OpR X f (rI0 fun i j=>.bl (g i j)):=by
 intro pins s σ H x y v u Q I rx ry h
 obtain ⟨i,j,rfl,rfl,q⟩:=h
 obtain ⟨t,rfl⟩:=rx
 obtain ⟨t',rfl⟩:=ry
 exact rule i j t t' s _ _ ⟨.bl (g i j),H,I,rfl,q⟩
def CDiv (i j:Int):Prop:=0 < j∧j < 1073741824
def CPow (i j:Int):Prop:=0≤j∧j≤1000000∧i.natAbs < 2 ^ 64
def CMul (i j:Int):Prop:=(-(2 ^ 64) < i∧i < 2 ^ 64) ∨ (-(2 ^ 64) < j∧j < 2 ^ 64)
theorem CMul.ok {i j:Int} (h:CMul i j):IntMulOk i j:=by
 rcases h with ⟨h1,h2⟩ | ⟨h1,h2⟩
 ·exact .of_left (intBits_le_64 h1 h2)
 ·exact .of_right (intBits_le_64 h1 h2)
theorem op_add:OpR X (binaryOp .Add) (rI0 fun i j=>.int (i+j)):=opI0 fun _ _ _ _ _ _ _ q=>add_int q
theorem op_sub:OpR X (binaryOp .Sub) (rI0 fun i j=>.int (i - j)):=opI0 fun _ _ _ _ _ _ _ q=>sub_int q
theorem op_mul:OpR X (binaryOp .Mult) (rI CMul fun i j=>.int (i * j)):=opI fun _ _ _ _ _ _ _ hc q=>mul_int q hc.ok
theorem op_fdiv:OpR X (binaryOp .FloorDiv) (rI CDiv fun i j=>.int (i / j)):=opI fun i j _ _ _ _ _ hc q=>by
 have h1:(0:Int) < j:=hc.1
 have h2:j < 1073741824:=hc.2
 exact floordiv_int (by omega) (by rw [Int.fdiv_eq_ediv_of_nonneg i (by omega)]; exact q) (.inl (PyProof.noPylong_small (by omega)))
theorem op_mod:OpR X (binaryOp .Mod) (rI (fun _ j=>0 < j) fun i j=>.int (i % j)):=opI fun i j _ _ _ _ _ hc q=>by
 have h1:(0:Int) < j:=hc
 exact mod_int' (by omega) (by rw [Int.fmod_eq_emod_of_nonneg i (by omega)]; exact q)
theorem op_pow:OpR X (binaryOp .Pow) (rI CPow fun i j=>.int (i ^ j.toNat)):=opI fun _ _ _ _ _ _ _ hc q=>pow_int_small hc.1 hc.2.1 hc.2.2 q
theorem unI {f:Value→Sem Value} {g:Int→Int}
  (rule:∀ (i:Int) (t:Tok) (s:Shared) (Q:Value→Shared→Prop) (E:Value→Shared→Prop),Q (.int (g i) s.toks) { s with toks:=s.toks+1 }→wpAny (model X.prog X.w) X.A (f (.int i t)) Q E s) :
  UnR X f (rU fun i=>.int (g i)):=by
 intro pins s σ H x v Q I rx h
 obtain ⟨i,rfl,q⟩:=h
 obtain ⟨t,rfl⟩:=rx
 exact rule i t s _ _ ⟨.int (g i),H,I.tok _,⟨_,rfl⟩,q⟩
theorem un_neg:UnR X (unaryOp .USub) (rU fun i=>.int (-i)):=unI fun _ _ _ _ _ q=>neg_int q
end
def scal:V→V→Bool
 | .non,.non=>true | .non,.int _=>true | .int _,.non=>true | .non,.bl _=>true | .bl _,.non=>true | .non,.str _=>true | .str _,.non=>true
 | .int _,.int _=>true | .bl _,.bl _=>true | .str _,.str _=>true | .byt _,.byt _=>true
 | .int _,.str _=>true | .str _,.int _=>true | .bl _,.str _=>true | .str _,.bl _=>true
 | _,_=>false
def rEq:R2:=fun x y H Q=>scal x y=true∧Q (.bl (decide (x=y))) H
def rNe:R2:=fun x y H Q=>scal x y=true∧Q (.bl (!decide (x=y))) H
theorem dec_int {i j:Int}:decide (V.int i=V.int j)=(i == j):=by
 rw [Bool.eq_iff_iff]
 simp
theorem dec_bl {i j:Bool}:decide (V.bl i=V.bl j)=(i == j):=by
 rw [Bool.eq_iff_iff]
 simp
theorem dec_str {i j:Str}:decide (V.str i=V.str j)=(i == j):=by
 rw [Bool.eq_iff_iff]
 simp
theorem dec_byt {i j:Array UInt8}:decide (V.byt i=V.byt j)=(i.toList == j.toList):=by
 rw [Bool.eq_iff_iff]
 cases i
 cases j
 simp
section
variable {X:Cx} {a b c:Expr} {ta tb tc:TE} {pos:Pos}
theorem fin_bl {pins:List (Addr × Obj)} {σ:St} {H:Hp} {s:Shared} {Q:VK} {k k':Bool} (I:Inv X pins σ H s) (q:Q (.bl k) H) (e:k=k'):EP X pins σ Q (.bool k') s:=by
 subst e
 exact ⟨.bl k,H,I,rfl,q⟩
theorem op_eq:OpR X (compareOp .Eq) rEq:=by
 intro pins s σ H x y v u Q I rx ry h
 obtain ⟨hs,q⟩:=h
 cases x with
 | non =>
  cases rx
  cases y with
  | non=>cases ry; exact PySem.EqNone.eq_none_none (fin_bl I q (by simp))
  | bl j=>cases ry; exact PySem.EqNone.eq_none_bool (fin_bl I q (by simp))
  | int j=>obtain ⟨t',rfl⟩:=ry; exact PySem.EqNone.eq_none_int (fin_bl I q (by simp))
  | str j=>obtain ⟨t',rfl⟩:=ry; exact PySem.EqNone.eq_none_str (fin_bl I q (by simp))
  | _=>exact absurd (show false=true from hs) Bool.false_ne_true
 | bl i =>
  cases rx
  cases y with
  | non=>cases ry; exact PySem.EqNone.eq_bool_none (fin_bl I q (by simp))
  | bl j=>cases ry; exact eq_bool (fin_bl I q dec_bl)
  | str j=>obtain ⟨t',rfl⟩:=ry; exact PySem.EqMixed.eq_bool_str (fin_bl I q (by simp))
  | _=>exact absurd (show false=true from hs) Bool.false_ne_true
 | int i =>
  obtain ⟨t,rfl⟩:=rx
  cases y with
  | non=>cases ry; exact PySem.EqNone.eq_int_none (fin_bl I q (by simp))
  | int j=>obtain ⟨t',rfl⟩:=ry; exact eq_int (fin_bl I q dec_int)
  | str j=>obtain ⟨t',rfl⟩:=ry; exact PySem.EqMixed.eq_int_str (fin_bl I q (by simp))
  | _=>exact absurd (show false=true from hs) Bool.false_ne_true
 | str i =>
  obtain ⟨t,rfl⟩:=rx
  cases y with
  | non=>cases ry; exact PySem.EqNone.eq_str_none (fin_bl I q (by simp))
  | bl j=>cases ry; exact PySem.EqMixed.eq_str_bool (fin_bl I q (by simp))
  | int j=>obtain ⟨t',rfl⟩:=ry; exact PySem.EqMixed.eq_str_int (fin_bl I q (by simp))
  | str j=>obtain ⟨t',rfl⟩:=ry; exact eq_str (fin_bl I q dec_str)
  | _=>exact absurd (show false=true from hs) Bool.false_ne_true
 | byt i =>
  obtain ⟨t,rfl⟩:=rx
  cases y with
  | byt j=>obtain ⟨t',rfl⟩:=ry; exact PySem.W.eq_bytes (fin_bl I q dec_byt)
  | _=>exact absurd (show false=true from hs) Bool.false_ne_true
 | _=>cases y <;> exact absurd (show false=true from hs) Bool.false_ne_true
theorem op_ne:OpR X (compareOp .NotEq) rNe:=by
 intro pins s σ H x y v u Q I rx ry h
 obtain ⟨hs,q⟩:=h
 cases x with
 | non =>
  cases rx
  cases y with
  | non=>cases ry; exact PySem.EqNone.ne_none_none (fin_bl I q (by simp))
  | bl j=>cases ry; exact PySem.EqNone.ne_none_bool (fin_bl I q (by simp))
  | int j=>obtain ⟨t',rfl⟩:=ry; exact PySem.EqNone.ne_none_int (fin_bl I q (by simp))
  | str j=>obtain ⟨t',rfl⟩:=ry; exact PySem.EqNone.ne_none_str (fin_bl I q (by simp))
  | _=>exact absurd (show false=true from hs) Bool.false_ne_true
 | bl i =>
  cases rx
  cases y with
  | non=>cases ry; exact PySem.EqNone.ne_bool_none (fin_bl I q (by simp))
  | bl j=>cases ry; exact ne_bool (fin_bl I q (congrArg not dec_bl))
  | str j=>obtain ⟨t',rfl⟩:=ry; exact PySem.EqMixed.ne_bool_str (fin_bl I q (by simp))
  | _=>exact absurd (show false=true from hs) Bool.false_ne_true
 | int i =>
  obtain ⟨t,rfl⟩:=rx
  cases y with
  | non=>cases ry; exact PySem.EqNone.ne_int_none (fin_bl I q (by simp))
  | int j=>obtain ⟨t',rfl⟩:=ry; exact ne_int (fin_bl I q (congrArg not dec_int))
  | str j=>obtain ⟨t',rfl⟩:=ry; exact PySem.EqMixed.ne_int_str (fin_bl I q (by simp))
  | _=>exact absurd (show false=true from hs) Bool.false_ne_true
 | str i =>
  obtain ⟨t,rfl⟩:=rx
  cases y with
  | non=>cases ry; exact PySem.EqNone.ne_str_none (fin_bl I q (by simp))
  | bl j=>cases ry; exact PySem.EqMixed.ne_str_bool (fin_bl I q (by simp))
  | int j=>obtain ⟨t',rfl⟩:=ry; exact PySem.EqMixed.ne_str_int (fin_bl I q (by simp))
  | str j=>obtain ⟨t',rfl⟩:=ry; exact ne_str (fin_bl I q (congrArg not dec_str))
  | _=>exact absurd (show false=true from hs) Bool.false_ne_true
 | byt i =>
  obtain ⟨t,rfl⟩:=rx
  cases y with
  | byt j=>obtain ⟨t',rfl⟩:=ry; exact PySem.W.ne_bytes (fin_bl I q (congrArg not dec_byt))
  | _=>exact absurd (show false=true from hs) Bool.false_ne_true
 | _=>cases y <;> exact absurd (show false=true from hs) Bool.false_ne_true
theorem op_lt:OpR X (compareOp .Lt) (rI0 fun i j=>.bl (decide (i < j))):=opB0 fun _ _ _ _ _ _ _ q=>lt_int q
theorem op_le:OpR X (compareOp .LtE) (rI0 fun i j=>.bl (decide (i≤j))):=opB0 fun _ _ _ _ _ _ _ q=>le_int q
theorem op_gt:OpR X (compareOp .Gt) (rI0 fun i j=>.bl (decide (j < i))):=opB0 fun _ _ _ _ _ _ _ q=>gt_int q
theorem op_isN:OpR X (compareOp .Is) (fun x y H Q=>y=.non∧Q (.bl (decide (x=.non))) H):=by
 intro pins s σ H x y v u Q I rx ry h
 obtain ⟨rfl,q⟩:=h
 cases ry
 refine is_none_gen (fin_bl I q ?_)
 cases x <;> first
  | (cases rx; rfl)
  | (obtain ⟨t,rfl⟩:=rx; rfl)
theorem op_notN:OpR X (compareOp .IsNot) (fun x y H Q=>y=.non∧Q (.bl (!decide (x=.non))) H):=by
 intro pins s σ H x y v u Q I rx ry h
 obtain ⟨rfl,q⟩:=h
 cases ry
 refine isnot_none_gen (fin_bl I q ?_)
 cases x <;> first
  | (cases rx; rfl)
  | (obtain ⟨t,rfl⟩:=rx; rfl)
theorem nomark (b:Expr) {op:CmpOp} (h:op≠.In:=by decide) (h2:op≠.NotIn:=by decide):behindInMarks op b=false:=by
 have e1:(op == CmpOp.In)=false:=by cases op <;> first | rfl | exact absurd rfl h
 have e2:(op == CmpOp.NotIn)=false:=by cases op <;> first | rfl | exact absurd rfl h2
 cases b <;> simp [behindInMarks,e1,e2]
theorem pe_cmpR {op:CmpOp} {r:R2} (ho:OpR X (compareOp op) r) (ha:PE X a ta) (hb:PE X b tb) (hm:behindInMarks op b=false):PE X (.Compare a [op] [b] pos) (tOp r ta tb):=by
 intro pins s σ H Q I h
 exact wpAny_Compare1 (binT ha hb I h fun v u s2 x y H2 I2 rx ry q=>ho pins s2 σ H2 x y v u Q I2 rx ry q) hm
def tTest (t:TE):TT:=fun σ H Q=>t σ H fun x H'=>∃ k,x=.bl k∧Q k H'
theorem pt_cmpR {op:CmpOp} {r:R2} (ho:OpR X (compareOp op) r) (ha:PE X a ta) (hb:PE X b tb) (hm:behindInMarks op b=false):PT X (.Compare a [op] [b] pos) (tTest (tOp r ta tb)):=by
 intro pins s σ H Q I h
 refine wpAny_isTrue_Compare1 (thn (ha pins s σ H _ I h) fun v s1 ⟨x,H1,I1,r1,q1⟩=>thn (hb pins s1 σ H1 _ I1 q1) fun u s2 ⟨y,H2,I2,r2,q2⟩ =>
  thn (ho pins s2 σ H2 x y v u _ I2 r1 r2 q2) fun c s3 ⟨z,H3,I3,r3,k,e,q3⟩=>?_) hm
 subst e
 cases r3
 exact wpAny_truthy_bool ⟨H3,I3,q3⟩
def TruV (K:PySem.W.Frag) (x:V) (H:Hp) (k:Bool):Prop :=
 match x with
 | .non=>k=false
 | .bl b=>k=b
 | .int i=>k=(i != 0)
 | .str y=>y.length≤sizeLine∧k=((y.length:Int) != 0)
 | .byt y=>y.size≤sizeLine∧k=((y.size:Int) != 0)
 | .ref p=>(∃ xs,SqL K H p xs∧k=!xs.isEmpty) ∨ (∃ xs,SqT K H p xs∧k=!xs.isEmpty) ∨ ∃ kvs,H p=some (.dK kvs)∧k=!kvs.isEmpty
 | _=>False
theorem isEmpty_kv {κ:Type} {kvs:List (κ × V)} {vs:List (κ × Value)} (r:KV kvs vs):(!vs.isEmpty)=!kvs.isEmpty:=by
 cases r <;> rfl
theorem isEmpty_of {xs:List V} {its:List Value} (r:Vals xs its):(!its.toArray.isEmpty)=!xs.isEmpty:=by
 cases r <;> simp
theorem line63:(sizeLine:Nat) < 2 ^ 63:=by rw [sizeLine_eq]; decide
theorem tru_ok:TruR X (fun x H Q=>∃ k,TruV X.K x H k∧Q k H):=by
 intro pins s σ H x v Q I rx h
 obtain ⟨k,e,q⟩:=h
 have hl:=line63
 have hs:sizeLine=16777216:=sizeLine_eq
 cases x with
 | non =>
  cases rx
  have e':k=false:=e
  subst e'
  exact truthy_none ⟨H,I,q⟩
 | bl b =>
  cases rx
  have e':k=b:=e
  subst e'
  exact wpAny_truthy_bool ⟨H,I,q⟩
 | int i =>
  obtain ⟨t,rfl⟩:=rx
  have e':k=(i != 0):=e
  subst e'
  exact PySem.P.truthy_int ⟨H,I,q⟩
 | str y =>
  obtain ⟨t,rfl⟩:=rx
  obtain ⟨hy,e'⟩:y.length≤sizeLine∧k=((y.length:Int) != 0):=e
  subst e'
  exact PySem.P.truthy_str (by omega) ⟨H,I.tok _,q⟩
 | byt y =>
  obtain ⟨t,rfl⟩:=rx
  obtain ⟨hy,e'⟩:y.size≤sizeLine∧k=((y.size:Int) != 0):=e
  subst e'
  exact PySem.W.truthy_bytes (by omega) ⟨H,I.tok _,q⟩
 | ref p =>
  cases rx
  have e':(∃ xs,SqL X.K H p xs∧k=!xs.isEmpty) ∨ (∃ xs,SqT X.K H p xs∧k=!xs.isEmpty) ∨ ∃ kvs,H p=some (.dK kvs)∧k=!kvs.isEmpty:=e
  rcases e' with ⟨xs,hx,e'⟩ | ⟨xs,hx,e'⟩ | ⟨kvs,hx,e'⟩
  ·subst e'
   obtain ⟨its,r,pl,hz⟩:=I.list hx
   have hlen:=r.length
   exact wpAny_truthy_list pl.isList (by simp only [List.size_toArray]; omega) ⟨H,I.tok _,by rw [isEmpty_of r]; exact q⟩
  ·subst e'
   obtain ⟨its,r,pl,hz⟩:=I.tuple hx
   have hlen:=r.length
   exact truthy_tuple pl (by simp only [List.size_toArray]; omega) ⟨H,I.tok _,by rw [isEmpty_of r]; exact q⟩
  ·subst e'
   obtain ⟨hz,hS,vs,r,m⟩:kvs.length≤sizeLine∧(p == sysModules)=false∧∃ vs,KV kvs vs∧s.heap.DictOf (mixKind X.prog X.w) p vs:=I.hok p _ hx
   have hlen:kvs.length=vs.length:=Paired.length r
   exact wpAny_truthy_dict hS m (by omega) ⟨H,I.tok _,by rw [isEmpty_kv r]; exact q⟩
 | _=>exact (show False from e).elim
theorem pt_truth (ha:PE X a ta) (he:∀ whole,isTrue a X.env whole=(do let v ← whole; standAt a.pos; holding [v] (truthy v))) :
  PT X a (fun σ H Q=>ta σ H fun x H'=>∃ k,TruV X.K x H' k∧Q k H'):=by
 intro pins s σ H Q I h
 exact isTrue_plain (thn (ha pins s σ H _ I h) fun v s1 ⟨x,H1,I1,r1,q1⟩=>tru_ok pins s1 σ H1 x v Q I1 r1 q1) (he _)
theorem vals1 {x:V} {us:List Value} (r:Vals [x] us):∃ u,us=[u]∧RelV x u:=by
 cases r with
 | cons r1 r2=>cases r2; exact ⟨_,rfl,r1⟩
theorem vals2 {x y:V} {us:List Value} (r:Vals [x,y] us):∃ u w',us=[u,w']∧RelV x u∧RelV y w':=by
 cases r with
 | cons r1 r2 =>
  cases r2 with
  | cons r3 r4=>cases r4; exact ⟨_,_,rfl,r1,r3⟩
theorem call_max2 (hc:X.calm=true):CallR X (.builtin "max") (fun xs H Q=>∃ i j,xs=[.int i,.int j]∧Q (.int (if j > i then j else i)) H):=by
 intro pins s σ H xs us Q I r h
 obtain ⟨i,j,rfl,q⟩:=h
 obtain ⟨u,w',rfl,⟨t,rfl⟩,⟨t',rfl⟩⟩:=vals2 r
 refine max_two_ints (I.ok.hd hc) fun h' tk k=>⟨_,H,I.kept k,?_,q⟩
 by_cases hj:j > i
 ·rw [if_pos hj,if_pos hj]; exact ⟨_,rfl⟩
 ·rw [if_neg hj,if_neg hj]; exact ⟨_,rfl⟩
theorem call_int1:CallR X (.type "int") (fun xs H Q=>(∃ i,xs=[.int i]∧Q (.int i) H) ∨ ∃ k,xs=[.bl k]∧Q (.int (if k then 1 else 0)) H):=by
 intro pins s σ H xs us Q I r h
 rcases h with ⟨i,rfl,q⟩ | ⟨k,rfl,q⟩
 ·obtain ⟨u,rfl,t,rfl⟩:=vals1 r
  exact call_int_int ⟨.int i,H,I,⟨_,rfl⟩,q⟩
 ·obtain ⟨u,rfl,r1⟩:=vals1 r
  cases r1
  exact call_int_bool ⟨.int (if k then 1 else 0),H,I.tok _,⟨_,rfl⟩,q⟩
end
end L2
namespace L2
open PySem PySem.Spec PyProof.Rows
structure ObjM (h:Heap) (x dx C:Addr) (mA:Str→Option Value):Prop where
 obj:h.get? x=some (PySem.W.instObj C dx)
 ns:h.Ns1 dx mA
 ne:dx≠x
theorem lookIn_ns {h:Heap} {dx:Addr} {mA:Str→Option Value} (n:h.Ns1 dx mA):∃ od,h.get? dx=some od∧∀ name,PySem.W.lookIn name od=some (mA name):=by
 obtain ⟨o,es,ep,ho,hd,hk,_,hm⟩:=n
 refine ⟨o,ho,fun name=>?_⟩
 have e:=hm name
 unfold nsFind findBy at e
 rw [←Array.find?_toList] at e
 unfold PySem.W.lookIn
 rw [hd]
 dsimp only
 split
 ·rename_i y q
  rw [q] at e
  exact congrArg some e
 ·rename_i q
  rw [q] at e
  have a:es.toList.any (·.refKey)=false:=by
   rw [List.any_eq_false]
   intro y hy
   obtain ⟨z,t,hkey⟩:=hk y (Array.mem_toList_iff.mp hy)
   simp [DictEntry.refKey,hkey]
  have a':¬ es.toList.any (·.refKey)=true:=by rw [a]; exact Bool.false_ne_true
  rw [if_neg a']
  exact congrArg some e
theorem ObjM.look {h:Heap} {x dx C:Addr} {mA:Str→Option Value} (I:ObjM h x dx C mA):∃ od,PySem.W.InstAt h x (PySem.W.instObj C dx) C (some od)∧∀ name,PySem.W.lookIn name od=some (mA name) :=
 let ⟨od,ho,hl⟩:=lookIn_ns I.ns
 ⟨od,⟨I.obj,rfl,rfl,ho⟩,hl⟩
section
variable {prog:Program} {w:World} {A:Around} {E:Value→Shared→Prop} {s:Shared} {K:PySem.W.Frag} {x dx C f:Addr} {mA:Str→Option Value} {name:Str} {v:Value}
theorem get_map {expr:Bool} {Q:Value→Shared→Prop} (X:K.In s.heap) (I:ObjM s.heap x dx C mA) (hg:PySem.W.plainGet K C name=true) (hh:PySem.W.hasDictIn K C=true)
  (ha:PySem.W.findIn K (.ref C) name=some none) (hv:mA name=some v) (hv':PySem.W.handedIn v=true) (h:Q v { s with toks:=s.toks+1 }) :
  wpAny (model prog w) A (getAttr (.ref x) name expr) Q E s:=by
 obtain ⟨od,J,hl⟩:=I.look
 exact PySem.W.get_value X J (PySem.W.plainGet_of hg).1 (PySem.W.findObj_own hh ha rfl (by rw [hl,hv])) hv' h
theorem set_map {ns:List Str} {Q:Unit→Shared→Prop} (X:K.In s.heap) (I:ObjM s.heap x dx C mA)
  (hs:PySem.W.findIn K (.ref C) "__setattr__" = some (some (.builtin "object.__setattr__"))) (hp:PySem.W.plainOver K C=true) (ht:PySem.W.takerIn K C name=some none) (hh:PySem.W.hasDictIn K C=true)
  (hw:PySem.Within mA ns) (hsz:ns.length≤sizeLine)
  (h:∀ h',ObjM h' x dx C (fun y=>if y=name then some v else mA y)→Heap.SameBut dx s.heap h'→Q () { s with heap:=h',toks:=s.toks+2 }) :
  wpAny (model prog w) A (setAttr (.ref x) name v) Q E s:=by
 obtain ⟨od,J,hl⟩:=I.look
 refine PySem.W.set_plain X J hs (PySem.W.osa_open (s:={ s with toks:=s.toks+1 }) (r:=none) X J hp ht fun b=>?_)
 obtain ⟨cd,hc,hd'⟩:=PySem.W.any_some hh
 have hx:s.heap.get? x=some ⟨.ref C,some dx,.plain,#[]⟩:=I.obj
 refine wpAny_bind (wpAny_pure (wpAny_bind (wpAny_bind (wpAny_loadPart hx (wpAny_bind (PySem.W.Looks.here (s:={ s with toks:=s.toks+1 }) (PySem.W.looks_clsIn X hc) ?_))))))
 rw [hd']
 refine wpAny_pure (a:=some dx) (wpAny_bind (wpAny_pure (wpAny_bind ?_)))
 refine wpAny_nsSet1 (s:={ s with toks:=s.toks+1 }) I.ns fun h' hn2 hs2=>?_
 obtain ⟨oD,esD,epD,hoD,hdD,hcD⟩:=hn2.count (PySem.Within.cons name v hw)
 refine wpAny_bind (wpAny_lookBehind hoD (by rw [hdD]; exact pastItsLine_dict (Nat.le_trans hcD (by rw [List.length_cons]; omega))) ?_)
 exact wpAny_pure (h _ ⟨(hs2.2 _ (Ne.symm I.ne)).trans I.obj,hn2,I.ne⟩ hs2)
theorem make_map {R:Result→Shared→Prop} {vs:List Value} {kw:List (Str × Value)} (X:K.In s.heap) (hm:PySem.W.makesIn K C=true)
  (hi:PySem.W.findIn K (.ref C) "__init__" = some (some (.ref f))) (hf:PySem.W.typeIn K (.ref f)=some (.type "function"))
  (h:codeAny (model prog w) (A.under (.builtin "type.__call__" ⟨.ref C :: vs,kw⟩)) (.call (.ref f) ⟨.ref (s.heap.objs.size+1) :: vs,kw⟩) (PySem.W.InitBack (s.heap.objs.size+1) R)
   { s with heap:=(s.heap.push PySem.W.emptyDict).push (PySem.W.instObj C s.heap.objs.size) }) :
  codeAny (model prog w) A (.call (.ref C) ⟨vs,kw⟩) R s:=by
 obtain ⟨hh,g,d,t,os⟩:=s
 exact PySem.W.make_core (PySem.W.makes_of X hm) (PySem.W.looks_findIn X hi) (fun self=>PySem.W.bind_fn X self hf) (.inl rfl) h
end
def putF (f:Str) (v:V):List (Str × V)→List (Str × V)
 | []=>[(f,v)]
 | (g,x) :: r=>if g=f then (g,v) :: r else (g,x) :: putF f v r
theorem lookup_putF (f g:Str) (v:V):∀ fs:List (Str × V),(putF f v fs).lookup g=if g=f then some v else fs.lookup g
 | []=>by
  show List.lookup g [(f,v)]=_
  by_cases h:g=f
  ·have hb:(g == f)=true:=beq_iff_eq.mpr h
   simp only [List.lookup,hb,if_pos h]
  ·have hb:(g == f)=false:=beq_eq_false_iff_ne.mpr h
   simp only [List.lookup,hb,if_neg h]
 | (k,x) :: r=>by
  have ih:=lookup_putF f g v r
  rw [show putF f v ((k,x) :: r)=(if k=f then (k,v) :: r else (k,x) :: putF f v r) from rfl]
  by_cases hk:k=f
  ·rw [if_pos hk]
   by_cases h:g=k
   ·have hb:(g == k)=true:=beq_iff_eq.mpr h
    simp only [List.lookup,hb,if_pos (h.trans hk)]
   ·have hb:(g == k)=false:=beq_eq_false_iff_ne.mpr h
    simp only [List.lookup,hb,if_neg (fun e:g=f=>h (e.trans hk.symm))]
  ·rw [if_neg hk]
   by_cases h:g=k
   ·have hb:(g == k)=true:=beq_iff_eq.mpr h
    simp only [List.lookup,hb,if_neg (fun e:g=f=>hk (h.symm.trans e))]
   ·have hb:(g == k)=false:=beq_eq_false_iff_ne.mpr h
    simp only [List.lookup,hb]
    exact ih
theorem keys_putF (f:Str) (v:V):∀ fs:List (Str × V),f ∈ (putF f v fs).map (·.1)∧∀ g,g ∈ fs.map (·.1)→g ∈ (putF f v fs).map (·.1)
 | []=>⟨by simp [putF],fun g h=>by simp at h⟩
 | (k,x) :: r=>by
  obtain ⟨i1,i2⟩:=keys_putF f v r
  rw [show putF f v ((k,x) :: r)=(if k=f then (k,v) :: r else (k,x) :: putF f v r) from rfl]
  by_cases hk:k=f
  ·rw [if_pos hk]
   subst hk
   exact ⟨by simp,fun g h=>by simpa using h⟩
  ·rw [if_neg hk]
   refine ⟨?_,fun g h=>?_⟩
   ·rw [List.map_cons]
    exact List.mem_cons_of_mem _ i1
   ·rw [List.map_cons] at h ⊢
    rcases List.mem_cons.mp h with e | e
    ·exact List.mem_cons.mpr (.inl e)
    ·exact List.mem_cons_of_mem _ (i2 g e)
theorem length_putF (f:Str) (v:V):∀ fs:List (Str × V),(putF f v fs).length≤fs.length+1
 | []=>by simp [putF]
 | (k,x) :: r=>by
  have ih:=length_putF f v r
  rw [show putF f v ((k,x) :: r)=(if k=f then (k,v) :: r else (k,x) :: putF f v r) from rfl]
  by_cases hk:k=f
  ·rw [if_pos hk,List.length_cons,List.length_cons]; omega
  ·rw [if_neg hk,List.length_cons,List.length_cons]; omega
theorem RelO.some_of {v:V} {o:Option Value} (r:RelO (some v) o):∃ u,o=some u∧RelV v u:=by
 cases o with
 | none=>exact (show False from r).elim
 | some u=>exact ⟨u,rfl,r⟩
theorem handed_of {v:V} {u:Value} (r:RelV v u):PySem.W.handedIn u=true:=by
 cases v with
 | non=>cases (show u=Value.none from r); rfl
 | bl b=>cases (show u=Value.bool b from r); rfl
 | int i=>obtain ⟨t,e⟩:=(show ∃ t,u=Value.int i t from r); cases e; rfl
 | str x=>obtain ⟨t,e⟩:=(show ∃ t,u=Value.str x t from r); cases e; rfl
 | byt b=>obtain ⟨t,e⟩:=(show ∃ t,u=Value.bytes b t from r); cases e; rfl
 | flt b=>obtain ⟨t,e⟩:=(show ∃ t,u=Value.float b t from r); cases e; rfl
 | ref a=>cases (show u=Value.ref a from r); rfl
 | ty n=>cases (show u=Value.type n from r); rfl
section
variable {P:Program} {w:World} {H H':Hp} {h h':Heap} {a C dx:Addr} {fs fs':List (Str × V)}
theorem ins_get (hok:HOk P w H h) (e:H a=some (.ins C dx fs)):∃ mA,ObjM h a dx C mA∧(∀ f,RelO (fs.lookup f) (mA f))∧PySem.Within mA (fs.map (·.1))∧fs.length≤1000∧H dx=some (.own a):=by
 obtain ⟨d,z,ne,ob,mA,n,r,q⟩:=(show ObjOk P w H h a (.ins C dx fs) from hok a _ e)
 exact ⟨mA,⟨ob,n,ne⟩,r,q,z,d⟩
end
structure Cls (K:PySem.W.Frag) (C:Addr):Prop where
 pg:PySem.W.plainGet K C Str.empty=true
 hd:PySem.W.hasDictIn K C=true
 po:PySem.W.plainOver K C=true
 sa:PySem.W.findIn K (.ref C) "__setattr__" = some (some (.builtin "object.__setattr__"))
theorem Cls.get {K:PySem.W.Frag} {C:Addr} (c:Cls K C) (f:Str):PySem.W.plainGet K C f=true:=c.pg
def NoAttr (K:PySem.W.Frag) (C:Addr) (f:Str):Prop:=PySem.W.findIn K (.ref C) f=some none
theorem NoAttr.taker {K:PySem.W.Frag} {C:Addr} {f:Str} (n:NoAttr K C f):PySem.W.takerIn K C f=some none:=by
 unfold PySem.W.takerIn
 rw [show PySem.W.findIn K (.ref C) f=some none from n]
 rfl
section
variable {X:Cx} {pins:List (Addr × Obj)} {σ:St} {H:Hp} {s:Shared} {a C dx:Addr} {fs:List (Str × V)} {f:Str} {v:V} {A:Around} {E:Value→Shared→Prop}
theorem getattr_ok {b:Bool} {Q:Value→Shared→Prop} (I:Inv X pins σ H s) (e:H a=some (.ins C dx fs)) (c:Cls X.K C) (n:NoAttr X.K C f) (l:fs.lookup f=some v)
  (h:∀ u s',Inv X pins σ H s'→RelV v u→Q u s'):wpAny (model X.prog X.w) A (getAttr (.ref a) f b) Q E s:=by
 obtain ⟨mA,O,r,_,_,_⟩:=ins_get I.hok e
 obtain ⟨u,hu,ru⟩:=RelO.some_of (v:=v) (o:=mA f) (by rw [←l]; exact r f)
 exact get_map I.kIn O (c.get f) c.hd n hu (handed_of ru) (h u _ (I.tok _) ru)
theorem setattr_ok {y:V} {u:Value} {Q:Unit→Shared→Prop} (I:Inv X pins σ H s) (e:H a=some (.ins C dx fs)) (c:Cls X.K C) (n:NoAttr X.K C f) (hl:fs.length < 1000) (ry:RelV y u)
  (h:∀ s',Inv X pins σ (upd H a (.ins C dx (putF f y fs))) s'→Q () s'):wpAny (model X.prog X.w) A (setAttr (.ref a) f u) Q E s:=by
 obtain ⟨mA,O,r,wi,_,ho⟩:=ins_get I.hok e
 have hz:(fs.map (·.1)).length≤sizeLine:=by rw [List.length_map,sizeLine_eq]; omega
 refine set_map I.kIn O c.sa c.po n.taker c.hd wi hz fun h' O' sb=>h _ ?_
 have hd:∃ o,h'.get? dx=some o:=let ⟨o,_,_,e',_⟩:=O'.ns; ⟨o,e'⟩
 refine I.write (x:=a) (e:=dx) (by rw [e]; exact True.intro) (.inr ho) (fun b q hb z=>(sb.2 b hb).trans z) hd ?_
 refine ⟨by rw [upd_ne O.ne]; exact ho,?_,O.ne,O'.obj,_,O'.ns,fun g=>?_,fun g hg=>?_⟩
 ·have:=length_putF f y fs; omega
 ·show RelO ((putF f y fs).lookup g) (if g=f then some u else mA g)
  rw [lookup_putF]
  by_cases q:g=f
  ·rw [if_pos q,if_pos q]; exact ry
  ·rw [if_neg q,if_neg q]; exact r g
 ·by_cases q:g=f
  ·rw [q]; exact (keys_putF f y fs).1
  ·refine (keys_putF f y fs).2 g (wi g fun z=>hg ?_)
   show (if g=f then some u else mA g)=none
   rw [if_neg q]; exact z
theorem Inv.made (I:Inv X pins σ H s):Inv X pins σ (upd (upd H s.heap.objs.size (.own (s.heap.objs.size+1))) (s.heap.objs.size+1) (.ins C s.heap.objs.size []))
  { s with heap:=(s.heap.push PySem.W.emptyDict).push (PySem.W.instObj C s.heap.objs.size) }:=by
 have e1:(s.heap.push PySem.W.emptyDict).get? s.heap.objs.size=some PySem.W.emptyDict:=Heap.get?_push_size s.heap rfl
 have e2:((s.heap.push PySem.W.emptyDict).push (PySem.W.instObj C s.heap.objs.size)).get? (s.heap.objs.size+1)=some (PySem.W.instObj C s.heap.objs.size):=by
  have:=Heap.get?_push_size (s.heap.push PySem.W.emptyDict) (o:=PySem.W.instObj C s.heap.objs.size) rfl
  rwa [Heap.size_push] at this
 have e3:(s.heap.push PySem.W.emptyDict).Ns s.heap.objs.size (fun _=>none):=⟨PySem.W.emptyDict,#[],_,e1,rfl,(fun e he=>absurd he (by simp)),fun _=>rfl⟩
 have I1:=I.laid (a:=s.heap.objs.size) (o:=.own (s.heap.objs.size+1)) (h':=s.heap.push PySem.W.emptyDict) (t':=s.toks) (fun b u q=>Heap.get?_push_of_some _ q) (Nat.le_refl _) ⟨_,e1⟩
 refine I1.laid (a:=s.heap.objs.size+1) (o:=.ins C s.heap.objs.size []) (t':=s.toks) (fun b u q=>Heap.get?_push_of_some _ q) (Nat.le_of_eq (Heap.size_push _ _)) ?_
 have ne:s.heap.objs.size≠s.heap.objs.size+1:=Nat.ne_of_lt (Nat.lt_succ_self _)
 refine ⟨by rw [upd_ne ne,upd_same],Nat.zero_le _,ne,e2,fun _=>none,(Heap.Ns1.of_empty e3).at fun o q=>Heap.get?_push_of_some _ q,fun _=>True.intro,fun y hy=>absurd rfl hy⟩
theorem attr_of {prog:Program} {w:World} {env:Env} {e:Expr} {f:Str} {pos:Pos} {s:Shared} {Q:Value→Shared→Prop} (hb:attributeBase e f env (eval e env)=eval e env)
  (h:wpAny (model prog w) A (eval e env) (fun o s₁=>wpAny (model prog w) A (getAttr o f true) Q E s₁) E s):wpAny (model prog w) A (eval (.Attribute e f pos) env) Q E s :=
 Attribute_any_ h (by rw [arm_eval_Attribute,hb])
end
def tFld (K:PySem.W.Frag) (ta:TE) (f:Str):TE:=fun σ H Q=>ta σ H fun x H1=>∃ a C dx fs v,x=.ref a∧H1 a=some (.ins C dx fs)∧Cls K C∧NoAttr K C f∧fs.lookup f=some v∧Q v H1
def sFld (K:PySem.W.Frag) (ta tv:TE) (f:Str):TS:=fun D σ H=>tv σ H fun y H1=>ta σ H1 fun x H2=>∃ a C dx fs,x=.ref a∧H2 a=some (.ins C dx fs)∧Cls K C∧NoAttr K C f∧fs.length < 1000 ∧
 D.nx σ (upd H2 a (.ins C dx (putF f y fs)))
section
variable {X:Cx} {o e value:Expr} {f:Str} {pos pos' tpos:Pos} {ta tv:TE}
theorem pe_fld (he:PE X e ta) (hb:attributeBase e f X.env (eval e X.env)=eval e X.env):PE X (.Attribute e f pos) (tFld X.K ta f):=by
 intro pins s σ H Q I h
 refine attr_of hb (thn (he pins s σ H _ I h) fun u s1 ⟨x,H1,I1,rx,a,C,dx,fs,v,ex,ea,c,n,l,q⟩=>?_)
 subst ex
 obtain rfl:u=Value.ref a:=rx
 exact getattr_ok I1 ea c n l fun u' s2 I2 ru=>⟨v,H1,I2,ru,q⟩
theorem ps_fld (ha:PE X o ta) (hv:PE X value tv) (hs:swapsWith value (some (.Attribute o f pos')) pos.line X.env=pure false):PS X (.Assign [.Attribute o f pos'] value pos) (sFld X.K ta tv f):=by
 intro pins s σ H D I h
 refine plainObj_wpAny_Assign_Attribute (thn (hv pins s σ H _ I h) fun u s1 ⟨y,H1,I1,ry,q⟩=>thn (ha pins s1 σ H1 _ I1 q) fun ov s2 ⟨x,H2,I2,rx,a,C,dx,fs,ex,ea,c,n,l,q2⟩=>?_) hs
 subst ex
 obtain rfl:ov=Value.ref a:=rx
 exact setattr_ok I2 ea c n l ry fun s3 I3=>⟨σ,_,I3,q2⟩
end
section
variable {X:Cx} {pins:List (Addr × Obj)} {σ:St} {H:Hp} {s:Shared} {A:Around} {E:Value→Shared→Prop} {Q:Value→Shared→Prop} {c:Value} {b:Bool}
inductive TyOf (K:PySem.W.Frag) (H:Hp):V→Value→Prop where
 | non:TyOf K H .non (.type "NoneType")
 | bl (x:Bool):TyOf K H (.bl x) (.type "bool")
 | int (i:Int):TyOf K H (.int i) (.type "int")
 | str (x:Str):TyOf K H (.str x) (.type "str")
 | flt (x:UInt64):TyOf K H (.flt x) (.type "float")
 | lst {a:Addr} {xs:List V} (e:H a=some (.lst xs)):TyOf K H (.ref a) (.type "list")
 | frz {a:Addr} {o:Obj} {xs:List V} (e:H a=some (.frz o (.lst xs))):TyOf K H (.ref a) (.type "list")
 | tup {a:Addr} {xs:List V} (e:H a=some (.tup xs)):TyOf K H (.ref a) (.type "tuple")
 | dK {a:Addr} {kvs:List (Key × V)} (e:H a=some (.dK kvs)):TyOf K H (.ref a) (.type "dict")
 | dT {a:Addr} {kvs:List (List Key × V)} (e:H a=some (.dT kvs)):TyOf K H (.ref a) (.type "dict")
 | ins {a C dx:Addr} {fs:List (Str × V)} (e:H a=some (.ins C dx fs)) (cl:Cls K C) (ha:PySem.W.findIn K (.ref C) "__class__" = some (some (.builtin "object.__class__")))
   (hn:PySem.W.specialIn K (.builtin "object.__class__") "__get__" = some (some (.builtin "getset_descriptor.__get__"))) (htk:PySem.W.takesIn K (.builtin "object.__class__")=some true)
   (hm:PySem.W.mroIn K C (.type "object")=some true):TyOf K H (.ref a) (.ref C)
theorem isinst_ok {x:V} {u t:Value} (I:Inv X pins σ H s) (rx:RelV x u) (ty:TyOf X.K H x t) (e:PySem.W.kitOne X.K t c=some b) (h:∀ tk,Q (.bool b) { s with toks:=tk }) :
  wpAny (model X.prog X.w) A (call (.builtin "isinstance") [u,c]) Q E s:=by
 cases ty with
 | non=>cases (show u=Value.none from rx); exact PySem.W.kia_one PySem.W.kitx_none I.kIn True.intro e (fun z=>nomatch z) h
 | bl y=>cases (show u=Value.bool y from rx); exact PySem.W.kia_one PySem.W.kitx_bool I.kIn True.intro e (fun z=>nomatch z) h
 | int i=>obtain ⟨t,q⟩:=(show ∃ t,u=Value.int i t from rx); cases q; exact PySem.W.kia_one PySem.W.kitx_int I.kIn True.intro e (fun z=>nomatch z) h
 | str y=>obtain ⟨t,q⟩:=(show ∃ t,u=Value.str y t from rx); cases q; exact PySem.W.kia_one PySem.W.kitx_str I.kIn True.intro e (fun z=>nomatch z) h
 | flt y=>obtain ⟨t,q⟩:=(show ∃ t,u=Value.float y t from rx); cases q; exact PySem.W.kia_one PySem.W.kitx_float I.kIn True.intro e (fun z=>nomatch z) h
 | @lst a xs ea =>
  cases (show u=Value.ref a from rx)
  obtain ⟨_,_,n,_,h1⟩:=(show ObjOk X.prog X.w H s.heap a (.lst xs) from I.hok a _ ea)
  exact PySem.W.kia_one PySem.W.kitx_list I.kIn ⟨_,h1,rfl⟩ e (fun z=>nomatch z) h
 | @frz a ob xs ea =>
  cases (show u=Value.ref a from rx)
  obtain ⟨_,_,_,n,_,h1⟩:=(show ObjOk X.prog X.w H s.heap a (.frz ob (.lst xs)) from I.hok a _ ea)
  exact PySem.W.kia_one PySem.W.kitx_list I.kIn ⟨_,h1,rfl⟩ e (fun z=>nomatch z) h
 | @tup a xs ea =>
  cases (show u=Value.ref a from rx)
  obtain ⟨_,_,_,p⟩:=(show ObjOk X.prog X.w H s.heap a (.tup xs) from I.hok a _ ea)
  obtain ⟨o,h1,h2,_⟩:=p
  exact PySem.W.kia_one PySem.W.kitx_tuple I.kIn ⟨o,h1,h2⟩ e (fun z=>nomatch z) h
 | @dK a kvs ea =>
  cases (show u=Value.ref a from rx)
  obtain ⟨_,_,vs,_,p⟩:=(show ObjOk X.prog X.w H s.heap a (.dK kvs) from I.hok a _ ea)
  obtain ⟨o,es,ep,h1,h2,_⟩:=p
  exact PySem.W.kia_one PySem.W.kitx_dict I.kIn ⟨o,h1,h2.1⟩ e (fun z=>nomatch z) h
 | @dT a kvs ea =>
  cases (show u=Value.ref a from rx)
  obtain ⟨_,_,xs,_,o,es,ep,h1,h2,_⟩:=(show ObjOk X.prog X.w H s.heap a (.dT kvs) from I.hok a _ ea)
  exact PySem.W.kia_one PySem.W.kitx_dict I.kIn ⟨o,h1,h2.1⟩ e (fun z=>nomatch z) h
 | @ins a C dx fs ea cl ha hn htk hm =>
  cases (show u=Value.ref a from rx)
  obtain ⟨mA,O,_⟩:=ins_get I.hok ea
  obtain ⟨od,J,_⟩:=O.look
  exact PySem.W.kia_one (PySem.W.kitx_own (cl.get _) cl.hd ha hn htk hm) I.kIn J e (fun z=>nomatch z) h
end
end L2
namespace L2
open PySem PySem.Spec PyProof.Rows
structure Room (k:Nat) (A:Around):Prop where
 hd:A.handled=none
 dp:A.depth+3 * k+5 < recursionLimit
 un:A.units+16 * k+200 < cLine
 gd:A.guards=some []
theorem Room.mono {j k:Nat} {A:Around} (r:Room k A) (h:j≤k):Room j A:=⟨r.hd,by have:=r.dp; omega,by have:=r.un; omega,r.gd⟩
theorem Room.deeper {k:Nat} {A:Around} (r:Room (k+1) A) (env:Env):Room k (A.deeper env) :=
 ⟨r.hd,by have:=r.dp; show A.depth+1+3 * k+5 < _; omega,by have:=r.un; show A.units+3+16 * k+200 < _; omega,r.gd⟩
theorem make_depth {A:Around} {C:Addr} {us:List Value} {kw:List (Str × Value)}:(A.under (.builtin "type.__call__" ⟨.ref C :: us,kw⟩)).depth=A.depth+1:=by
 first | rfl | simp [Around.under,Code.weight,Code.isCreation,Code.isGuard,Code.isCaller,Code.frames,Code.isFrame,guardIds]
theorem make_units {A:Around} {C:Addr} {us:List Value} {kw:List (Str × Value)}:(A.under (.builtin "type.__call__" ⟨.ref C :: us,kw⟩)).units=A.units+1:=by
 first | rfl | simp [Around.under,Code.cUnits,Code.frames,Code.isFrame]
theorem Room.make {k:Nat} {A:Around} (r:Room (k+1) A) (C:Addr) (us:List Value) (kw:List (Str × Value)):Room k (A.under (.builtin "type.__call__" ⟨.ref C :: us,kw⟩)) :=
 ⟨r.hd,by have:=r.dp; rw [make_depth]; omega,by have:=r.un; rw [make_units]; omega,by first | exact r.gd | simpa [Around.under,Code.guards,Code.isGuard,pushGuards,guardIds] using r.gd⟩
theorem Room.depth {k:Nat} {A:Around} (r:Room k A):A.depth < recursionLimit:=by have:=r.dp; omega
theorem Room.units {k:Nat} {A:Around} (r:Room k A):A.units+64 < cLine:=by have:=r.un; omega
def tNil:TA:=fun _ H Q=>Q [] H
def tCons (ta:TE) (tr:TA):TA:=fun σ H Q=>ta σ H fun x H1=>tr σ H1 fun xs H2=>Q (x :: xs) H2
section
variable {X:Cx} {e:Expr} {es:List Expr} {te:TE} {t:TA} {pos:Pos}
theorem pa_nil:PA X [] tNil:=fun _ _ _ _ H Q I h=>Calls.spliced_nil ⟨[],H,I,.nil,h⟩
theorem pa_cons (ha:PE X e te) (hr:PA X es t) (hs:starEach (e :: es) X.env=(false,eval e X.env) :: starEach es X.env:=by rfl):PA X (e :: es) (tCons te t):=by
 intro pos pins s σ H Q I h
 rw [hs]
 show wpAny _ _ (spliced ((false,eval e X.env) :: backTo pos (starEach es X.env))) _ _ s
 refine Calls.spliced_cons (thn (ha pins s σ H _ I h) fun u s1 ⟨x,H1,I1,r1,q1⟩=>?_)
 exact thn (hr pos pins s1 σ H1 _ I1 q1) fun us s2 ⟨xs,H2,I2,r2,q2⟩=>⟨x :: xs,H2,I2,.cons r1 r2,q2⟩
def tTup (t:TA):TE:=fun σ H Q=>t σ H fun xs H1=>xs.length≤sizeLine∧∀ p,H1 p=none→Q (.ref p) (upd H1 p (.tup xs))
def tLst (t:TA):TE:=fun σ H Q=>t σ H fun xs H1=>xs.length≤sizeLine∧∀ p,H1 p=none→Q (.ref p) (upd H1 p (.lst xs))
theorem pe_tup {x1} (h:PA X es t):PE X (.Tuple es x1 pos) (tTup t):=by
 intro pins s σ H Q I hq
 refine wpAny_Tuple_spliced (thn (h pos pins s σ H _ I hq) fun us s1 ⟨xs,H1,I1,r,z,q⟩=>⟨by rw [←r.length]; exact z,?_⟩)
 have hf:H1 s1.heap.objs.size=none:=I1.hok.fresh (Nat.le_refl _)
 refine ⟨.ref s1.heap.objs.size,upd H1 s1.heap.objs.size (.tup xs),I1.laid (t':=s1.toks) (fun b u e=>Heap.get?_push_of_some _ e) (Nat.le_refl _) ?_,rfl,q _ hf⟩
 exact ⟨z,us,r,⟨_,Heap.get?_push_size _ rfl,rfl,_,rfl⟩⟩
theorem pe_lst (h:PA X es t):PE X (.List es pos) (tLst t):=by
 intro pins s σ H Q I hq
 refine wpAny_List_spliced (thn (h pos pins s σ H _ I hq) fun us s1 ⟨xs,H1,I1,r,z,q⟩=>⟨by rw [←r.length]; exact z,?_⟩)
 have hf:H1 s1.heap.objs.size=none:=I1.hok.fresh (Nat.le_refl _)
 refine ⟨.ref s1.heap.objs.size,upd H1 s1.heap.objs.size (.lst xs),I1.laid (t':=s1.toks) (fun b u e=>Heap.get?_push_of_some _ e) (Nat.le_refl _) ?_,rfl,q _ hf⟩
 exact ⟨z,us,0,r,Heap.get?_push_size _ rfl⟩
end
abbrev Sp:=List V→Hp→VK→XK→Prop
abbrev CXT:=List Env→Hp→Shared→XK→Value→Shared→Prop
structure Env0 (P:Program) (w:World) (K:PySem.W.Frag) (mg:Str→Option Value) (base:Heap) (A:Around) (outer:List Env) (s:Shared) (H:Hp):Prop where
 frames:A.frames=some outer
 mod:Mod K mg base
 bs:∀ b o,base.get? b=some o→s.heap.get? b=some o∧H b=none
 bsz:base.objs.size≤s.heap.objs.size
 funs:s.heap.FunFrames base outer
 frf:∀ b ∈ frs outer,H b=none
 hok:HOk P w H s.heap
 bare:AllBare s.gens
def CE (outer:List Env) (P:Program) (w:World) (H:Hp) (s:Shared) (Q:VK) (u:Value) (s':Shared):Prop :=
 ∃ v H',s'.os=s.os∧AllBare s'.gens∧Un (frs outer) [] H H' s.heap s'.heap∧HOk P w H' s'.heap∧RelV v u∧Q v H'
def CR (CX:CXT) (outer:List Env) (P:Program) (w:World) (H:Hp) (s:Shared) (Q:VK) (E:XK) (r:Result) (s':Shared):Prop :=
 match r with
 | .ok (.ret u)=>CE outer P w H s Q u s'
 | .ok _=>False
 | .error e=>CX outer H s E e s'
structure FnOk (P:Program) (w:World) (K:PySem.W.Frag) (mg:Str→Option Value) (base:Heap) (CX:CXT) (k:Nat) (f:Addr) (fd:FuncData) (ps:List Str) (sp:Sp):Prop where
 len:∀ vs H Q E,sp vs H Q E→vs.length=ps.length
 run:∀ (A:Around) (outer:List Env) (s:Shared) (H:Hp) (args:Args) (us:List Value) (vs:List V) (Q:VK) (E:XK),Room k A→Env0 P w K mg base A outer s H→BindsTo s fd args (ps.zip us)→Vals vs us→sp vs H Q E →
  codeAny (model P w) A (.call (.ref f) args) (CR CX outer P w H s Q E) s
theorem Env0.make {P:Program} {w:World} {K:PySem.W.Frag} {mg:Str→Option Value} {base:Heap} {A:Around} {outer:List Env} {s:Shared} {H:Hp} (e:Env0 P w K mg base A outer s H) (C:Addr) (us:List Value) (kw:List (Str × Value)) :
  Env0 P w K mg base (A.under (.builtin "type.__call__" ⟨.ref C :: us,kw⟩)) outer s H:=⟨by first | exact e.frames | (simpa [Around.under,Code.envs,Code.isFrame,pushEnvs] using e.frames),e.mod,e.bs,e.bsz,e.funs,e.frf,e.hok,e.bare⟩
section
variable {X:Cx} {pins:List (Addr × Obj)} {σ:St} {H:Hp} {s s':Shared}
theorem Inv.env0 (I:Inv X pins σ H s):Env0 X.prog X.w X.K X.mg X.base X.A X.stack s H :=
 ⟨I.ok.frames,I.ok.mod,I.bs,Nat.le_trans I.ok.bsz I.sz,I.stack,I.stkFree,I.hok,I.bare⟩
theorem Inv.after {Q:VK} {u:Value} (I:Inv X pins σ H s) (h:CE X.stack X.prog X.w H s Q u s'):EP X pins σ Q u s':=by
 obtain ⟨v,H',os,bare,un,hok,r,q⟩:=h
 obtain ⟨hh,g,d,t,os'⟩:=s'
 obtain rfl:os'=s.os:=os
 exact ⟨v,H',I.call (h':=hh) (g':=g) (d':=d) (t':=t) (ch:=[]) un hok bare (fun b z=>absurd z (by simp)),r,q⟩
end
def tCall (sp:Sp) (dvs:List V) (E:XK) (t:TA):TE:=fun σ H Q=>t σ H fun vs H1=>sp (vs++dvs) H1 Q E
def tMake (C:Addr) (sp:Sp) (dvs:List V) (E:XK) (t:TA):TE:=fun σ H Q=>t σ H fun vs H1=>∀ x dx,H1 x=none→H1 dx=none→dx≠x →
 sp (.ref x :: (vs++dvs)) (upd (upd H1 dx (.own x)) x (.ins C dx [])) (fun v H2=>v=.non∧Q (.ref x) H2) E
def Binds (K:PySem.W.Frag) (fd:FuncData) (ps:List Str) (ds:List Value):Prop :=
 ∀ (s:Shared) (us:List Value),K.In s.heap→(us++ds).length=ps.length→BindsTo s fd ⟨us,[]⟩ (ps.zip (us++ds))
theorem Binds.all {K:PySem.W.Frag} {fd:FuncData} {ps:List Str} (h:∀ us:List Value,us.length=ps.length→bindArgs fd ⟨us,[]⟩=pure (ps.zip us)):Binds K fd ps []:=fun s us _ hl=>by
 rw [List.append_nil] at hl ⊢
 exact .of_eq (h us hl)
def Passes (CX:CXT) (X:Cx) (E:XK):Prop:=∀ (pins:List (Addr × Obj)) (σ:St) (H:Hp) (s:Shared) (e:Value) (s':Shared),Inv X pins σ H s→CX X.stack H s E e s'→X.xe e s'
section
variable {X:Cx} {CX:CXT} {k:Nat} {f C:Addr} {fd:FuncData} {ps:List Str} {sp:Sp} {dvs:List V} {ds:List Value} {E:XK} {x m:Str} {p pos apos:Pos} {e o:Expr} {es:List Expr} {ta:TE} {t:TA}
theorem run_fn {pins:List (Addr × Obj)} {σ:St} {H:Hp} {s:Shared} {Q:VK} {us:List Value} {vs:List V} (F:FnOk X.prog X.w X.K X.mg X.base CX k f fd ps sp) (hr:Room k X.A) (hb:Binds X.K fd ps ds) (hd:Vals dvs ds) (hx:Passes CX X E)
  (I:Inv X pins σ H s) (r:Vals vs us) (h:sp (vs++dvs) H Q E):wpAny (model X.prog X.w) X.A (call (.ref f) us) (EP X pins σ Q) X.xe s:=by
 have r2:Vals (vs++dvs) (us++ds):=r.append hd
 have hl:(us++ds).length=ps.length:=by rw [←r2.length]; exact F.len _ _ _ _ h
 refine wpAny_call (codeAny_mono (F.run X.A X.stack s H ⟨us,[]⟩ (us++ds) (vs++dvs) Q E hr I.env0 (hb s us I.kIn hl) r2 h) fun r s' hq=>?_)
 cases r with
 | error e=>exact hx pins σ H s e s' I hq
 | ok fl =>
  cases fl with
  | ret u=>exact I.after hq
  | next=>exact False.elim hq
  | brk=>exact False.elim hq
  | cont=>exact False.elim hq
theorem pe_call (F:FnOk X.prog X.w X.K X.mg X.base CX k f fd ps sp) (hr:Room k X.A) (hg:Gl X x) (hm:X.mg x=some (.ref f)) (hk:PySem.W.keepIn X.K (.ref f)=true) (hb:Binds X.K fd ps ds) (hd:Vals dvs ds) (hx:Passes CX X E)
  (ha:PA X (e :: es) t) (hdb:(x == ("__debug__" : Str))=false:=by decide) (he:starEach (e :: es) X.env=(false,eval e X.env) :: starEach es X.env:=by rfl) (hpl:(backTo pos (starEach es X.env)).any (·.1)=false:=by rfl) :
  PE X (.Call (.Name x p) (e :: es) [] pos) (tCall sp dvs E t):=by
 intro pins s σ H Q I h
 refine wpAny_Call_Name_kw (ld_glob I hg hm ?_ hdb)
 refine PySem.W.callWith_K (h₀:=X.base) I.ok.mod.kin hk (thn (ha pos pins s σ H _ I h) fun us s1 ⟨vs,H1,I1,r,q⟩=>⟨I1.kIn,?_⟩) he hpl
 exact run_fn F hr hb hd hx I1 r q
structure Mk (K:PySem.W.Frag) (C f:Addr):Prop where
 makes:PySem.W.makesIn K C=true
 init:PySem.W.findIn K (.ref C) "__init__" = some (some (.ref f))
 fn:PySem.W.isFn K (.ref f)=true
 kp:PySem.W.keepIn K (.ref C)=true
theorem run_make {pins:List (Addr × Obj)} {σ:St} {H:Hp} {s:Shared} {Q:VK} {us:List Value} {vs:List V} (M:Mk X.K C f) (F:FnOk X.prog X.w X.K X.mg X.base CX k f fd ps sp) (hr:Room (k+1) X.A) (hb:Binds X.K fd ps ds) (hd:Vals dvs ds)
  (hx:Passes CX X E) (I:Inv X pins σ H s) (r:Vals vs us)
  (h:∀ x dx,H x=none→H dx=none→dx≠x→sp (.ref x :: (vs++dvs)) (upd (upd H dx (.own x)) x (.ins C dx [])) (fun v H2=>v=.non∧Q (.ref x) H2) E) :
  wpAny (model X.prog X.w) X.A (call (.ref C) us) (EP X pins σ Q) X.xe s:=by
 have hq:=h (s.heap.objs.size+1) s.heap.objs.size (I.hok.fresh (Nat.le_succ _)) (I.hok.fresh (Nat.le_refl _)) (Nat.ne_of_lt (Nat.lt_succ_self _))
 have I2:=Inv.made (C:=C) I
 have r2:Vals (V.ref (s.heap.objs.size+1) :: (vs++dvs)) (Value.ref (s.heap.objs.size+1) :: (us++ds)):=.cons rfl (r.append hd)
 have hl:(Value.ref (s.heap.objs.size+1) :: us++ds).length=ps.length:=by
  have e:=r2.length
  rw [F.len _ _ _ _ hq] at e
  exact e.symm
 refine wpAny_call (make_map (f:=f) I.kIn M.makes M.init (beq_iff_eq.mp M.fn) (codeAny_mono (F.run _ X.stack _ _ ⟨Value.ref (s.heap.objs.size+1) :: us,[]⟩ (Value.ref (s.heap.objs.size+1) :: (us++ds)) _ _ E (hr.make C us [])
  (I2.env0.make C us []) (hb _ (Value.ref (s.heap.objs.size+1) :: us) I2.kIn hl) r2 hq) fun r s' hq'=>?_))
 cases r with
 | error e=>exact hx pins σ _ _ e s' I2 hq'
 | ok fl =>
  cases fl with
  | ret u =>
   obtain ⟨v,H',I3,rv,ev,q3⟩:=I2.after hq'
   subst ev
   exact ⟨rv,⟨V.ref (s.heap.objs.size+1),H',I3,rfl,q3⟩⟩
  | next=>exact False.elim hq'
  | brk=>exact False.elim hq'
  | cont=>exact False.elim hq'
theorem pe_make (M:Mk X.K C f) (F:FnOk X.prog X.w X.K X.mg X.base CX k f fd ps sp) (hr:Room (k+1) X.A) (hg:Gl X x) (hm:X.mg x=some (.ref C)) (hb:Binds X.K fd ps ds) (hd:Vals dvs ds) (hx:Passes CX X E)
  (ha:PA X (e :: es) t) (hdb:(x == ("__debug__" : Str))=false:=by decide) (he:starEach (e :: es) X.env=(false,eval e X.env) :: starEach es X.env:=by rfl) (hpl:(backTo pos (starEach es X.env)).any (·.1)=false:=by rfl) :
  PE X (.Call (.Name x p) (e :: es) [] pos) (tMake C sp dvs E t):=by
 intro pins s σ H Q I h
 refine wpAny_Call_Name_kw (ld_glob I hg hm ?_ hdb)
 refine PySem.W.callWith_K (h₀:=X.base) I.ok.mod.kin M.kp (thn (ha pos pins s σ H _ I h) fun us s1 ⟨vs,H1,I1,r,q⟩=>⟨I1.kIn,?_⟩) he hpl
 exact run_make M F hr hb hd hx I1 r q
end
def PK (X:Cx) (kws:List Keyword) (t:TA):Prop :=
 ∀ (pos:Pos) (pins:List (Addr × Obj)) (s:Shared) (σ:St) (H:Hp) (Q:List V→Hp→Prop),Inv X pins σ H s→t σ H Q→wpAny (model X.prog X.w) X.A (evalAll ((backToKw pos (keywordEach kws X.env)).map (·.2))) (AP X pins σ Q) X.xe s
section
variable {X:Cx} {CX:CXT} {k:Nat} {f C:Addr} {fd:FuncData} {ps ks:List Str} {sp:Sp} {E:XK} {x m:Str} {p pos apos kpos:Pos} {e o:Expr} {es:List Expr} {kws:List Keyword} {te ta:TE} {t tk:TA} {nm:Option Str}
theorem pk_nil:PK X [] tNil:=fun _ _ _ _ H Q I h=>wpAny_evalAll_nil ⟨[],H,I,.nil,h⟩
theorem pk_cons (ha:PE X e te) (hr:PK X kws t):PK X (⟨nm,e,kpos⟩ :: kws) (tCons te t):=by
 intro pos pins s σ H Q I h
 show wpAny _ _ (evalAll ((do let v ← eval e X.env; standAt pos; pure v) :: (backToKw pos (keywordEach kws X.env)).map (·.2))) _ _ s
 refine wpAny_evalAll_cons (wpAny_bind (thn (ha pins s σ H _ I h) fun u s1 ⟨x,H1,I1,r1,q1⟩=>wpAny_bind (wpAny_standAt (wpAny_pure ?_))))
 exact thn (hr pos pins s1 σ H1 _ I1 q1) fun us s2 ⟨xs,H2,I2,r2,q2⟩=>⟨x :: xs,H2,I2,.cons r1 r2,q2⟩
variable {g:List Value→List Value→List Value} {gV:List V→List V→List V}
end
structure FnScope (N P:List Str) (sc:Scope):Prop where
 kind:sc.kind=.function
 co:sc.isCoroutine=false
 gen:sc.isGenerator=false
 nd:N.Nodup
 pre:N.take P.length=P
 par:∀ x ∈ P,sc.names.lookup x=some .local ∨ sc.names.lookup x=some .cell
 nofree:∀ y ∈ sc.names,y.2≠.free
theorem bindL_out {kindOf:Str→Option NameKind} {x:Str}:∀ {binds:List (Str × Value)} {m:Str→Option Value},(∀ v,(x,v) ∉ binds)→bindL kindOf binds m x=m x
 | [],_,_=>rfl
 | (n,v) :: r,m,h=>by
  unfold bindL
  rw [bindL_out fun w hw=>h w (List.mem_cons_of_mem _ hw)]
  split
  ·have:x≠n:=by rintro rfl; exact h v List.mem_cons_self
   simp [this]
  ·rfl
theorem bindC_out {kindOf:Str→Option NameKind} {x:Str}:∀ {binds:List (Str × Value)} {m:Str→Option Value},(∀ v,(x,v) ∉ binds)→bindC kindOf binds m x=m x
 | [],_,_=>rfl
 | (n,v) :: r,m,h=>by
  unfold bindC
  rw [bindC_out fun w hw=>h w (List.mem_cons_of_mem _ hw)]
  split
  ·rfl
  ·have:x≠n:=by rintro rfl; exact h v List.mem_cons_self
   simp [this]
theorem bindL_get {kindOf:Str→Option NameKind} {x:Str} {v:Value}:∀ {P:List Str} {vs:List Value} {i:Nat} {m:Str→Option Value},P.Nodup→P[i]? = some x→vs[i]? = some v→kindOf x=some .local →
  bindL kindOf (P.zip vs) m x=some v
 | [],_,_,_,_,h,_,_=>by simp at h
 | _ :: _,[],_,_,_,_,h,_=>by simp at h
 | p :: P,w :: vs,0,m,nd,h1,h2,hk=>by
  simp at h1 h2; subst h1; subst h2
  show bindL kindOf ((p,w) :: P.zip vs) m p=_
  unfold bindL
  rw [bindL_out fun v hv=>(List.nodup_cons.mp nd).1 (List.of_mem_zip hv).1,if_pos hk]
  simp
 | p :: P,w :: vs,i+1,m,nd,h1,h2,hk=>by
  show bindL kindOf ((p,w) :: P.zip vs) m x=_
  unfold bindL
  exact bindL_get (i:=i) (List.nodup_cons.mp nd).2 (by simpa using h1) (by simpa using h2) hk
theorem bindC_get {kindOf:Str→Option NameKind} {x:Str} {v:Value}:∀ {P:List Str} {vs:List Value} {i:Nat} {m:Str→Option Value},P.Nodup→P[i]? = some x→vs[i]? = some v→kindOf x≠some .local →
  bindC kindOf (P.zip vs) m x=some v
 | [],_,_,_,_,h,_,_=>by simp at h
 | _ :: _,[],_,_,_,_,h,_=>by simp at h
 | p :: P,w :: vs,0,m,nd,h1,h2,hk=>by
  simp at h1 h2; subst h1; subst h2
  show bindC kindOf ((p,w) :: P.zip vs) m p=_
  unfold bindC
  rw [bindC_out fun v hv=>(List.nodup_cons.mp nd).1 (List.of_mem_zip hv).1,if_neg hk]
  simp
 | p :: P,w :: vs,i+1,m,nd,h1,h2,hk=>by
  show bindC kindOf ((p,w) :: P.zip vs) m x=_
  unfold bindC
  exact bindC_get (i:=i) (List.nodup_cons.mp nd).2 (by simpa using h1) (by simpa using h2) hk
def start (N:List Str) (vs:List V):St:=vs.map some++List.replicate (N.length - vs.length) none
def cxOf (CX:CXT) (P:Program) (w:World) (K:PySem.W.Frag) (mg:Str→Option Value) (base:Heap) (N:List Str) (qual:Str) (scope:Scope) (f:Addr) (cd:Value) (A:Around) (outer:List Env) (s:Shared) (H:Hp) (E:XK):Cx where
 prog:=P
 w:=w
 K:=K
 mg:=mg
 base:=base
 A:=A.deeper (envOfC qual scope s.heap.objs.size f cd)
 N:=N
 s₀:=s
 H₀:=H
 env:=envOfC qual scope s.heap.objs.size f cd
 outer:=outer
 stack:=envOfC qual scope s.heap.objs.size f cd :: outer
 ex:=[]
 calm:=true
 fn:=fun _=>true
 pn:=[]
 xe:=fun e s'=>wpAny (model P w) (A.deeper (envOfC qual scope s.heap.objs.size f cd)) (leaving (envOfC qual scope s.heap.objs.size f cd) e) (fun _ s''=>CX outer H s E e s'') (fun e' s''=>CX outer H s E e' s'') s'
theorem cell_has {sc:Scope} {n:Nat} {x:Str} (h:sc.names.lookup x=some .cell):∃ c,(cellsFrom n sc.names []).lookup x=some c:=by
 have q:=PySem.W.cellsFrom_some sc.names n [] (.inl h)
 exact Option.isSome_iff_exists.mp q
theorem inv_start {CX:CXT} {P:Program} {w:World} {K:PySem.W.Frag} {mg:Str→Option Value} {base:Heap} {N ps:List Str} {qual:Str} {scope:Scope} {f:Addr} {cd:Value} {A:Around} {outer:List Env} {s s1:Shared} {H:Hp} {E:XK} {us:List Value} {vs:List V}
  (S:FnScope N ps scope) (hd:A.handled=none) (e0:Env0 P w K mg base A outer s H) (hl:vs.length=ps.length) (r:Vals vs us)
  (x:InCallC s s.heap.objs.size (bindL (envOfC qual scope s.heap.objs.size f cd).kindOf (ps.zip us) fun _=>none) (cellsFrom (s.heap.objs.size+1) scope.names []) (bindC (envOfC qual scope s.heap.objs.size f cd).kindOf (ps.zip us) fun _=>none) s1) :
  Inv (cxOf CX P w K mg base N qual scope f cd A outer s H E) [] (start N vs) H s1:=by
 have hpl:ps.length≤N.length:=by have:=congrArg List.length S.pre; rw [List.length_take] at this; omega
 obtain ⟨h1,tk,rfl,hk⟩:=x.done
 have noA:∀ b:Addr,b ∉ (cxOf CX P w K mg base N qual scope f cd A outer s H E).ex:=fun b z=>absurd (show b ∈ ([]:List Addr) from z) (by simp)
 refine ⟨⟨e0.mod,S.kind,rfl,rfl,Nat.le_refl _,fun y z c h1 h2=>?_,fun y hy=>?_,fun y c _ h=>?_,fun _=>hd,Around.frames_deeper e0.frames,.inr ⟨rfl,rfl⟩,fun b z=>absurd z (noA b),e0.bs,e0.bsz,fun b _ _=>noA b,fun b z=>absurd z (noA b),e0.funs,e0.frf⟩,
  rfl,e0.bare,Un.kept hk,⟨_,x.toInCall.ns,fun i y v h1 h2 h3=>?_⟩,fun y c h=>⟨_,x.cell y c h⟩,e0.hok.fresh (Nat.le_refl _),fun y c h=>?_,fun p hp=>absurd (show p ∈ ([]:List (Addr × Obj)) from hp) (by simp),e0.hok.kept hk,?_⟩
 ·exact name_of_addr x.apart (PySem.mem_of_lookup h1) (PySem.mem_of_lookup h2)
 ·have hy:scope.names.lookup y=some .cell ∨ scope.names.lookup y=some .free:=hy
  rcases hy with hy | hy
  ·exact cell_has hy
  ·exact absurd rfl (S.nofree _ (PySem.mem_of_lookup hy))
 ·exact Nat.le_of_lt (x.above y c (PySem.mem_of_lookup h))
 ·have hi:i < vs.length:=by
   unfold start at h2
   by_cases hi:i < vs.length
   ·exact hi
   ·rw [List.getElem?_append_right (by simpa using hi)] at h2
    rw [List.getElem?_replicate] at h2
    split at h2 <;> cases h2
  have ha:vs[i]? = some v:=by
   unfold start at h2
   rw [List.getElem?_append_left (by simpa using hi),List.getElem?_map] at h2
   cases e:vs[i]? with
   | none=>rw [e] at h2; cases h2
   | some a=>rw [e] at h2; cases h2; rfl
  obtain ⟨u,hu,rv⟩:=r.get ha
  have hp:ps[i]? = some y:=by
   rw [←S.pre,List.getElem?_take_of_lt (by omega)]; exact h1
  have ndP:ps.Nodup:=by rw [←S.pre]; exact S.nd.sublist (List.take_sublist _ _)
  refine ⟨u,rv,?_⟩
  rcases S.par y (List.mem_of_getElem? hp) with k | k
  ·exact .inl ⟨k,bindL_get ndP hp hu k⟩
  ·obtain ⟨c,e⟩:=cell_has (n:=s.heap.objs.size+1) k
   refine .inr ⟨.inl k,c,e,?_⟩
   have q:=x.cell y c e
   rw [bindC_get ndP hp hu (by show scope.names.lookup y≠_; rw [k]; decide)] at q
   exact q
 ·exact e0.hok.fresh (Nat.le_of_lt (x.above y c (PySem.mem_of_lookup h)))
 ·unfold start
  show _=N.length
  rw [List.length_append,List.length_map,List.length_replicate]
  omega
theorem fn_of {CX:CXT} {P:Program} {w:World} {K:PySem.W.Frag} {mg:Str→Option Value} {base:Heap} {k:Nat} {f:Addr} {name qual:Str} {params:Arguments} {body:List Stmt} {scope:Scope} {dV kV doc pm cdv ct oc:Value} {an od:Option Addr}
  {osl:Array (Option Value)} {N ps:List Str} {sp:Sp} (lk:K.lookup f=some ⟨oc,od,.func (PySem.W.fnOf name qual params body scope dV kV doc pm an cdv ct),osl⟩) (hcd:PySem.W.codeIn K cdv qual=true) (S:FnScope N ps scope)
  (len:∀ vs H Q E,sp vs H Q E→vs.length=ps.length)
  (hbody:∀ (A:Around) (outer:List Env) (s:Shared) (H:Hp) (vs:List V) (Q:VK) (E:XK),Room k (A.deeper (envOfC qual scope s.heap.objs.size f cdv))→sp vs H Q E →
   ∃ t,PSs (cxOf CX P w K mg base N qual scope f cdv A outer s H E) body t∧t { nx:=fun _ H'=>Q .non H',rt:=Q } (start N vs) H) :
  FnOk P w K mg base CX (k+1) f (PySem.W.fnOf name qual params body scope dV kV doc pm an cdv ct) ps sp:=by
 refine ⟨len,fun A outer s H args us vs Q E hr e0 hb r hsp=>?_⟩
 have hl:=len _ _ _ _ hsp
 have KX:K.In s.heap:=e0.mod.kin.keeps fun b o e=>(e0.bs b o e).1
 have lim:s.heap.NoLimit:=e0.mod.nolimit.keeps fun b o e=>(e0.bs b o e).1
 have hkind:∀ y ∈ ps.zip us,scope.names.lookup y.1=some .local ∨ (scope.names.lookup y.1=some .cell∧((cellsFrom (s.heap.objs.size+1) scope.names []).lookup y.1).isSome=true):=fun ⟨n,v⟩ hy=>by
  rcases S.par n (List.of_mem_zip hy).1 with q | q
  ·exact .inl q
  ·exact .inr ⟨q,PySem.W.cellsFrom_some _ _ _ (.inl q)⟩
 refine codeAny_call_function hr.depth (KX _ _ lk) rfl S.co S.gen rfl (PySem.W.codeRec_of KX hcd) (hb _ _ _ _ ?_)
 refine wpAny_newFunctionEnv_cells S.kind hkind fun env he s1 x=>?_
 subst he
 refine ⟨lim.keeps x.toInCall.keep,codeAny_func ?_⟩
 obtain ⟨t,ht,hq⟩:=hbody A outer s H vs Q E (hr.deeper _) hsp
 have I:Inv (cxOf CX P w K mg base N qual scope f cdv A outer s H E) [] (start N vs) H s1:=inv_start S hr.hd e0 hl r x
 refine wpAny_mono (ht [] s1 (start N vs) H _ I hq) (fun fl s' hs=>?_) fun e s' hs=>hs
 have fin:∀ {σ':St} {H':Hp} {v:V} {u:Value},Inv (cxOf CX P w K mg base N qual scope f cdv A outer s H E) [] σ' H' s'→RelV v u→Q v H'→CE outer P w H s Q u s' :=
  fun {σ' H' v u} J rv q=>⟨v,H',J.os,J.bare,J.base,J.hok,rv,q⟩
 cases fl with
 | ret u =>
  obtain ⟨v,σ',H',J,rv,q⟩:=hs
  exact fin J rv q
 | next =>
  obtain ⟨σ',H',J,q⟩:=hs
  exact fin (v:=V.non) (u:=Value.none) J rfl q
 | brk =>
  obtain ⟨_,_,_,q⟩:=hs
  exact False.elim q
 | cont =>
  obtain ⟨_,_,_,q⟩:=hs
  exact False.elim q
end L2
namespace L2
open PySem PySem.Spec PyProof.Rows
section
variable {X:Cx} {x:Str} {p pos:Pos} {e:Expr} {es:List Expr} {t:TA} {id T:String} {r:List V→Hp→VK→Prop}
def tCB (r:List V→Hp→VK→Prop) (t:TA):TE:=fun σ H Q=>t σ H fun vs H1=>r vs H1 Q
theorem pe_callB (hc:CallR X (.builtin id) r) (hg:Gl X x) (hm:X.mg x=none) (hv:bootBuiltins x=some (.builtin id)) (ha:PA X (e :: es) t) (hn:x≠"__name__":=by decide) (hdb:(x == ("__debug__" : Str))=false:=by decide)
  (he:starEach (e :: es) X.env=(false,eval e X.env) :: starEach es X.env:=by rfl) (hpl:(backTo pos (starEach es X.env)).any (·.1)=false:=by rfl):PE X (.Call (.Name x p) (e :: es) [] pos) (tCB r t):=by
 intro pins s σ H Q I h
 refine wpAny_Call_Name_kw (ld_blt I hg hm hv ?_ hn hdb)
 exact PyProof.Rows.callWith_builtin1 (thn (ha pos pins s σ H _ I h) fun us s1 ⟨vs,H1,I1,r1,q1⟩=>hc pins s1 σ H1 vs us Q I1 r1 q1) he hpl
theorem pe_callTy (hc:CallR X (.type T) r) (hg:Gl X x) (hm:X.mg x=none) (hv:bootBuiltins x=some (.type T)) (ha:PA X (e :: es) t) (hn:x≠"__name__":=by decide) (hdb:(x == ("__debug__" : Str))=false:=by decide)
  (he:starEach (e :: es) X.env=(false,eval e X.env) :: starEach es X.env:=by rfl) (hpl:(backTo pos (starEach es X.env)).any (·.1)=false:=by rfl):PE X (.Call (.Name x p) (e :: es) [] pos) (tCB r t):=by
 intro pins s σ H Q I h
 refine wpAny_Call_Name_kw (ld_blt I hg hm hv ?_ hn hdb)
 exact PyProof.Rows.callWith_type1 (thn (ha pos pins s σ H _ I h) fun us s1 ⟨vs,H1,I1,r1,q1⟩=>hc pins s1 σ H1 vs us Q I1 r1 q1) he hpl
end
end L2
namespace HT
open PySem PyProof.Rows
section
open PySem.SeqAt
open PySem.AutoSeq1 (wpAny_loadPart')
open PySem.MeetsSeq PySem.MeetsSeq2 PySem.MeetsSeq3
end
section
variable {prog:Program} {w:World} {A:Around} {E:Value→Shared→Prop} {s:Shared}
def sIx (n d:Nat):Option Int→Nat
 | none=>d
 | some v=>if v < 0 then (v+(n:Int)).toNat else min v.toNat n
theorem sIx_none (n d:Nat):sIx n d none=d:=rfl
theorem sIx_nat (n d k:Nat):sIx n d (some (k:Int))=min k n:=by
 show (if (k:Int) < 0 then ((k:Int)+(n:Int)).toNat else min (k:Int).toNat n)=min k n
 rw [if_neg (by omega),Int.toNat_natCast]
end
end HT
namespace L2
open PySem PySem.Spec PyProof.Rows
abbrev TO:=St→Hp→(Option Int→Hp→Prop)→Prop
def PO (X:Cx) (e:Option Expr) (t:TO):Prop :=
 ∀ (pins:List (Addr × Obj)) (s:Shared) (σ:St) (H:Hp) (Q:Option Int→Hp→Prop),Inv X pins σ H s→t σ H Q →
  wpAny (model X.prog X.w) X.A (evalPart e X.env) (fun u s'=>∃ o H',Inv X pins σ H' s'∧IsPart u o∧Q o H') X.xe s
def tNoPart:TO:=fun _ H Q=>Q none H
def tPart (t:TE):TO:=fun σ H Q=>t σ H fun x H1=>∃ i,x=.int i∧Q (some i) H1
theorem intsAre_of {ns:List Int}:∀ {us:List Value},Vals (ns.map V.int) us→IntsAre us ns:=by
 induction ns with
 | nil=>intro us r; rw [List.map_nil] at r; cases r; exact .nil
 | cons n ns ih =>
  intro us r
  rw [List.map_cons] at r
  cases r with
  | cons r1 r2 =>
   obtain ⟨t,e⟩:=r1
   subst e
   exact .cons n t (ih r2)
section
variable {X:Cx} {e:Expr} {te:TE} {lo hi:Option Expr} {tl th:TO} {pos p2:Pos}
theorem po_none:PO X none tNoPart:=by
 intro pins s σ H Q I h
 rw [evalPart_none]
 exact wpAny_pure ⟨none,H,I,.none,h⟩
theorem po_some (h:PE X e te):PO X (some e) (tPart te):=by
 intro pins s σ H Q I hw
 rw [evalPart_some]
 refine thn (h pins s σ H _ I hw) fun u s1 ⟨x,H1,I1,r1,q1⟩=>?_
 obtain ⟨i,rfl,q⟩:=q1
 obtain ⟨t,rfl⟩:=r1
 exact ⟨some i,H1,I1,.int i t,q⟩
def SlR (X:Cx) (r:V→Option Int→Option Int→Hp→VK→Prop):Prop :=
 ∀ (pins:List (Addr × Obj)) (s:Shared) (σ:St) (H:Hp) (x:V) (v vl vu:Value) (lo hi:Option Int) (sl:Addr) (Q:VK),Inv X pins σ H s→RelV x v→s.heap.IsSliceOf sl vl vu .none→IsPart vl lo→IsPart vu hi→r x lo hi H Q →
  ∃ T id,typeLookup (.type T) "__getitem__" = pure (some (.builtin id))∧s.TypeIs v T∧wpAny (model X.prog X.w) X.A (getItem v (.ref sl)) (EP X pins σ Q) X.xe s
def tSl (r:V→Option Int→Option Int→Hp→VK→Prop) (te:TE) (tl th:TO):TE:=fun σ H Q=>te σ H fun x H1=>tl σ H1 fun l H2=>th σ H2 fun u H3=>r x l u H3 Q
theorem pe_slice {r:V→Option Int→Option Int→Hp→VK→Prop} (hr:SlR X r) (he:PE X e te) (hl:PO X lo tl) (hu:PO X hi th):PE X (.Subscript e (.Slice lo hi none p2) pos) (tSl r te tl th):=by
 intro pins s σ H Q I h
 refine Subscript_ (thn (he pins s σ H _ I h) fun v s1 ⟨x,H1,I1,r1,q1⟩=>?_)
 refine wpAny_Slice (thn (hl pins s1 σ H1 _ I1 q1) fun vl s2 ⟨l,H2,I2,pl,q2⟩=>thn (hu pins s2 σ H2 _ I2 q2) fun vu s3 ⟨u,H3,I3,pu,q3⟩=>?_)
 rw [evalPart_none]
 refine wpAny_pure ?_
 have I4:Inv X pins σ H3 { s3 with heap:=s3.heap.push { cls:=.type "slice",data:=.fields #[vl,vu,.none] } }:=I3.kept (t':=s3.toks) fun b ob q=>Heap.get?_push_of_some _ q
 obtain ⟨T,id,hT,ht,hg⟩:=hr pins { s3 with heap:=s3.heap.push { cls:=.type "slice",data:=.fields #[vl,vu,.none] } } σ H3 x v vl vu l u s3.heap.objs.size Q I4 r1 (Heap.IsSliceOf.new ..) pl pu q3
 show wpAny (model X.prog X.w) X.A (subscriptTail e (.Slice lo hi none p2) v (.ref s3.heap.objs.size)) (EP X pins σ Q) X.xe { s3 with heap:=s3.heap.push { cls:=.type "slice",data:=.fields #[vl,vu,.none] } }
 exact tail_any (ops:=[.ref s3.heap.objs.size,v]) ht hT hg (by with_unfolding_all rfl)
def cutV (xs:List V) (lo hi:Option Int):List V:=(xs.drop (HT.sIx xs.length 0 lo)).take (HT.sIx xs.length xs.length hi - HT.sIx xs.length 0 lo)
theorem cutV_length (xs:List V) (lo hi:Option Int):(cutV xs lo hi).length≤xs.length:=by
 unfold cutV
 rw [List.length_take,List.length_drop]
 omega
end
end L2
namespace L2
open PySem PySem.Spec PyProof.Rows
def ixN (n:Nat) (i:Int):Option Nat:=if 0≤i then (if i < n then some i.toNat else none) else if -(n:Int)≤i then some (i+n).toNat else none
def atI {α:Type} (xs:List α) (i:Int):Option α:=(ixN xs.length i).bind fun j=>xs[j]?
theorem ixN_seq {n:Nat} {i:Int} {j:Nat} (h:ixN n i=some j):seqIndex? i n=some j∧j < n∧-(n:Int)≤i∧i < n:=by
 unfold ixN at h
 by_cases h0:0≤i
 ·rw [if_pos h0] at h
  by_cases h1:i < n
  ·rw [if_pos h1] at h
   have e:i.toNat=j:=Option.some.inj h
   exact ⟨by rw [seqIndex_of h0 h1,e],by omega,by omega,h1⟩
  ·rw [if_neg h1] at h; cases h
 ·rw [if_neg h0] at h
  by_cases h1:-(n:Int)≤i
  ·rw [if_pos h1] at h
   have e:(i+n).toNat=j:=Option.some.inj h
   exact ⟨by rw [seqIndex_neg (by omega) h1,e],by omega,h1,by omega⟩
  ·rw [if_neg h1] at h; cases h
theorem atI_get {α:Type} {xs:List α} {i:Int} {v:α} (h:atI xs i=some v):∃ j,seqIndex? i xs.length=some j∧xs[j]? = some v∧j < xs.length∧-(xs.length:Int)≤i∧i < xs.length:=by
 unfold atI at h
 cases e:ixN xs.length i with
 | none=>rw [e] at h; cases h
 | some j =>
  rw [e] at h
  obtain ⟨h1,h2,h3,h4⟩:=ixN_seq e
  exact ⟨j,h1,h,h2,h3,h4⟩
theorem atI_nat {α:Type} {xs:List α} {j:Nat} {v:α} (h:xs[j]? = some v):atI xs (j:Int)=some v:=by
 have hj:j < xs.length:=(List.getElem?_eq_some_iff.mp h).1
 have e:ixN xs.length (j:Int)=some j:=by
  unfold ixN
  rw [if_pos (by omega),if_pos (by omega)]; simp
 unfold atI; rw [e]; exact h
def PlainIx (b:Expr):Prop:=∀ o i,subscripted b false o i=operate [o,i] (getItem o i)
def IxR (X:Cx) (r:R2):Prop :=
 ∀ (value slice:Expr) (pins:List (Addr × Obj)) (s:Shared) (σ:St) (H:Hp) (x y:V) (v u:Value) (Q:VK),Inv X pins σ H s→RelV x v→RelV y u→r x y H Q →
  subscripted slice false v u=operate [v,u] (getItem v u)→wpAny (model X.prog X.w) X.A (subscriptTail value slice v u) (EP X pins σ Q) X.xe s
def MtR (X:Cx) (id:String) (r:V→List V→Hp→VK→Prop):Prop :=
 ∀ (pins:List (Addr × Obj)) (s:Shared) (σ:St) (H:Hp) (x:V) (xs:List V) (v:Value) (us:List Value) (Q:VK),Inv X pins σ H s→RelV x v→Vals xs us→r x xs H Q →
  wpAny (model X.prog X.w) X.A (call (.builtin id) (v :: us)) (EP X pins σ Q) X.xe s
section
variable {X:Cx} {a b:Expr} {ta tb:TE} {pos:Pos}
theorem pe_ix {r:R2} (hr:IxR X r) (ha:PE X a ta) (hb:PE X b tb) (hs:PlainIx b):PE X (.Subscript a b pos) (tOp r ta tb):=by
 intro pins s σ H Q I h
 exact Subscript_ (binT ha hb I h fun v u s2 x y H2 I2 rx ry q=>hr a b pins s2 σ H2 x y v u Q I2 rx ry q (hs _ _))
def rIxL (K:PySem.W.Frag):R2:=fun x y H Q=>∃ p xs i v,x=.ref p∧y=.int i∧SqL K H p xs∧atI xs i=some v∧Q v H
def rIxT (K:PySem.W.Frag):R2:=fun x y H Q=>∃ p xs i v,x=.ref p∧y=.int i∧SqT K H p xs∧atI xs i=some v∧Q v H
theorem ix_list:IxR X (rIxL X.K):=by
 intro value slice pins s σ H x y v u Q I rx ry h hs
 obtain ⟨p,xs,i,z,rfl,rfl,hq,he,q⟩:=h
 cases rx
 obtain ⟨t,rfl⟩:=ry
 obtain ⟨its,r,pl,hz⟩:=I.list hq
 obtain ⟨j,h1,h2,h3,h4,h5⟩:=atI_get he
 obtain ⟨w,ew,rw'⟩:=r.get h2
 have hl:=r.length
 have hn:=line63
 have fin:EP X pins σ Q w s:=⟨z,H,I,rw',q⟩
 by_cases h0:0≤i
 ·have hj:i.toNat=j:=by
   rw [seqIndex_of h0 h5] at h1
   exact Option.some.inj h1
  exact item_listR pl.isList h0 (by omega) (by rw [hj]; simpa using ew) fin hs
 ·have hj:(i+(its.toArray.size:Int)).toNat=j:=by
   rw [seqIndex_neg (by omega) h4] at h1
   rw [List.size_toArray,←hl]
   exact Option.some.inj h1
  exact subscriptTail_builtinR (x:=w) pl.isList.typeIs slot_list_getitem.lookup
   (wpAny_getItem_list_neg (Q:=fun r s'=>r=w∧EP X pins σ Q r s') pl.isList (by omega) (by rw [List.size_toArray] <;> omega) (by omega) (by rw [hj]; simpa using ew) ⟨rfl,fin⟩) hs
theorem ix_tup:IxR X (rIxT X.K):=by
 intro value slice pins s σ H x y v u Q I rx ry h hs
 obtain ⟨p,xs,i,z,rfl,rfl,hq,he,q⟩:=h
 cases rx
 obtain ⟨t,rfl⟩:=ry
 obtain ⟨its,r,pl,hz⟩:=I.tuple hq
 obtain ⟨j,h1,h2,h3,h4,h5⟩:=atI_get he
 obtain ⟨w,ew,rw'⟩:=r.get h2
 have hl:=r.length
 have hn:=line63
 have fin:EP X pins σ Q w s:=⟨z,H,I,rw',q⟩
 exact subscriptTail_builtinR (x:=w) pl.typeIs slot_tuple_getitem.lookup
  (getItem_tuple (j:=j) (Q:=fun r s'=>r=w∧EP X pins σ Q r s') pl (by omega) (by omega) (by rw [List.size_toArray,←hl]; exact h1) (by simpa using ew) ⟨rfl,fin⟩) hs
theorem mapSeq_set (its:List Value) (n j:Nat) (u:Value):Obj.mapSeq (·.setIfInBounds j u) { cls:=.type "list",data:=.seq its.toArray n }={ cls:=.type "list",data:=.seq (its.set j u).toArray n }:=by
 simp [Obj.mapSeq]
theorem Inv.lst {pins:List (Addr × Obj)} {σ:St} {H:Hp} {s:Shared} {p:Addr} {xs:List V} (I:Inv X pins σ H s) (h:H p=some (.lst xs)) :
  ∃ (its:List Value) (n:Nat),Vals xs its∧s.heap.get? p=some { cls:=.type "list",data:=.seq its.toArray n }∧xs.length≤sizeLine:=by
 obtain ⟨z,its,n,r,e⟩:=I.hok p _ h
 exact ⟨its,n,r,e,z⟩
theorem Inv.lstUpd {pins:List (Addr × Obj)} {σ:St} {H:Hp} {s:Shared} {p:Addr} {xs ys:List V} {its its':List Value} {n n':Nat} {f:Obj→Obj} (I:Inv X pins σ H s) (h:H p=some (.lst xs))
  (ho:s.heap.get? p=some { cls:=.type "list",data:=.seq its.toArray n }) (hf:f { cls:=.type "list",data:=.seq its.toArray n }={ cls:=.type "list",data:=.seq its'.toArray n' }) (r:Vals ys its') (hz:ys.length≤sizeLine) (t:Nat) :
  Inv X pins σ (upd H p (.lst ys)) { s with heap:=s.heap.update p f,toks:=t }:=by
 have e:(s.heap.update p f).get? p=some { cls:=.type "list",data:=.seq its'.toArray n' }:=by
  rw [Heap.get?_update_self f ho (by rw [hf] <;> rfl),hf]
 refine I.write (x:=p) (e:=p) (by rw [h]; trivial) (.inl rfl) (fun b u hb q=>(Heap.get?_update_other _ _ (Ne.symm hb)).trans q) ⟨_,e⟩ ?_
 exact ⟨hz,its',n',r,e⟩
def rSetL:V→V→V→Hp→(Hp→Prop)→Prop:=fun o i v H Q=>∃ p xs k j,o=.ref p∧i=.int k∧H p=some (.lst xs)∧ixN xs.length k=some j∧Q (upd H p (.lst (xs.set j v)))
theorem set_list:PSet X rSetL:=by
 intro pins s σ H o i v ov iv u Q I ro ri rv h
 obtain ⟨p,xs,k,j,rfl,rfl,hp,hj,q⟩:=h
 cases ro
 obtain ⟨t,rfl⟩:=ri
 obtain ⟨its,n,r,ho,hz⟩:=I.lst hp
 obtain ⟨h1,h2,h3,h4⟩:=ixN_seq hj
 have hl:=r.length
 have hn:=line63
 have I':Inv X pins σ (upd H p (.lst (xs.set j v))) { s with heap:=s.heap.update p (Obj.mapSeq (·.setIfInBounds j u)) } :=
  I.lstUpd hp ho (mapSeq_set its n j u) (r.set rv j) (by rw [List.length_set]; exact hz) s.toks
 by_cases h0:0≤k
 ·have hk:k.toNat=j:=by
   rw [seqIndex_of h0 h4] at h1
   exact Option.some.inj h1
  exact PySem.W.ki_setAt ho h0 (by omega) (by rw [List.size_toArray,←hl]; exact h4) (by rw [hk]; exact ⟨_,I',q⟩)
 ·have hk:(k+(its.toArray.size:Int)).toNat=j:=by
   rw [seqIndex_neg (by omega) h3] at h1
   rw [List.size_toArray,←hl]
   exact Option.some.inj h1
  exact PySem.W.ki_setBack ho (by omega) (by rw [List.size_toArray,←hl]; exact h3) (by omega) (by rw [hk]; exact ⟨_,I',q⟩)
theorem slice_bounds (lo hi:Option Int) (n:Nat):(sliceBounds lo hi none n).1=((HT.sIx n 0 lo:Nat):Int)∧(sliceBounds lo hi none n).2.1=((HT.sIx n n hi:Nat):Int)∧(sliceBounds lo hi none n).2.2=1:=by
 refine ⟨?_,?_,rfl⟩
 ·cases lo with
  | none=>simp [sliceBounds,HT.sIx]
  | some i =>
   simp only [sliceBounds,HT.sIx,Option.getD_none,show (1:Int) > 0 by decide,if_true]
   by_cases h:i < 0
   ·simp only [h,if_true] <;> omega
   ·simp only [h,if_false] <;> omega
 ·cases hi with
  | none=>simp [sliceBounds,HT.sIx]
  | some i =>
   simp only [sliceBounds,HT.sIx,Option.getD_none,show (1:Int) > 0 by decide,if_true]
   by_cases h:i < 0
   ·simp only [h,if_true] <;> omega
   ·simp only [h,if_false] <;> omega
theorem slicePick_cut (its:List Value) (lo hi:Option Int):slicePick its.toArray lo hi none=((its.drop (HT.sIx its.length 0 lo)).take (HT.sIx its.length its.length hi - HT.sIx its.length 0 lo)).toArray:=by
 obtain ⟨h1,h2,h3⟩:=slice_bounds lo hi its.toArray.size
 unfold slicePick
 rw [h1,h2,h3]
 simp only [sliceRange_one,pick_run,List.size_toArray] <;> rfl
def rSlL (K:PySem.W.Frag):V→Option Int→Option Int→Hp→VK→Prop:=fun x lo hi H Q=>∃ a xs,x=.ref a∧SqL K H a xs∧∀ p,H p=none→Q (.ref p) (upd H p (.lst (cutV xs lo hi)))
theorem sl_list:SlR X (rSlL X.K):=by
 intro pins s σ H x v vl vu lo hi sl Q I rx hs pl pu h
 obtain ⟨a,xs,rfl,hx,q⟩:=h
 cases rx
 obtain ⟨its,r,ht,hz⟩:=I.list hx
 have hlen:=r.length
 refine ⟨"list",_,slot_list_getitem.lookup,ht.isList.typeIs,?_⟩
 refine wpAny_getItem_list_slice ht.isList hs pl pu .none (by simp) ?_ (by rw [List.size_toArray] <;> omega)
 rw [slicePick_cut,←hlen]
 refine ⟨.ref s.heap.objs.size,_,I.laid (t':=s.toks) (o:=.lst (cutV xs lo hi)) (fun b ob q=>Heap.get?_push_of_some _ q) (Nat.le_refl _) ?_,rfl,q _ (I.hok.fresh (Nat.le_refl _))⟩
 exact ⟨Nat.le_trans (cutV_length xs lo hi) hz,_,0,(r.drop (HT.sIx xs.length 0 lo)).take (HT.sIx xs.length xs.length hi - HT.sIx xs.length 0 lo),Heap.get?_push_size _ rfl⟩
theorem call_len_seq:CallR X (.builtin "len") (fun xs H Q=>∃ p ys,xs=[.ref p]∧(SqL X.K H p ys ∨ SqT X.K H p ys)∧Q (.int ys.length) H):=by
 intro pins s σ H xs us Q I r h
 obtain ⟨p,ys,rfl,hq,q⟩:=h
 obtain ⟨u,rfl,rx⟩:=vals1 r
 cases rx
 have hn:=line63
 rcases hq with hq | hq
 ·obtain ⟨its,r',pl,hz⟩:=I.list hq
  have hlen:=r'.length
  exact Calls.call_len_list pl.isList (by simp only [List.size_toArray] <;> omega) ⟨.int ys.length,H,I.tok _,⟨s.toks+1,by rw [List.size_toArray,hlen]⟩,q⟩
 ·obtain ⟨its,r',pl,hz⟩:=I.tuple hq
  have hlen:=r'.length
  exact len_tuple pl (by simp only [List.size_toArray] <;> omega) ⟨.int ys.length,H,I.tok _,⟨s.toks+1,by rw [List.size_toArray,hlen]⟩,q⟩
def tyV (K:PySem.W.Frag) (T:String) (x:V) (H:Hp):Prop:=match x with
 | .str _=>T = "str"
 | .int _=>T = "int"
 | .ref p=>(T = "list"∧∃ xs,SqL K H p xs) ∨ (T = "tuple"∧∃ o,K.lookup p=some o∧o.cls=.type "tuple"∧o.dict=none) ∨
   (T = "dict"∧((∃ kvs,H p=some (.dK kvs)) ∨ ∃ kvs,H p=some (.dT kvs))) ∨ (T = "set"∧∃ S n,H p=some (.set S n))
 | _=>False
theorem tyV_is {pins:List (Addr × Obj)} {σ:St} {H:Hp} {s:Shared} {T:String} {x:V} {v:Value} (I:Inv X pins σ H s) (r:RelV x v) (ty:tyV X.K T x H) :
  s.TypeIs v T∧∀ a,v=.ref a→∃ ob,s.heap.get? a=some ob∧ob.dict=none:=by
 cases x with
 | str z =>
  obtain ⟨t,rfl⟩:=r
  cases (show T = "str" from ty)
  exact ⟨typeIs_str s z t,fun _ e=>nomatch e⟩
 | int i =>
  obtain ⟨t,rfl⟩:=r
  cases (show T = "int" from ty)
  exact ⟨typeIs_int s i t,fun _ e=>nomatch e⟩
 | ref p =>
  cases r
  rcases ty with ⟨rfl,xs,hq⟩ | ⟨rfl,o,hk,hc,hd⟩ | ⟨rfl,hk⟩ | ⟨rfl,S,n,hk⟩
  ·obtain ⟨its,_,pl,_⟩:=I.list hq
   refine ⟨pl.isList.typeIs,fun a e=>?_⟩
   cases e
   obtain ⟨o,n,e,c,hd,_⟩:=pl
   exact ⟨o,e,hd⟩
  ·refine ⟨⟨o,I.kIn p o hk,hc⟩,fun a e=>?_⟩
   cases e
   exact ⟨o,I.kIn _ o hk,hd⟩
  ·have z:∃ o,s.heap.get? p=some o∧o.ExactDict:=by
    rcases hk with ⟨kvs,hk⟩ | ⟨kvs,hk⟩
    ·obtain ⟨_,_,_,_,o,_,_,e,ex,_⟩:=I.hok p _ hk
     exact ⟨o,e,ex⟩
    ·obtain ⟨_,_,_,_,o,_,_,e,ex,_⟩:=I.hok p _ hk
     exact ⟨o,e,ex⟩
   obtain ⟨o,e,ex⟩:=z
   refine ⟨⟨o,e,ex.1⟩,fun a e2=>?_⟩
   cases e2
   exact ⟨o,e,ex.2.1⟩
  ·obtain ⟨o,_,_,_,e,ex,_⟩:=I.hok p _ hk
   refine ⟨⟨o,e,ex.1⟩,fun a e2=>?_⟩
   cases e2
   exact ⟨o,e,ex.2.1⟩
 | _=>exact False.elim ty
def tBM0 (K:PySem.W.Frag) (T:String) (r:V→List V→Hp→VK→Prop) (to:TE):TE:=fun σ H Q=>to σ H fun x H1=>tyV K T x H1∧r x [] H1 Q
def tBM (K:PySem.W.Frag) (T:String) (r:V→List V→Hp→VK→Prop) (to:TE) (t:TA):TE:=fun σ H Q=>to σ H fun x H1=>tyV K T x H1∧t σ H1 fun xs H2=>r x xs H2 Q
variable {o e:Expr} {es:List Expr} {to:TE} {t:TA} {name:Str} {apos cpos:Pos} {T id:String} {r:V→List V→Hp→VK→Prop}
theorem pe_bm0 (pa:PlainAttrs T) (slot:Slot T name id) (hty:typeOf (.builtin id)=pure (.type "method_descriptor")) (hm:MtR X id r) (ho:PE X o to)
  (hbase:attributeBase o name X.env (eval o X.env)=eval o X.env:=by rfl) (hline:(apos.endLine == cpos.line)=true:=by rfl):PE X (.Call (.Attribute o name apos) [] [] cpos) (tBM0 X.K T r to):=by
 intro pins s σ H Q I h
 refine wpAny_Call_method0_late hbase hline (thn (ho pins s σ H _ I h) fun v s1 ⟨x,H1,I1,r1,ty,q1⟩=>?_)
 obtain ⟨h1,h2⟩:=tyV_is I1 r1 ty
 exact ⟨T,id,pa,slot,hty,h1,h2,Calls.callWith_builtin rfl (PySem.evalArgs_none (hm pins s1 σ H1 x [] v [] Q I1 r1 .nil q1))⟩
theorem pe_bm (pa:PlainAttrs T) (slot:Slot T name id) (hty:typeOf (.builtin id)=pure (.type "method_descriptor")) (hm:MtR X id r) (ho:PE X o to) (ha:PA X (e :: es) t)
  (hbase:attributeBase o name X.env (eval o X.env)=eval o X.env:=by rfl)
  (hfew:((backTo cpos (starEach (e :: es) X.env)).all (fun x=>!x.1) && (backToKw cpos (keywordEach [] X.env)).all (fun x=>x.1.isSome)
   && decide ((e :: es).length+([]:List Keyword).length+(if ([]:List Keyword).isEmpty then 0 else 1) < 30))=true:=by rfl)
  (hline:(apos.endLine == cpos.line)=true:=by rfl) (hs:starEach (e :: es) X.env=(false,eval e X.env) :: starEach es X.env:=by rfl) (hplain:(backTo cpos (starEach es X.env)).any (·.1)=false:=by rfl) :
  PE X (.Call (.Attribute o name apos) (e :: es) [] cpos) (tBM X.K T r to t):=by
 intro pins s σ H Q I h
 refine wpAny_Call_method_late hbase hfew hline rfl (thn (ho pins s σ H _ I h) fun v s1 ⟨x,H1,I1,r1,ty,q1⟩=>?_)
 obtain ⟨h1,h2⟩:=tyV_is I1 r1 ty
 refine ⟨T,id,pa,slot,hty,h1,h2,?_⟩
 have hA:=ha cpos pins s1 σ H1 _ I1 q1
 rw [hs] at hA ⊢
 refine Calls.callWith_builtin (by show (false || (backTo cpos (starEach es X.env)).any (·.1))=false; rw [hplain] <;> rfl) (Calls.evalArgs_plain ?_)
 exact thn hA fun us s2 ⟨vs,H2,I2,r2,q2⟩=>hm pins s2 σ H2 x vs v us Q I2 r1 r2 q2
end
end L2
namespace L2
open PySem PySem.Spec PyProof.Rows
def MtM (X:Cx) (id:String) (r:V→List V→Hp→VK→Prop):Prop :=
 ∀ (pins:List (Addr × Obj)) (s:Shared) (σ:St) (H:Hp) (x:V) (xs:List V) (v:Value) (us:List Value) (Q:VK),Inv X pins σ H s→RelV x v→Vals xs us→r x xs H Q →
  wpAny (model X.prog X.w) X.A (call (.builtin id) (v :: us)) (EP X pins σ Q) X.xe s
theorem Vals.one:∀ {x:V} {us:List Value},Vals [x] us→∃ u,us=[u]∧RelV x u
 | _,_,.cons r .nil=>⟨_,rfl,r⟩
theorem Vals.two:∀ {x y:V} {us:List Value},Vals [x,y] us→∃ u v,us=[u,v]∧RelV x u∧RelV y v
 | _,_,_,.cons r (.cons q .nil)=>⟨_,_,rfl,r,q⟩
theorem Vals.rep {xs:List V} {us:List Value} (h:Vals xs us):∀ k:Nat,Vals (List.replicate k xs).flatten (List.replicate k us).flatten
 | 0=>.nil
 | k+1=>by
  rw [List.replicate_succ,List.replicate_succ,List.flatten_cons,List.flatten_cons]
  exact Vals.append h (Vals.rep h k)
theorem foldl_rep (its:List Value):∀ (k:Nat) (acc:List Value),
  List.foldl (fun x1 x2=>x1++x2) acc.toArray (List.replicate k its.toArray)=(acc++(List.replicate k its).flatten).toArray
 | 0,acc=>by simp
 | k+1,acc=>by
  have e:acc.toArray++its.toArray=(acc++its).toArray:=by simp
  have e2:(acc++its)++(List.replicate k its).flatten=acc++(List.replicate (k+1) its).flatten:=by
   rw [List.replicate_succ,List.flatten_cons,List.append_assoc]
  rw [←e2,←foldl_rep its k (acc++its),←e,List.replicate_succ,List.foldl_cons]
section
variable {X:Cx} {pins:List (Addr × Obj)} {σ:St} {H:Hp} {s:Shared} {l b:Addr} {xs ys zs:List V}
theorem Inv.lset {its its':List Value} {n:Nat} {f:Array Value→Array Value} {t':Nat} (I:Inv X pins σ H s) (hH:H l=some (.lst xs))
  (e:s.heap.get? l=some { cls:=.type "list",data:=.seq its.toArray n }) (hf:f its.toArray=its'.toArray) (hv:Vals ys its') (hz:ys.length≤sizeLine) :
  Inv X pins σ (upd H l (.lst ys)) { s with heap:=s.heap.update l (Obj.mapSeq f),toks:=t' }:=by
 have q:=PySem.IsL.update e f
 rw [hf] at q
 refine I.write (x:=l) (e:=l) (by rw [hH]; exact trivial) (.inl rfl) (fun b' u hb hu=>(Heap.get?_update_other s.heap (Obj.mapSeq f) (Ne.symm hb)).trans hu) ⟨_,q⟩ ?_
 exact ⟨hz,its',_,hv,q⟩
theorem Inv.lnew {its:List Value} {t':Nat} (I:Inv X pins σ H s) (hv:Vals ys its) (hz:ys.length≤sizeLine) :
  Inv X pins σ (upd H s.heap.objs.size (.lst ys)) { s with heap:=s.heap.push { cls:=.type "list",data:=.seq its.toArray },toks:=t' } :=
 I.laid (fun _ _ q=>Heap.get?_push_of_some _ q) (Nat.le_refl _) ⟨hz,its,0,hv,Heap.get?_push_size _ rfl⟩
theorem Inv.fresh (I:Inv X pins σ H s):H s.heap.objs.size=none:=I.hok.fresh (Nat.le_refl _)
theorem Inv.lstM (I:Inv X pins σ H s) (hH:H l=some (.lst xs)):xs.length≤sizeLine∧∃ (its:List Value) (n:Nat),Vals xs its∧xs.length=its.length∧s.heap.get? l=some { cls:=.type "list",data:=.seq its.toArray n }:=by
 obtain ⟨z,its,n,r,e⟩:=I.hok l _ hH
 exact ⟨z,its,n,r,r.length,e⟩
theorem notLongL {n:Nat} (h:n≤sizeLine):Builtin.List.listTooLong n=false:=by
 unfold Builtin.List.listTooLong
 exact decide_eq_false (by omega)
end
section
variable {X:Cx}
def rAppend:V→List V→Hp→VK→Prop:=fun x vs H Q=>∃ l xs y,x=.ref l∧vs=[y]∧H l=some (.lst xs)∧xs.length < sizeLine∧Q .non (upd H l (.lst (xs++[y])))
theorem mt_append:MtM X "list.append" rAppend:=by
 intro pins s σ H x vs v us Q I rx rv h
 obtain ⟨l,xs,y,rfl,rfl,hH,hz,q⟩:=h
 cases rx
 obtain ⟨u,rfl,ru⟩:=rv.one
 obtain ⟨z,its,n,r,hl,e⟩:=I.lstM hH
 refine call_meets F.slot_list_append ⟨_,e,rfl⟩ F.entry_list_append (F.args_list_append_2 _ _) (PySem.list_append l its.toArray n u (by rw [List.size_toArray]; omega)) ⟨e,?_⟩
 refine ⟨.non,_,I.lset (its':=its++[u]) hH e (by simp) (r.append (.cons ru .nil)) ?_,rfl,q⟩
 rw [List.length_append,List.length_singleton]
 omega
def rCat:R2:=fun x y H Q=>∃ l b xs zs,x=.ref l∧y=.ref b∧H l=some (.lst xs)∧H b=some (.lst zs)∧xs.length+zs.length≤sizeLine∧∀ p,H p=none→Q (.ref p) (upd H p (.lst (xs++zs)))
theorem op_cat:OpR X (binaryOp .Add) rCat:=by
 intro pins s σ H x y v u Q I rx ry h
 obtain ⟨l,b,xs,zs,rfl,rfl,hH,hB,hz,q⟩:=h
 cases rx
 cases ry
 obtain ⟨z,its,n,r,hl,e⟩:=I.lstM hH
 obtain ⟨z2,its2,n2,r2,hl2,e2⟩:=I.lstM hB
 refine PySem.P.add_list e e2 ?_ (by rw [List.size_toArray,List.size_toArray]; omega)
 have ea:its.toArray++its2.toArray=(its++its2).toArray:=by simp
 rw [ea]
 exact ⟨.ref _,_,I.lnew (t':=s.toks) (r.append r2) (by rw [List.length_append]; omega),rfl,q _ I.fresh⟩
def rRep:R2:=fun x y H Q=>∃ l k xs,x=.ref l∧y=.int k∧H l=some (.lst xs)∧-(2 ^ 63)≤k∧k < 2 ^ 63∧xs.length * k.toNat≤sizeLine ∧
 ∀ p,H p=none→Q (.ref p) (upd H p (.lst (List.replicate k.toNat xs).flatten))
theorem len_rep {α:Type} (xs:List α) (k:Nat):(List.replicate k xs).flatten.length=k * xs.length:=by
 induction k with
 | zero=>simp
 | succ k ih=>rw [List.replicate_succ,List.flatten_cons,List.length_append,ih,Nat.succ_mul,Nat.add_comm]
theorem op_rep:OpR X (binaryOp .Mult) rRep:=by
 intro pins s σ H x y v u Q I rx ry h
 obtain ⟨l,k,xs,rfl,rfl,hH,h1,h2,hz,q⟩:=h
 cases rx
 obtain ⟨t,rfl⟩:=ry
 obtain ⟨z,its,n,r,hl,e⟩:=I.lstM hH
 have hlen:its.toArray.size * k.toNat≤sizeLine:=by rw [List.size_toArray,←hl]; exact hz
 have hcap:¬ its.toArray.size * k.toNat > (2 ^ 63 - 1) / 8:=by
  have:(sizeLine:Nat)≤(2 ^ 63 - 1) / 8:=by decide
  omega
 have hfit:¬ (!Builtin.List.listFitsIndex k)=true:=by
  rw [fitsIndex_both h1 h2]
  exact Bool.false_ne_true
 have hlong:¬ Builtin.List.listTooLong (its.toArray.size * k.toNat)=true:=by
  rw [notLongL hlen]
  exact Bool.false_ne_true
 have hnew:List.foldl (fun x1 x2=>x1++x2) #[] (List.replicate (if its.toArray.isEmpty=true then 0 else k.toNat) its.toArray)=(List.replicate k.toNat its).flatten.toArray:=by
  have f0:∀ m:Nat,List.foldl (fun x1 x2=>x1++x2) #[] (List.replicate m its.toArray)=(List.replicate m its).flatten.toArray:=fun m=>by
   have:=foldl_rep its m []
   rw [List.nil_append] at this
   exact this
  rw [f0]
  cases its with
  | nil=>simp
  | cons a r'=>rw [if_neg (by simp)]
 refine wpAny_binaryOp_repeat_ref (T:="list") (U:="int") (by decide) ⟨_,e,rfl⟩ (fun s'=>typeIs_int s' k t) noFill_list_mul F.fills_int_mul F.slot_int_rmul repeat_list F.slot_int_index.lookup
  (call_meets F.slot_int_rmul (typeIs_int s k t) F.entry_int_rmul (F.args_int_rmul_2 _ _) (int___rmul___int_list k t l its.toArray n)
   ⟨e,rfl,⟨_,e,rfl⟩,call_meets F.slot_list_mul ⟨_,e,rfl⟩ F.entry_list_mul (F.args_list_mul_2 _ _) (AutoListH.list___mul___list_int_3 l its.toArray n k t hfit hcap hlong) ⟨e,?_⟩⟩)
 rw [hnew]
 exact ⟨.ref _,_,I.lnew (t':=s.toks) (r.rep k.toNat) (by rw [len_rep,Nat.mul_comm]; exact hz),rfl,q _ I.fresh⟩
end
section
variable {prog:Program} {w:World} {A:Around} {E:Value→Shared→Prop} {s:Shared}
end
section
variable {X:Cx}
end
end L2
namespace Att
open PySem PySem.W PySem.Calls PyProof.Rows
theorem ints_of_wellAll {P:Params} {h:Heap}:∀ (ns:List Int) (vs:List Value),WellAll P h vs (ns.map WData.int)→IntsAre vs ns:=by
 intro ns
 induction ns with
 | nil =>
  intro vs w
  rw [List.map_nil] at w
  cases w
  exact .nil
 | cons n ns ih =>
  intro vs w
  rw [List.map_cons] at w
  cases w with
  | cons a b =>
   cases a
   exact .cons _ _ (ih _ b)
theorem script_of {l:OpenLaw} {n:Nat} (hn:l.most=some n) {P:Params} {h:Heap} {args:List WData} {vals:List Value}
  (hpre:l.row.toRowW.claim.pre args=true) (hwl:WellAll P h vals args) :
  ∃ a vs ns,vals=[Value.ref a]∧args=[WData.list (ns.map WData.int)]∧h.get? a=some { cls:=.type "list",data:=.seq vs.toArray }∧IntsAre vs ns∧ns.length≤n:=by
 have hsh:WShape.hasAll [] args [.list .int]=true:=(pre_splitW hpre).1
 have hc:l.pre.holds [] { args:=args }=true:=(pre_splitW hpre).2
 obtain ⟨d,r,rfl,h1,h2⟩:=hasAllW_cons hsh
 obtain rfl:=hasAllW_nil h2
 obtain ⟨xs,rfl,h3⟩:=hasW_list h1
 obtain ⟨ns,rfl⟩:=items_int h3
 have hlen:ns.length≤n:=by
  unfold OpenLaw.pre at hc
  have h4:(WTm.not (.lt (.lit (.int (n:Int))) (.len (.arg 0)))).holds [] { args:=[.list (ns.map .int)] }=true:=by
   have h4:=(holds_andW hc).1
   rw [hn] at h4
   exact h4
  have h5:=condW_of h4 (w_not (w_lt w_lit (w_len_list (w_arg rfl))))
  rw [List.length_map] at h5
  refine Nat.le_of_not_lt fun q=>?_
  have q':(n:Int) < ((ns.length:Nat):Int):=by omega
  first
   | (rw [decide_eq_true q'] at h5; exact absurd h5 (by decide))
   | (simp at h5; omega)
 cases hwl with
 | cons w1 w2 =>
  cases w2
  cases w1 with
  | list ho hall=>exact ⟨_,_,ns,rfl,rfl,ho,ints_of_wellAll ns _ hall,hlen⟩
theorem post_true (l:OpenLaw) (args:List WData):l.row.toRowW.claim.post args (.bool true) args=true :=
 postW_of (r:=l.row.toRowW) (X:=(true == true))
  (show WShape.has [] (.bool true) .bool=true by first | rfl | decide | simp [WShape.has,WShape.arms,WShape.armsAll])
  (show (WTm.eq .res (.lit (.bool true))).value [] { args:=args,res:=some (.bool true),after:=args }=some (.bool (true == true)) from w_eq_bool (w_res rfl) w_lit) rfl
theorem attach_call {l:OpenLaw} {n:Nat} {q:Program} {loose:List Str} {XP:(Str→Option Value)→Heap→Prop} {YP:World→Heap→Prop} {d:DefRec}
  (hn:l.most=some n) (hdf:d.params.defaults=[])
  (call:∀ (w:World) (s₀ s₁:Shared) (mg mb:Str→Option Value) (fa:Addr) (o:Obj) (pm cd doc:Value) (a:Addr) (vs:List Value) (ns:List Int),
   Ground q loose [] XP w s₀ mg mb s₁.heap→YP w s₁.heap →
   s₁.heap.get? fa=some o→o.data=.func (docDef d.name d.params d.body d.scope pm cd doc)→s₁.heap.CodeRec cd d.name→mg d.name=some (.ref fa) →
   s₁.heap.get? a=some { cls:=.type "list",data:=.seq vs.toArray }→IntsAre vs ns→ns.length≤n→s₁.gens=#[] →
   codeAny (model l.prog w) callerA (.call (.ref fa) ⟨[.ref a],[]⟩) (fun r s'=>r=.ok (.ret (.bool true))∧OldK s₁.heap s'.heap∧s'.os=s₁.os∧AllBare s'.gens) s₁) :
  WalkO q loose XP YP l.row.toRowW d [] (fun f vs=>PySem.call f vs):=by
 intro w s₀ s₁ mg mb G Y fa o pm cd doc dV kV ho hd hcd hD hmg hg args vals as hpre hlay hrd hwl hlo
 obtain rfl:dV=.none:=Dflts.none hD hdf
 obtain rfl:kV=.none:=Dflts.noKw hD
 obtain ⟨a,vs,ns,rfl,rfl,hobj,hints,hlen⟩:=script_of hn hpre hwl
 refine enter_call (codeAny_mono (call w s₀ s₁ mg mb fa o pm cd doc a vs ns G Y ho (fd_plain hd) hcd hmg hobj hints hlen hg) fun r s' hq=>?_)
 obtain ⟨rfl,h2,h3,h4⟩:=hq
 exact ⟨.inl ⟨.bool true,.bool true,[],rfl,fun _=>rfl,.bool true,post_true l _,fun _=>⟨List.Pairwise.nil,fun _ hm=>(nomatch hm)⟩⟩,h2,h3,h4⟩
section
variable {prog:Program} {w:World} {A:Around} {E:Value→Shared→Prop} {s:Shared} {K:Frag}
end
end Att
namespace L2
open PySem PySem.Spec PyProof.Rows
theorem vals_ints:∀ {vs:List Value} {ns:List Int},IntsAre vs ns→Vals (ns.map V.int) vs
 | _,_,.nil=>.nil
 | _,_,.cons n t h=>.cons ⟨t,rfl⟩ (vals_ints h)
end L2
namespace L2
open PySem PySem.Spec PyProof.Rows
end L2
namespace L2
open PySem PySem.Spec PyProof.Rows
def defArgs (s:Stmt):Arguments:=match s with
 | .FunctionDef _ a _ _ _ _ _ _ _ _=>a
 | _=>{ posonlyargs:=[],args:=[],vararg:=none,kwonlyargs:=[],kw_defaults:=[],kwarg:=none,defaults:=[] }
def defBody (s:Stmt):List Stmt:=match s with
 | .FunctionDef _ _ b _ _ _ _ _ _ _=>b
 | _=>[]
def defScope (s:Stmt):Scope:=match s with
 | .FunctionDef _ _ _ _ _ _ sc _ _ _=>sc
 | _=>{ kind:=.function,names:=[],isGenerator:=false,isCoroutine:=false }
abbrev CX0:CXT:=fun _ _ _ _ _ _=>False
abbrev E0:XK:=fun _ _ _=>False
theorem pass0 {X:Cx}:Passes CX0 X E0:=fun _ _ _ _ _ _ _ h=>h.elim
structure Fun (K:PySem.W.Frag) (x qual:Str) (st:Stmt) (f:Addr) (fd:FuncData):Prop where
 ex:∃ (oc:Value) (od:Option Addr) (kV doc pm:Value) (an:Option Addr) (cdv ct:Value) (osl:Array (Option Value)),
  fd=PySem.W.fnOf x qual (defArgs st) (defBody st) (defScope st) .none kV doc pm an cdv ct∧K.lookup f=some ⟨oc,od,.func fd,osl⟩∧PySem.W.codeIn K cdv qual=true
 kp:PySem.W.keepIn K (.ref f)=true
section
variable {P:Program} {w:World} {K:PySem.W.Frag} {mg:Str→Option Value} {base:Heap}
theorem Fun.ok {x qual:Str} {st:Stmt} {f:Addr} {fd:FuncData} {N ps:List Str} {k:Nat} {sp:Sp} (F:Fun K x qual st f fd) (S:FnScope N ps (defScope st)) (len:∀ vs H Q E,sp vs H Q E→vs.length=ps.length)
  (hbody:∀ (cdv:Value) (A:Around) (outer:List Env) (s:Shared) (H:Hp) (vs:List V) (Q:VK) (E:XK),Room k (A.deeper (envOfC qual (defScope st) s.heap.objs.size f cdv))→sp vs H Q E →
   ∃ t,PSs (cxOf CX0 P w K mg base N qual (defScope st) f cdv A outer s H E).nox (defBody st) t∧t { nx:=fun _ H'=>Q .non H',rt:=Q } (start N vs) H):FnOk P w K mg base CX0 (k+1) f fd ps sp:=by
 obtain ⟨oc,od,kV,doc,pm,an,cdv,ct,osl,rfl,lk,hcd⟩:=F.ex
 refine fn_of lk hcd S len fun A outer s H vs Q E hr hsp=>?_
 obtain ⟨t,h,q⟩:=hbody cdv A outer s H vs Q E hr hsp
 exact ⟨t,h.nox,q⟩
theorem Fun.binds {x qual:Str} {st:Stmt} {f:Addr} {fd:FuncData} {ps:List Str} (F:Fun K x qual st f fd)
  (h:∀ (kV doc pm:Value) (an:Option Addr) (cdv ct:Value) (us:List Value),us.length=ps.length→bindArgs (PySem.W.fnOf x qual (defArgs st) (defBody st) (defScope st) .none kV doc pm an cdv ct) ⟨us,[]⟩=pure (ps.zip us)):Binds K fd ps []:=by
 obtain ⟨oc,od,kV,doc,pm,an,cdv,ct,osl,rfl,lk,hcd⟩:=F.ex
 exact .all (h kV doc pm an cdv ct)
theorem fun_mk {x qual:Str} {st:Stmt} {f:Addr} {oc:Value} {od an:Option Addr} {osl:Array (Option Value)} {kV doc pm cdv ct:Value} (l:K.lookup f=some ⟨oc,od,.func (PySem.W.fnOf x qual (defArgs st) (defBody st) (defScope st) .none kV doc pm an cdv ct),osl⟩)
  (c:PySem.W.codeIn K cdv qual=true) (k:PySem.W.keepIn K (.ref f)=true):Fun K x qual st f (PySem.W.fnOf x qual (defArgs st) (defBody st) (defScope st) .none kV doc pm an cdv ct):=⟨⟨oc,od,kV,doc,pm,an,cdv,ct,osl,rfl,l,c⟩,k⟩
end
theorem hu_of {A:Around} {k:Nat} (hr:Room k A):A.units+1 < cLine:=Nat.lt_of_le_of_lt (Nat.add_le_add_left (by decide:1≤64) _) hr.units
theorem small1000 {n:Nat} (h:n≤1000):n < sizeLine:=Nat.lt_of_le_of_lt h (by decide)
section
variable {X:Cx}
theorem pv (i:Nat) {x:Str} {pos:Pos} (hN:X.N[i]? = some x:=by rfl) (hv:Vis X.env.scope x:=by first | exact Or.inl rfl | exact Or.inr (Or.inl rfl) | exact Or.inr (Or.inr rfl)) (hd:(x == ("__debug__" : Str))=false:=by decide)
  (hcd:(x == ("__classdict__" : Str))=false:=by decide):PE X (.Name x pos) (tVar i):=pe_var hN hv hd hcd
end
theorem iteF {A B:Prop} (h:B):if false=true then A else B:=by
 rw [if_neg Bool.false_ne_true]
 exact h
theorem iteT {A B:Prop} (h:A):if true=true then A else B:=by
 rw [if_pos rfl]
 exact h
theorem iteNS {c A B:Prop} [Decidable c] (hc:c) (h:B):if (!decide c)=true then A else B:=by
 rw [decide_eq_true hc]
 exact iteF h
def Same (H H':Hp):Prop:=∀ b o,H b=some o→H' b=some o
theorem Same.refl (H:Hp):Same H H:=fun _ _ h=>h
theorem Same.trans {H H1 H2:Hp} (a:Same H H1) (b:Same H1 H2):Same H H2:=fun c o h=>b c o (a c o h)
theorem Same.free {H H':Hp} (e:Same H H') {l:Addr} (h:H' l=Option.none):H l=Option.none:=by
 cases q:H l with
 | none=>rfl
 | some o =>
  rw [e l o q] at h
  cases h
theorem Same.seq {K:PySem.W.Frag} {H H':Hp} {a:Addr} {xs:List V} (e:Same H H') (h:SqL K H a xs):SqL K H' a xs:=by
 rcases h with (h | ⟨o,h⟩) | h
 ·exact .inl (.inl (e _ _ h))
 ·exact .inl (.inr ⟨o,e _ _ h⟩)
 ·exact .inr h
end L2
set_option maxHeartbeats 4000000
set_option exponentiation.threshold 2000
namespace L2
open PySem PySem.Spec PyProof.Rows
section
variable {X:Cx}
theorem bits_le {i:Int} {n:Nat} (h:i.natAbs < 2 ^ n):Builtin.Int.intBits i≤n:=by
 by_cases hz:i=0
 ·subst hz
  have e:Builtin.Int.intBits 0=0:=by decide
  rw [e]
  exact Nat.zero_le _
 ·have h0:i.natAbs≠0:=by omega
  have:=(Nat.log2_lt h0).mpr h
  unfold Builtin.Int.intBits
  split
  ·exact Nat.zero_le _
  ·omega
theorem call_isinst:CallR X (.builtin "isinstance") (fun xs H Q=>∃ x t n b,xs=[x,.ty n]∧TyOf X.K H x t∧PySem.W.kitOne X.K t (.type n)=some b∧Q (.bl b) H):=by
 intro pins s σ H xs us Q I r h
 obtain ⟨x,t,n,b,rfl,ty,e,q⟩:=h
 obtain ⟨u,w',rfl,ru,rw'⟩:=vals2 r
 cases (show w'=Value.type n from rw')
 exact isinst_ok I ru ty e fun tk=>⟨.bl b,H,I.tok _,rfl,q⟩
mutual
inductive DA (K:PySem.W.Frag) (ok:Addr→Prop) (H:Hp):V→PyData→Prop
 | non:DA K ok H .non .none
 | bl (b:Bool):DA K ok H (.bl b) (.bool b)
 | int (i:Int):DA K ok H (.int i) (.int i)
 | str (x:Str):DA K ok H (.str x) (.str x)
 | lst {a:Addr} {vs:List V} {ds:List PyData}:ok a→SqL K H a vs→DAs K ok H vs ds→DA K ok H (.ref a) (.list ds)
 | tup {a:Addr} {vs:List V} {ds:List PyData}:ok a→SqT K H a vs→DAs K ok H vs ds→DA K ok H (.ref a) (.tuple ds)
inductive DAs (K:PySem.W.Frag) (ok:Addr→Prop) (H:Hp):List V→List PyData→Prop
 | nil:DAs K ok H [] []
 | cons {v:V} {d:PyData} {vs:List V} {ds:List PyData}:DA K ok H v d→DAs K ok H vs ds→DAs K ok H (v :: vs) (d :: ds)
end
abbrev any (_:Addr):Prop:=True
def Keep (ok:Addr→Prop) (H H':Hp):Prop:=∀ b o,ok b→H b=some o→H' b=some o
theorem Same.keep {ok:Addr→Prop} {H H':Hp} (e:Same H H'):Keep ok H H':=fun b o _ h=>e b o h
theorem Keep.seq {K:PySem.W.Frag} {ok:Addr→Prop} {H H':Hp} {a:Addr} {xs:List V} (e:Keep ok H H') (n:ok a) (h:SqL K H a xs):SqL K H' a xs:=by
 rcases h with (h | ⟨o,h⟩) | h
 ·exact .inl (.inl (e _ _ n h))
 ·exact .inl (.inr ⟨o,e _ _ n h⟩)
 ·exact .inr h
theorem Keep.seqT {K:PySem.W.Frag} {ok:Addr→Prop} {H H':Hp} {a:Addr} {xs:List V} (e:Keep ok H H') (n:ok a) (h:SqT K H a xs):SqT K H' a xs:=by
 rcases h with (h | ⟨o,h⟩) | h
 ·exact .inl (.inl (e _ _ n h))
 ·exact .inl (.inr ⟨o,e _ _ n h⟩)
 ·exact .inr h
theorem Same.seqT {K:PySem.W.Frag} {H H':Hp} {a:Addr} {xs:List V} (e:Same H H') (h:SqT K H a xs):SqT K H' a xs:=(e.keep (ok:=any)).seqT trivial h
theorem Same.upd {H:Hp} {p:Addr} {o:HO} (h:H p=none):Same H (upd H p o):=fun b u e=>by rw [upd_ne (ne_of_none e h)]; exact e
mutual
theorem DA.mono {K:PySem.W.Frag} {ok ok':Addr→Prop} {H H':Hp} (e:Keep ok H H') (m:∀ a,ok a→ok' a):∀ {v:V} {d:PyData},DA K ok H v d→DA K ok' H' v d
 | _,_,.non=>.non
 | _,_,.bl b=>.bl b
 | _,_,.int i=>.int i
 | _,_,.str x=>.str x
 | _,_,.lst n s r=>.lst (m _ n) (e.seq n s) (DAs.mono e m r)
 | _,_,.tup n s r=>.tup (m _ n) (e.seqT n s) (DAs.mono e m r)
theorem DAs.mono {K:PySem.W.Frag} {ok ok':Addr→Prop} {H H':Hp} (e:Keep ok H H') (m:∀ a,ok a→ok' a):∀ {v:List V} {d:List PyData},DAs K ok H v d→DAs K ok' H' v d
 | _,_,.nil=>.nil
 | _,_,.cons a r=>.cons (DA.mono e m a) (DAs.mono e m r)
end
mutual
theorem DA.reads {ok:Addr→Prop} {pins:List (Addr × Obj)} {σ:St} {H:Hp} {s:Shared} (I:Inv X pins σ H s):∀ {v:V} {d:PyData} {u:Value},DA X.K ok H v d→RelV v u→∃ as,Reads s.heap u d as
 | _,_,_,.non,r=>by cases r; exact ⟨_,.none⟩
 | _,_,_,.bl b,r=>by cases r; exact ⟨_,.bool b⟩
 | _,_,_,.int i,r=>by obtain ⟨t,rfl⟩:=r; exact ⟨_,.int i t⟩
 | _,_,_,.str x,r=>by obtain ⟨t,rfl⟩:=r; exact ⟨_,.str x t⟩
 | _,_,_,.lst _ h q,r=>by
  cases r
  obtain ⟨its,rv,⟨o,n,e,c,_,d⟩,_⟩:=I.list h
  obtain ⟨as,p⟩:=DAs.reads I q rv
  exact ⟨_,.list e c d (by simpa using p)⟩
 | _,_,_,.tup _ h q,r=>by
  cases r
  obtain ⟨its,rv,⟨o,e,c,n,d⟩,_⟩:=I.tuple h
  obtain ⟨as,p⟩:=DAs.reads I q rv
  exact ⟨_,.tuple e c d (by simpa using p)⟩
theorem DAs.reads {ok:Addr→Prop} {pins:List (Addr × Obj)} {σ:St} {H:Hp} {s:Shared} (I:Inv X pins σ H s):∀ {v:List V} {d:List PyData} {u:List Value},DAs X.K ok H v d→Vals v u→∃ as,ReadsAll s.heap u d as
 | _,_,_,.nil,r=>by cases r; exact ⟨_,.nil⟩
 | _,_,_,.cons a q,r=>by
  cases r with
  | cons r1 r2 =>
   obtain ⟨as,p⟩:=DA.reads I a r1
   obtain ⟨bs,p'⟩:=DAs.reads I q r2
   exact ⟨_,.cons p p'⟩
end
def rEqD (K:PySem.W.Frag):R2:=fun x y H Q=>∃ d e,DA K any H x d∧DA K any H y e∧(d.canLay0=true∧e.canLay0=true∧d.depth≤64)∧Q (.bl (PyData.eqv d e)) H
def rNeD (K:PySem.W.Frag):R2:=fun x y H Q=>∃ d e,DA K any H x d∧DA K any H y e∧(d.canLay0=true∧e.canLay0=true∧d.depth≤64)∧Q (.bl (!PyData.eqv d e)) H
theorem op_eqD (hu:X.A.units+64 < cLine):OpR X (compareOp .Eq) (rEqD X.K):=by
 intro pins s σ H x y v u Q I rx ry h
 obtain ⟨d,e,hd,he,⟨l1,l2,l3⟩,q⟩:=h
 obtain ⟨as,p1⟩:=hd.reads I rx
 obtain ⟨bs,p2⟩:=he.reads I ry
 exact PySem.SeqAt.compareEq_reads p1 p2 l1 l2 (by omega) ⟨.bl _,H,I,rfl,q⟩
theorem op_neD (hu:X.A.units+64 < cLine):OpR X (compareOp .NotEq) (rNeD X.K):=by
 intro pins s σ H x y v u Q I rx ry h
 obtain ⟨d,e,hd,he,⟨l1,l2,l3⟩,q⟩:=h
 obtain ⟨as,p1⟩:=hd.reads I rx
 obtain ⟨bs,p2⟩:=he.reads I ry
 exact PySem.SeqAt.compareNe_reads p1 p2 l1 l2 (by omega) ⟨.bl _,H,I,rfl,q⟩
end
theorem iteNP {c A B:Prop} [Decidable c] (hc:¬ c) (h:A):if (!decide c)=true then A else B:=by
 rw [decide_eq_false hc]
 exact iteT h
theorem itDP {c A B:Prop} [Decidable c] (hc:c) (h:A):if decide c=true then A else B:=by
 rw [decide_eq_true hc]
 exact iteT h
theorem itDN {c A B:Prop} [Decidable c] (hc:¬ c) (h:B):if decide c=true then A else B:=by
 rw [decide_eq_false hc]
 exact iteF h
structure Dn (K:PySem.W.Frag) (mg:Str→Option Value) (x:Str) (st:Stmt) (ps:List Str) (f:Addr) (fd:FuncData):Prop where
 fn:Fun K x x st f fd
 gl:mg x=some (.ref f)
 bd:Binds K fd ps []
section
variable {X:Cx} {k:Nat} {f:Addr} {fd:FuncData} {x:Str} {st:Stmt} {ps:List Str} {sp:Sp} {e:Expr} {es:List Expr} {p pos:Pos} {t:TA}
theorem pe_fn (D:Dn X.K X.mg x st ps f fd) (G:FnOk X.prog X.w X.K X.mg X.base CX0 k f fd ps sp) (hr:Room k X.A) (hg:Gl X x) (ha:PA X (e :: es) t) (hdb:(x == ("__debug__" : Str))=false:=by decide)
  (hs:starEach (e :: es) X.env=(false,eval e X.env) :: starEach es X.env:=by rfl) (hpl:(backTo pos (starEach es X.env)).any (·.1)=false:=by rfl):PE X (.Call (.Name x p) (e :: es) [] pos) (tCall sp [] E0 t) :=
 pe_call G hr hg D.gl D.fn.kp D.bd .nil pass0 ha hdb hs hpl
end
end L2
namespace L2
open PySem PySem.Spec PyProof.Rows
def blkN (N:List Str) (x:Str):List Str:=N.map (fun y=>if y=x then Str.empty else y)++[x]
def clOf (cells:List (Str × Addr)):List (Str × NameKind)→List (Str × Addr)→List (Str × Addr)
 | [],acc=>acc
 | (n,k) :: r,acc=>clOf cells r (if (k == .free)=true then (match cells.lookup n with | some c=>(n,c) :: acc | none=>acc) else acc)
structure LcScope (S:Scope) (N:List Str) (sc:Scope) (x:Str):Prop where
 uniq:(sc.names.map (·.1)).Nodup
 kind:sc.kind=.function
 names:∀ y ∈ sc.names,y.2=.local→sc.names.lookup y.1=some .local
 loc:sc.names.lookup x=some .local ∨ sc.names.lookup x=some .cell
 free:∀ y ∈ sc.names,y.2=.free→S.names.lookup y.1=some .cell ∨ S.names.lookup y.1=some .free
 only:∀ y ∈ sc.names,y.2=.local→y.1=x ∨ y.1 = ".0"
 onlyC:∀ y ∈ sc.names,y.2=.cell→y.1=x
 ne:∀ y ∈ sc.names,y.1≠Str.empty
 dot:∀ y ∈ N,y≠".0"
 nd:(blkN N x).Nodup
theorem lookup_relab {c:Str→NameKind→Bool} {y:Str}:∀ (names:List (Str × NameKind)),(names.map fun (n,k)=>if c n k=true then (n,NameKind.cell) else (n,k)).lookup y=(names.lookup y).map fun k=>if c y k=true then NameKind.cell else k
 | []=>rfl
 | (n,k) :: r=>by
  have ih:=lookup_relab (c:=c) (y:=y) r
  show List.lookup y ((if c n k=true then (n,NameKind.cell) else (n,k)) :: _)=_
  cases hx:y == n with
  | true =>
   have e:y=n:=by simpa using hx
   subst e
   by_cases hc:c y k=true
   ·rw [if_pos hc]; simp [List.lookup_cons,hc]
   ·rw [if_neg hc]; simp [List.lookup_cons,hc]
  | false =>
   by_cases hc:c n k=true
   ·rw [if_pos hc]; simp only [List.lookup_cons,hx]; exact ih
   ·rw [if_neg hc]; simp only [List.lookup_cons,hx]; exact ih
theorem relab_lookup {sc:Scope} {env:Env} {y:Str} {k:NameKind} (h:(relabel sc env).names.lookup y=some k):∃ k0,(y,k0) ∈ sc.names∧(k=k0 ∨ (k=.cell∧k0=.free)):=by
 have e:=lookup_relab (c:=fun n k=>k == NameKind.free && env.scope.kind == .function && env.kindOf n == some .cell) (y:=y) sc.names
 have h':(sc.names.map fun (n,k)=>if (k == NameKind.free && env.scope.kind == .function && env.kindOf n == some .cell)=true then (n,NameKind.cell) else (n,k)).lookup y=some k:=h
 rw [e] at h'
 cases q:sc.names.lookup y with
 | none=>rw [q] at h'; cases h'
 | some k0 =>
  rw [q] at h'
  refine ⟨k0,PySem.mem_of_lookup q,?_⟩
  have h'':(if (k0 == NameKind.free && env.scope.kind == .function && env.kindOf y == some .cell)=true then NameKind.cell else k0)=k:=Option.some.inj h'
  by_cases hc:(k0 == NameKind.free && env.scope.kind == .function && env.kindOf y == some .cell)=true
  ·rw [if_pos hc] at h''
   refine .inr ⟨h''.symm,?_⟩
   have:=(Bool.and_eq_true_iff.mp (Bool.and_eq_true_iff.mp hc).1).1
   simpa using this
  ·rw [if_neg hc] at h''
   exact .inl h''.symm
theorem clOf_sub {cells:List (Str × Addr)}:∀ (names:List (Str × NameKind)) (acc:List (Str × Addr)),(∀ y c,acc.lookup y=some c→cells.lookup y=some c)→∀ y c,(clOf cells names acc).lookup y=some c→cells.lookup y=some c
 | [],_,h=>h
 | (n,k) :: r,acc,h=>by
  refine clOf_sub r _ fun y c=>?_
  by_cases hk:(k == NameKind.free)=true
  ·rw [if_pos hk]
   cases q:cells.lookup n with
   | none=>exact h y c
   | some d =>
    intro e
    show cells.lookup y=some c
    have e':List.lookup y ((n,d) :: acc)=some c:=e
    rw [List.lookup_cons] at e'
    cases hx:y == n with
    | true =>
     rw [hx] at e'
     have:y=n:=by simpa using hx
     subst this
     rw [q]; exact e'
    | false =>
     rw [hx] at e'
     exact h y c e'
  ·rw [if_neg hk]
   exact h y c
theorem clOf_acc {cells:List (Str × Addr)} {y:Str}:∀ (names:List (Str × NameKind)) (acc:List (Str × Addr)),(acc.lookup y).isSome=true→((clOf cells names acc).lookup y).isSome=true
 | [],_,h=>h
 | (n,k) :: r,acc,h=>by
  refine clOf_acc r _ ?_
  by_cases hk:(k == NameKind.free)=true
  ·rw [if_pos hk]
   cases q:cells.lookup n with
   | none=>exact h
   | some d =>
    show (List.lookup y ((n,d) :: acc)).isSome=true
    rw [List.lookup_cons]
    cases hx:y == n with
    | true=>rfl
    | false=>exact h
  ·rw [if_neg hk]; exact h
theorem clOf_has {cells:List (Str × Addr)} {y:Str} (hc:(cells.lookup y).isSome=true):∀ (names:List (Str × NameKind)) (acc:List (Str × Addr)),(y,NameKind.free) ∈ names→((clOf cells names acc).lookup y).isSome=true
 | (n,k) :: r,acc,h=>by
  rcases List.mem_cons.mp h with e | h
  ·cases e
   refine clOf_acc r _ ?_
   rw [if_pos (by rfl)]
   obtain ⟨c,q⟩:=Option.isSome_iff_exists.mp hc
   rw [q]
   show (List.lookup y ((y,c) :: acc)).isSome=true
   rw [List.lookup_cons,beq_self_eq_true]
   rfl
  ·exact clOf_has hc r _ h
theorem cellOf_some {env:Env} {y:Str} {c:Addr} (h:env.cells.lookup y=some c):cellOf env y=pure c:=by
 unfold cellOf
 rw [h]
theorem closure_of {sc:Scope} {env:Env} (h:∀ y ∈ sc.names,y.2=.free→(env.cells.lookup y.1).isSome=true):closureFor sc env=pure (clOf env.cells sc.names []):=by
 have all:∀ (names:List (Str × NameKind)) (acc:List (Str × Addr)),(∀ y ∈ names,y.2=.free→(env.cells.lookup y.1).isSome=true) →
   (forIn names acc fun (x:Str × NameKind) (cs:List (Str × Addr))=>(do
    let (name,kind):=x
    if (kind == .free)=true then let c ← cellOf env name; pure (ForInStep.yield ((name,c) :: cs)) else pure (ForInStep.yield cs):Sem (ForInStep (List (Str × Addr)))))=pure (clOf env.cells names acc):=by
  intro names
  induction names with
  | nil=>intro acc _; rfl
  | cons a r ih =>
   intro acc hh
   obtain ⟨n,k⟩:=a
   rw [List.forIn_cons]
   by_cases hk:(k == NameKind.free)=true
   ·obtain ⟨c,q⟩:=Option.isSome_iff_exists.mp (hh (n,k) List.mem_cons_self (by simpa using hk))
    simp only [hk,if_true,cellOf_some q,pure_bind]
    rw [ih _ fun y hy=>hh y (List.mem_cons_of_mem _ hy)]
    show pure (clOf env.cells r ((n,c) :: acc))=pure (clOf env.cells r (if (k == NameKind.free)=true then _ else acc))
    rw [if_pos hk,q]
   ·simp only [hk,Bool.false_eq_true,if_false,pure_bind]
    rw [ih _ fun y hy=>hh y (List.mem_cons_of_mem _ hy)]
    show pure (clOf env.cells r acc)=pure (clOf env.cells r (if (k == NameKind.free)=true then _ else acc))
    rw [if_neg hk]
 unfold closureFor
 first
  | exact (congrArg (fun z=>z >>= pure) (all sc.names [] h)).trans (by simp)
  | (have e:=all sc.names [] h
     simp only [bind_pure] at e ⊢
     exact e)
def ownC (sc:Scope) (x:Str) (n:Nat):List (Str × Addr):=if sc.names.lookup x=some .cell then [(x,n)] else []
def Cx.blk (X:Cx) (N':List Str) (sc:Scope) (x:Str) (s₀:Shared) (H₀:Hp) (fp:List Addr):Cx :=
 { X with N:=N',s₀:=s₀,H₀:=H₀,env:=compEnvC sc (ownC sc x (s₀.heap.objs.size+1)++clOf X.env.cells sc.names []) s₀.heap.objs.size X.env,outer:=X.stack,stack:=X.stack,ex:=fp,fn:=fun y=>decide (y=x∧sc.names.lookup x=some .cell),pn:=[],xe:=fun _ _=>False }
theorem lookup_mem {α:Type}:∀ {l:List (Str × α)} {y:Str} {k:α},(l.map (·.1)).Nodup→(y,k) ∈ l→l.lookup y=some k
 | (n,v) :: r,y,k,nd,h=>by
  rw [List.lookup_cons]
  have nd':(n :: r.map (·.1)).Nodup:=nd
  obtain ⟨h1,h2⟩:=List.nodup_cons.mp nd'
  rcases List.mem_cons.mp h with e | h
  ·cases e
   rw [beq_self_eq_true]
  ·have ne:(y == n)=false:=by
    rw [beq_eq_false_iff_ne]
    exact fun e=>h1 (List.mem_map.mpr ⟨(y,k),h,e⟩)
   rw [ne]
   exact lookup_mem h2 h
theorem cellsFrom_none {acc:List (Str × Addr)}:∀ {names:List (Str × NameKind)} {n:Nat},(∀ y ∈ names,y.2≠.cell)→cellsFrom n names acc=acc
 | [],_,_=>rfl
 | (y,k) :: r,n,h=>by
  unfold cellsFrom
  rw [if_neg (by simpa using h (y,k) List.mem_cons_self)]
  exact cellsFrom_none fun z hz=>h z (List.mem_cons_of_mem _ hz)
theorem pushCells_none:∀ {names:List (Str × NameKind)} {h:Heap},(∀ y ∈ names,y.2≠.cell)→pushCells h names=h
 | [],_,_=>rfl
 | (y,k) :: r,h,hn=>by
  unfold pushCells
  rw [if_neg (by simpa using hn (y,k) List.mem_cons_self)]
  exact pushCells_none fun z hz=>hn z (List.mem_cons_of_mem _ hz)
theorem cellsFrom_one {x:Str} {acc:List (Str × Addr)}:∀ {names:List (Str × NameKind)} {n:Nat},(names.map (·.1)).Nodup→(∀ y ∈ names,y.2=.cell→y.1=x)→(x,NameKind.cell) ∈ names→cellsFrom n names acc=(x,n) :: acc
 | (y,k) :: r,n,nd,ho,hm=>by
  have nd':(y :: r.map (·.1)).Nodup:=nd
  obtain ⟨h1,h2⟩:=List.nodup_cons.mp nd'
  unfold cellsFrom
  by_cases hk:(k == NameKind.cell)=true
  ·rw [if_pos hk]
   have e:y=x:=ho (y,k) List.mem_cons_self (by simpa using hk)
   subst e
   refine cellsFrom_none fun z hz hc=>h1 (List.mem_map.mpr ⟨z,hz,?_⟩)
   exact ho z (List.mem_cons_of_mem _ hz) hc
  ·rw [if_neg hk]
   rcases List.mem_cons.mp hm with e | hm
   ·cases e
    exact absurd rfl hk
   ·exact cellsFrom_one h2 (fun z hz=>ho z (List.mem_cons_of_mem _ hz)) hm
theorem pushCells_one {x:Str}:∀ {names:List (Str × NameKind)} {h:Heap},(names.map (·.1)).Nodup→(∀ y ∈ names,y.2=.cell→y.1=x)→(x,NameKind.cell) ∈ names→pushCells h names=h.push { cls:=.type "cell",data:=.cell none }
 | (y,k) :: r,h,nd,ho,hm=>by
  have nd':(y :: r.map (·.1)).Nodup:=nd
  obtain ⟨h1,h2⟩:=List.nodup_cons.mp nd'
  unfold pushCells
  by_cases hk:(k == NameKind.cell)=true
  ·rw [if_pos hk]
   have e:y=x:=ho (y,k) List.mem_cons_self (by simpa using hk)
   subst e
   refine pushCells_none fun z hz hc=>h1 (List.mem_map.mpr ⟨z,hz,?_⟩)
   exact ho z (List.mem_cons_of_mem _ hz) hc
  ·rw [if_neg hk]
   rcases List.mem_cons.mp hm with e | hm
   ·cases e
    exact absurd rfl hk
   ·exact pushCells_one h2 (fun z hz=>ho z (List.mem_cons_of_mem _ hz)) hm
theorem newEnv_lc {M:Model} {A:Around} {E:Value→Shared→Prop} {s:Shared} {scope:Scope} {globals:Addr} {closure:List (Str × Addr)} {qual:Str} {func:Option Addr} {code:Value} {outer:Env} {builtins:Addr} {Q:Env→Shared→Prop}
  (hQ:Q (newEnv scope s.heap.objs.size globals (cellsFrom (s.heap.objs.size+1) scope.names closure) qual func code (some outer) builtins) { s with heap:=pushCells (s.heap.push { cls:=.type "dict",data:=.dict #[] }) scope.names }) :
  wpAny M A (newFunctionEnv scope globals closure [] qual func code (some outer) builtins) Q E s:=by
 simp only [newFunctionEnv,Option.isSome_some,if_true]
 refine wpAny_bind (wpAny_alloc ?_)
 refine wpAny_bind (wpAny_layCells _ (fun name kind cells=>by cases hkc:kind == NameKind.cell <;> simp [hkc]) _ _ _ _ ?_)
 rw [show ({ s with heap:=s.heap.push { cls:=.type "dict",data:=.dict #[] } }:Shared).heap.objs.size=s.heap.objs.size+1 from Heap.size_push ..]
 exact wpAny_bind (wpAny_pure (wpAny_pure hQ))
theorem LcScope.cells {S:Scope} {N:List Str} {sc:Scope} {x:Str} (L:LcScope S N sc x) (n:Nat) (cl:List (Str × Addr)):cellsFrom n sc.names cl=ownC sc x n++cl:=by
 unfold ownC
 rcases L.loc with h | h
 ·rw [if_neg (by rw [h]; simp)]
  exact cellsFrom_none fun y hy hc=>by
   have e:=L.onlyC y hy hc
   have:=lookup_mem L.uniq (y:=x) (k:=.cell) (by rw [←e,←hc]; exact hy)
   rw [h] at this
   cases this
 ·rw [if_pos h]
  exact cellsFrom_one L.uniq L.onlyC (PySem.mem_of_lookup h)
theorem LcScope.heap {S:Scope} {N:List Str} {sc:Scope} {x:Str} (L:LcScope S N sc x) (h:Heap):(∀ b o,h.get? b=some o→(pushCells h sc.names).get? b=some o)∧(sc.names.lookup x=some .cell→(pushCells h sc.names).IsCell h.objs.size none):=by
 refine ⟨fun b o e=>pushCells_keeps _ _ b o e,fun hc=>?_⟩
 rw [pushCells_one L.uniq L.onlyC (PySem.mem_of_lookup hc)]
 exact ⟨_,Heap.get?_push_size _ rfl,rfl⟩
theorem ownC_lookup {sc:Scope} {x y:Str} {n:Nat} {c:Addr} {cl:List (Str × Addr)} (h:(ownC sc x n++cl).lookup y=some c):(y=x∧c=n∧sc.names.lookup x=some .cell) ∨ cl.lookup y=some c:=by
 unfold ownC at h
 by_cases hc:sc.names.lookup x=some .cell
 ·rw [if_pos hc] at h
  have h':List.lookup y ((x,n) :: cl)=some c:=h
  rw [List.lookup_cons] at h'
  cases e:y == x with
  | true =>
   rw [e] at h'
   exact .inl ⟨by simpa using e,(Option.some.inj h').symm,hc⟩
  | false =>
   rw [e] at h'
   exact .inr h'
 ·rw [if_neg hc] at h
  exact .inr h
theorem ownC_other {sc:Scope} {x y:Str} {n:Nat} {cl:List (Str × Addr)} (h:y≠x):(ownC sc x n++cl).lookup y=cl.lookup y:=by
 unfold ownC
 by_cases hc:sc.names.lookup x=some .cell
 ·rw [if_pos hc]
  show List.lookup y ((x,n) :: cl)=_
  rw [List.lookup_cons,beq_eq_false_iff_ne.mpr h]
 ·rw [if_neg hc]
  rfl
theorem ownC_self {sc:Scope} {x:Str} {n:Nat} {cl:List (Str × Addr)} (h:sc.names.lookup x=some .cell):(ownC sc x n++cl).lookup x=some n:=by
 unfold ownC
 rw [if_pos h]
 show List.lookup x ((x,n) :: cl)=_
 rw [List.lookup_cons,beq_self_eq_true]
section
variable {X:Cx} {pins:List (Addr × Obj)} {σ:St} {H:Hp} {s:Shared} {sc:Scope} {x:Str} {fp:List Addr}
theorem blkN_len (N:List Str) (x:Str):(blkN N x).length=N.length+1:=by simp [blkN]
theorem blkN_at {N:List Str} {x:Str} {i:Nat} {y:Str} (h:(blkN N x)[i]? = some y) (hi:i < N.length):∃ y0,N[i]? = some y0∧((y0=x∧y=Str.empty) ∨ (y0≠x∧y=y0)):=by
 unfold blkN at h
 rw [List.getElem?_append_left (by simpa using hi),List.getElem?_map] at h
 cases q:N[i]? with
 | none=>rw [q] at h; cases h
 | some y0 =>
  rw [q] at h
  refine ⟨y0,rfl,?_⟩
  have h':(if y0=x then Str.empty else y0)=y:=Option.some.inj h
  by_cases e:y0=x
  ·rw [if_pos e] at h'; exact .inl ⟨e,h'.symm⟩
  ·rw [if_neg e] at h'; exact .inr ⟨e,h'.symm⟩
theorem Inv.has_cell (I:Inv X pins σ H s) {S:Scope} (L:LcScope S X.N sc x) (hS:X.env.scope=S):∀ y ∈ sc.names,y.2=.free→(X.env.cells.lookup y.1).isSome=true:=fun y hy hf=>by
 have k:X.env.kindOf y.1=some .cell ∨ X.env.kindOf y.1=some .free:=by
  show X.env.scope.names.lookup y.1=_ ∨ X.env.scope.names.lookup y.1=_
  rw [hS]
  exact L.free y hy hf
 obtain ⟨c,e⟩:=I.ok.has y.1 k
 rw [e]; rfl
theorem Inv.blk (I:Inv X pins σ H s) {S:Scope} (L:LcScope S X.N sc x) (hS:X.env.scope=S) (hf:∀ b ∈ fp,FpOk X pins H b) (hb:∀ b ∈ fp,b < s.heap.objs.size) {h1:Heap} {tk:Nat} {m:Str→Option Value} (hn:h1.Ns s.heap.objs.size m)
  (hk:∀ b o,s.heap.get? b=some o→h1.get? b=some o) (hoc:sc.names.lookup x=some .cell→h1.IsCell (s.heap.objs.size+1) none):Inv (X.blk (blkN X.N x) sc x s H fp) [] (σ++[none]) H { s with heap:=h1,toks:=tk }:=by
 have sub:∀ y c,(clOf X.env.cells sc.names []).lookup y=some c→X.env.cells.lookup y=some c:=clOf_sub sc.names [] fun _ _ z=>by cases z
 have sub2:∀ y c,(ownC sc x (s.heap.objs.size+1)++clOf X.env.cells sc.names []).lookup y=some c→(y=x∧c=s.heap.objs.size+1∧sc.names.lookup x=some .cell) ∨ X.env.cells.lookup y=some c:=fun y c e =>
  (ownC_lookup e).imp id (sub y c)
 have ltc:∀ y c,X.env.cells.lookup y=some c→c < s.heap.objs.size:=fun y c e=>by
  obtain ⟨v,z⟩:=I.cell y c e
  exact z.lt
 have fkey:∀ y,(y,NameKind.free) ∈ sc.names→y≠x:=fun y hy e=>by
  subst e
  have z:=lookup_mem L.uniq hy
  rcases L.loc with q | q <;> rw [q] at z <;> cases z
 have hasC:∀ y,(y,NameKind.free) ∈ sc.names→∃ c,(ownC sc x (s.heap.objs.size+1)++clOf X.env.cells sc.names []).lookup y=some c:=fun y hy=>by
  rw [ownC_other (fkey y hy)]
  exact Option.isSome_iff_exists.mp (clOf_has (I.has_cell L hS (y,.free) hy rfl) sc.names [] hy)
 have kinds:∀ y k,(relabel sc X.env).names.lookup y=some k→(k=.cell ∨ k=.free)→(y,NameKind.free) ∈ sc.names ∨ (y=x∧sc.names.lookup x=some .cell):=fun y k e hk=>by
  obtain ⟨k0,hm,q⟩:=relab_lookup e
  rcases q with rfl | ⟨_,rfl⟩
  ·rcases hk with rfl | rfl
   ·have e:=L.onlyC _ hm rfl
    have e':y=x:=e
    subst e'
    exact .inr ⟨rfl,lookup_mem L.uniq hm⟩
   ·exact .inl hm
  ·exact .inl hm
 have stk:=I.stkSub
 refine ⟨⟨I.ok.mod,L.kind,I.ok.glob,I.ok.blt,Nat.le_refl _,fun y z c e1 e2=>?_,fun y hy=>?_,fun y c z e=>?_,I.ok.hd,I.ok.frames,.inl rfl,fun b hb'=>?_,I.bs,Nat.le_trans I.ok.bsz I.sz,fun b o e hb'=>?_,fun b hb' z=>?_,I.stack,I.stkFree⟩,
  rfl,I.bare,Un.kept hk,⟨m,hn,fun i y v e1 e2 e3=>?_⟩,fun y c e=>?_,I.hok.fresh (Nat.le_refl _),fun y c e=>?_,fun p hp=>absurd (show p ∈ ([]:List (Addr × Obj)) from hp) (by simp),I.hok.kept hk,?_⟩
 ·rcases sub2 y c e1 with ⟨q1,q2,_⟩ | q <;> rcases sub2 z c e2 with ⟨q1',q2',_⟩ | q'
  ·rw [q1,q1']
  ·have z1:=ltc z c q'
   rw [q2] at z1
   exact absurd z1 (Nat.not_lt.mpr (Nat.le_succ _))
  ·have z1:=ltc y c q
   rw [q2'] at z1
   exact absurd z1 (Nat.not_lt.mpr (Nat.le_succ _))
  ·exact I.ok.inj y z c q q'
 ·have hy':(relabel sc X.env).names.lookup y=some .cell ∨ (relabel sc X.env).names.lookup y=some .free:=hy
  have z:(y,NameKind.free) ∈ sc.names ∨ (y=x∧sc.names.lookup x=some .cell):=by
   rcases hy' with e | e
   ·exact kinds y _ e (.inl rfl)
   ·exact kinds y _ e (.inr rfl)
  rcases z with z | ⟨rfl,z⟩
  ·exact hasC y z
  ·exact ⟨_,ownC_self z⟩
 ·have z':decide (y=x∧sc.names.lookup x=some .cell)=true:=z
  obtain ⟨rfl,z2⟩:=of_decide_eq_true z'
  have e':(ownC sc y (s.heap.objs.size+1)++clOf X.env.cells sc.names []).lookup y=some c:=e
  rw [ownC_self z2] at e'
  cases e'
  exact Nat.le_succ _
 ·obtain ⟨f0,f1,f2,f3,f4,f5⟩:=hf b hb'
  refine ⟨Nat.ne_of_lt (hb b hb'),fun y c e z=>?_⟩
  rcases sub2 y c e with ⟨_,q2,_⟩ | q
  ·have z1:=hb b hb'
   rw [←z,q2] at z1
   exact absurd z1 (Nat.not_lt.mpr (Nat.le_succ _))
  ·exact f4 y c q z
 ·obtain ⟨f0,f1,f2,f3,f4,f5⟩:=hf b hb'
  rcases f3 with z | z
  ·exact I.ok.noex b o e z
  ·exact absurd (Nat.lt_of_lt_of_le (Heap.lt_size (I.ok.bs b o e).1) z) (Nat.lt_irrefl _)
 ·obtain ⟨f0,f1,f2,f3,f4,f5⟩:=hf b hb'
  rcases List.mem_cons.mp (stk b z) with q | q
  ·exact f1 q
  ·exact f2 q
 ·have hl:σ.length=X.N.length:=I.len
  have hi:i < X.N.length:=by
   by_cases hi:i < σ.length
   ·omega
   ·rw [List.getElem?_append_right (by omega)] at e2
    cases q:i - σ.length with
    | zero=>rw [q] at e2; cases e2
    | succ n=>rw [q] at e2; cases e2
  rw [List.getElem?_append_left (by omega)] at e2
  obtain ⟨y0,g1,g2⟩:=blkN_at e1 hi
  have vis:∃ k,(relabel sc X.env).names.lookup y=some k∧(k=.local ∨ k=.cell ∨ k=.free):=by
   rcases e3 with q | q | q
   ·exact ⟨_,q,.inl rfl⟩
   ·exact ⟨_,q,.inr (.inl rfl)⟩
   ·exact ⟨_,q,.inr (.inr rfl)⟩
  obtain ⟨k,q,hk'⟩:=vis
  obtain ⟨k0,hm,q0⟩:=relab_lookup q
  rcases g2 with ⟨_,rfl⟩ | ⟨g2,rfl⟩
  ·exact absurd rfl (L.ne _ hm)
  ·have hkc:k=.cell ∨ k=.free:=by
    rcases hk' with rfl | z
    ·exfalso
     rcases q0 with rfl | ⟨z,_⟩
     ·rcases L.only _ hm rfl with z | z
      ·exact g2 z
      ·exact L.dot y (List.mem_of_getElem? g1) z
     ·cases z
    ·exact z
   have hfr:(y,NameKind.free) ∈ sc.names:=(kinds y k q hkc).resolve_right fun z=>g2 z.1
   have visX:X.env.scope.names.lookup y=some .cell ∨ X.env.scope.names.lookup y=some .free:=by rw [hS]; exact L.free _ hfr rfl
   obtain ⟨m0,_,hl0⟩:=I.loc
   obtain ⟨u,r,lk⟩:=hl0 i y v g1 e2 (.inr visX)
   refine ⟨u,r,?_⟩
   rcases lk with ⟨z,_⟩ | ⟨_,c,ec,hc⟩
   ·exfalso
    have z':X.env.scope.names.lookup y=some .local:=z
    rcases visX with w' | w' <;> rw [z'] at w' <;> cases w'
   ·obtain ⟨c',ec'⟩:=hasC y hfr
    have:c'=c:=by
     rw [ownC_other (fkey y hfr)] at ec'
     exact Option.some.inj ((sub y c' ec').symm.trans ec)
    subst this
    refine .inr ⟨?_,c',ec',?_⟩
    ·rcases hkc with rfl | rfl
     ·exact .inl q
     ·exact .inr q
    ·obtain ⟨o,ho,hd⟩:=hc
     exact ⟨o,hk _ _ ho,hd⟩
 ·rcases sub2 y c e with ⟨_,q2,q3⟩ | q
  ·rw [q2]; exact ⟨_,hoc q3⟩
  ·obtain ⟨v,o,ho,hd⟩:=I.cell y c q
   exact ⟨v,o,hk _ _ ho,hd⟩
 ·rcases sub2 y c e with ⟨_,q2,_⟩ | q
  ·rw [q2]; exact I.hok.fresh (Nat.le_succ _)
  ·exact I.freeC y c q
 ·rw [List.length_append,I.len]
  exact (blkN_len X.N x).symm
theorem relab_own {sc:Scope} {env:Env} {x:Str} (h:sc.names.lookup x=some .cell):(relabel sc env).names.lookup x=some .cell:=by
 have e:=lookup_relab (c:=fun n k=>k == NameKind.free && env.scope.kind == .function && env.kindOf n == some .cell) (y:=x) sc.names
 show (sc.names.map fun (n,k)=>if (k == NameKind.free && env.scope.kind == .function && env.kindOf n == some .cell)=true then (n,NameKind.cell) else (n,k)).lookup x=some .cell
 rw [e,h]
 rfl
theorem relab_loc {S:Scope} {N:List Str} {env:Env} (L:LcScope S N sc x):Loc (relabel sc env) x:=by
 rcases L.loc with h | h
 ·exact .inl (lookup_relabel_local h)
 ·exact .inr (relab_own h)
theorem relab_fn {S:Scope} {N:List Str} {env:Env} (L:LcScope S N sc x):decide (x=x∧sc.names.lookup x=some .cell)=true ∨ (relabel sc env).names.lookup x=some .local:=by
 rcases L.loc with h | h
 ·exact .inr (lookup_relabel_local h)
 ·exact .inl (decide_eq_true ⟨rfl,h⟩)
theorem compLoopG {prog:Program} {w:World} {A:Around} {R:Result→Shared→Prop} {elt target iter:Expr} {scope:Scope} {pos:Pos} {it acc:Value} {env:Env} (I:Nat→Shared→Prop)
  (turn:∀ n s,I n s→wpAny (model prog w) A (pyNext it) (fun r s₁=>match r with
   | none=>R (.ok .next) s₁
   | some v=>wpAny (model prog w) A (letOwnedTupleGo target it v) (fun _ s₁'=>wpAny (model prog w) A (assign target env v) (fun _ s₂=>wpAny (model prog w) A (eval elt env) (fun x s₃ =>
     wpAny (model prog w) A (call (.builtin "list.append") [acc,x]) (fun _ s₄=>∃ m,m < n∧I m s₄) (fun _ _=>False) s₃) (fun _ _=>False) s₂) (fun _ _=>False) s₁') (fun _ _=>False) s₁) (fun _ _=>False) s)
  (n:Nat) (h:I n s):codeAny (model prog w) A (.compLoop (.ListComp elt [⟨target,iter,[],0⟩] scope pos) 0 it acc env) R s:=by
 refine codeAny_loop rfl I (fun n s hI=>?_) n h
 show wpAny _ _ ((compTurn (.ListComp elt [⟨target,iter,[],0⟩] scope pos) 0 it acc env).onRaise (fun x=>do noteFrame x env; theTreesLotGoes x)) _ _ s
 refine wpAny_noted ?_
 rw [compTurn_list1]
 refine wpAny_bind (wpAny_standAt (wpAny_bind (wpAny_mono (turn n s hI) (fun r s₁ h₁=>?_) fun _ _ z=>z.elim)))
 cases r with
 | none=>exact wpAny_pure h₁
 | some v =>
  exact wpAny_bind (wpAny_mono h₁ (fun _ s₁' h₁'=>wpAny_bind (wpAny_mono h₁' (fun _ s₂ h₂=>wpAny_bind (wpAny_bind (wpAny_mono h₂ (fun x s₃ h₃=>wpAny_bind (wpAny_mono h₃
   (fun _ s₄ h₄=>wpAny_pure (wpAny_pure ⟨rfl,h₄⟩)) fun _ _ z=>z.elim)) fun _ _ z=>z.elim))) fun _ _ z=>z.elim)) fun _ _ z=>z.elim)
def tLc (ti:TI) (te:TE):TE:=fun σ H Q=>ti σ H fun J H1=>∀ D,H1 D=none→∃ W:Nat→Nat→List V→Hp→Prop,(∃ m,W 0 m [] (upd H1 D (.lst []))) ∧
 ∀ i m ys H',W i m ys H'→H' D=some (.lst ys)∧((J.stop i H'∧Q (.ref D) H') ∨ (J.go i H'∧∀ z H2,J.yld i H' z H2→te (σ++[some z]) H2 fun v H3=>H3 D=some (.lst ys)∧ys.length < sizeLine∧∃ m',m' < m∧W (i+1) m' (ys++[v]) (upd H3 D (.lst (ys++[v])))))
theorem lc_core {elt iter:Expr} {px pos:Pos} {te:TE} {S:Scope} {use:Option (Value→Sem Unit)} {QQ:Value→Shared→Prop} {Q:VK} {it:Addr} {tn:Nat→Heap→Prop} {J:It} (hc:X.calm=true) (L:LcScope S X.N sc x) (hS:X.env.scope=S)
  (he:∀ (s₀:Shared) (H₀:Hp) (fp:List Addr),PE (X.blk (blkN X.N x) sc x s₀ H₀ fp) elt te)
  (I:Inv X pins σ H s) (T:Turn X.prog X.w X.K (.Name x px) J fp it tn) (st:tn 0 s.heap) (hf:∀ b ∈ fp,FpOk X pins H b)
  (h:∀ D,H D=none→∃ W:Nat→Nat→List V→Hp→Prop,(∃ m,W 0 m [] (upd H D (.lst []))) ∧
   ∀ i m ys H',W i m ys H'→H' D=some (.lst ys)∧((J.stop i H'∧Q (.ref D) H') ∨ (J.go i H'∧∀ z H2,J.yld i H' z H2→te (σ++[some z]) H2 fun v H3=>H3 D=some (.lst ys)∧ys.length < sizeLine∧∃ m',m' < m∧W (i+1) m' (ys++[v]) (upd H3 D (.lst (ys++[v]))))))
  (fin:∀ (D C:Addr) (H':Hp) (s':Shared) (m:Str→Option Value),Inv X pins σ H' s'→Q (.ref D) H'→s'.heap.Ns C m→H' C=none→s.heap.objs.size≤C→(∀ p ∈ X.pn++pins,p.1≠C)→C≠X.env.locals→(∀ y c,X.env.cells.lookup y=some c→c≠C)→compPost (model X.prog X.w) X.A X.xe use QQ (.ref D) C (.ok .next) s') :
  wpAny (model X.prog X.w) X.A (newList []) (fun acc s₃=>wpAny (model X.prog X.w) X.A (newFunctionEnv sc X.env.globals (clOf X.env.cells sc.names []) [] X.env.qual none .none (some X.env)) (fun cenv s₄ =>
   codeAny (model X.prog X.w) X.A (.compStart (.ListComp elt [⟨.Name x px,iter,[],0⟩] sc pos) 0 (.ref it) acc { cenv with scope:=relabel sc X.env }) (compPost (model X.prog X.w) X.A X.xe use QQ acc cenv.locals) s₄) X.xe s₃) X.xe s:=by
 refine wpAny_newObj_type ?_
 have hD:H s.heap.objs.size=none:=I.hok.fresh (Nat.le_refl _)
 obtain ⟨W,⟨m0,w0⟩,turn⟩:=h s.heap.objs.size hD
 have I2:Inv X pins σ (upd H s.heap.objs.size (.lst [])) { s with heap:=s.heap.push { cls:=.type "list",data:=.seq ([]:List Value).toArray } }:=I.lnew (t':=s.toks) .nil (Nat.zero_le _)
 have lt0:∀ b ∈ fp,b < s.heap.objs.size:=fun b hb=>by
  obtain ⟨o,e,_⟩:=T.obj 0 s.heap st b hb
  exact Heap.lt_size e
 have hf2:∀ b ∈ fp,FpOk X pins (upd H s.heap.objs.size (.lst [])) b:=fun b hb=>by
  obtain ⟨f0,f⟩:=hf b hb
  exact ⟨by rw [upd_ne (Nat.ne_of_lt (lt0 b hb))]; exact f0,f⟩
 have st2:tn 0 (s.heap.push { cls:=.type "list",data:=.seq ([]:List Value).toArray }):=T.keep 0 _ _ st fun b _ o e=>Heap.get?_push_of_some _ e
 generalize hs2:({ s with heap:=s.heap.push { cls:=.type "list",data:=.seq ([]:List Value).toArray } }:Shared)=s2 at I2
 have eh:s2.heap=s.heap.push { cls:=.type "list",data:=.seq ([]:List Value).toArray }:=by rw [←hs2]
 have lt2:∀ b ∈ fp,b < s2.heap.objs.size:=fun b hb=>by rw [eh,Heap.size_push]; exact Nat.lt_succ_of_lt (lt0 b hb)
 rw [←eh] at st2
 have le2:s.heap.objs.size≤s2.heap.objs.size:=by rw [eh,Heap.size_push]; exact Nat.le_succ _
 show wpAny _ _ _ _ _ s2
 refine newEnv_lc ?_
 rw [L.cells]
 have hp0:=L.heap (s2.heap.push { cls:=.type "dict",data:=.dict #[] })
 have hns0:(s2.heap.push { cls:=.type "dict",data:=.dict #[] }).Ns s2.heap.objs.size _:=Heap.Ns.new s2.heap (.type "dict")
 have hns₁:=hns0.keeps hp0.1
 have hoc:=hp0.2
 rw [Heap.size_push] at hoc
 have keep:∀ b o,s2.heap.get? b=some o→(pushCells (s2.heap.push { cls:=.type "dict",data:=.dict #[] }) sc.names).get? b=some o:=fun b o e=>hp0.1 b o (Heap.get?_push_of_some _ e)
 generalize pushCells (s2.heap.push { cls:=.type "dict",data:=.dict #[] }) sc.names=h₁ at hns₁ hoc keep ⊢
 have J0:Inv (X.blk (blkN X.N x) sc x s2 (upd H s.heap.objs.size (.lst [])) fp) [] (σ++[none]) (upd H s.heap.objs.size (.lst [])) { s2 with heap:=h₁ }:=I2.blk (tk:=s2.toks) L hS hf2 lt2 hns₁ keep hoc
 have st3:tn 0 h₁:=T.keep 0 _ _ st2 fun b _ o e=>keep b o e
 have hl:σ.length=X.N.length:=I.len
 have stat:∀ {H':Hp},(∀ b ∈ fp,H' b=none)→∀ b ∈ fp,FpOk (X.blk (blkN X.N x) sc x s2 (upd H s.heap.objs.size (.lst [])) fp) [] H' b:=fun {H'} hn b hb=>by
  have o1:=J0.ok.exf b hb
  exact ⟨hn b hb,o1.1,J0.ok.exfs b hb,.inl hb,o1.2,fun p hp=>absurd (show p ∈ ([]:List (Addr × Obj)) from hp) (by simp)⟩
 have loop:codeAny (model X.prog X.w) X.A (.compLoop (.ListComp elt [⟨.Name x px,iter,[],0⟩] sc pos) 0 (.ref it) (.ref s.heap.objs.size) (compEnvC sc (ownC sc x (s2.heap.objs.size+1)++clOf X.env.cells sc.names []) s2.heap.objs.size X.env))
   (compPost (model X.prog X.w) X.A X.xe use QQ (.ref s.heap.objs.size) s2.heap.objs.size) { s2 with heap:=h₁ }:=by
  refine compLoopG (fun n s'=>∃ i ys H' o,Inv (X.blk (blkN X.N x) sc x s2 (upd H s.heap.objs.size (.lst [])) fp) [] (σ++[o]) H' s'∧tn i s'.heap∧(∀ b ∈ fp,H' b=none)∧W i n ys H') ?_ m0 ⟨0,[],_,none,J0,st3,fun b hb=>(hf2 b hb).1,w0⟩
  rintro n s4 ⟨i,ys,H4,o,J4,st4,fr4,w4⟩
  obtain ⟨hD4,tt⟩:=turn i n ys H4 w4
  rcases tt with ⟨stop,q⟩ | ⟨go,step⟩
  ·refine thn (T.done (X.blk (blkN X.N x) sc x s2 (upd H s.heap.objs.size (.lst [])) fp) rfl rfl rfl hc i [] s4 _ H4 _ J4 (stat fr4) st4 stop) fun r s5 ⟨hr,J5⟩=>?_
   subst hr
   have I5:Inv X pins σ H4 s5:=I2.call' J5.os J5.base J5.hok J5.bare fun b hb=>by
    obtain ⟨f0,f1,f2,f3,f4,f5⟩:=hf2 b hb
    exact ⟨f3,f1,f4,f5⟩
   obtain ⟨m5,n5,_⟩:=J5.loc
   exact fin _ _ H4 s5 m5 I5 q n5 J5.free le2 (fun p hp z=>by
     have:=Heap.lt_size (I2.pin p hp).1
     rw [z] at this
     exact Nat.lt_irrefl _ this) (Nat.ne_of_gt I2.lt) (fun y c e z=>by
     obtain ⟨v,o,ho,_⟩:=I2.cell y c e
     have:=Heap.lt_size ho
     rw [z] at this
     exact Nat.lt_irrefl _ this)
  ·refine thn (T.item (X.blk (blkN X.N x) sc x s2 (upd H s.heap.objs.size (.lst [])) fp) rfl rfl rfl hc i [] s4 _ H4 _ J4 (stat fr4) st4 go) fun r s5 ⟨u,hr,h5⟩=>?_
   subst hr
   refine thn h5 fun _ s6 ⟨z,H6,J6,r6,y6,st6,fr6⟩=>?_
   have J6':=J6.pinned (stat fr6) (T.obj _ _ st6)
   refine thn (pg_name (X:=X.blk (blkN X.N x) sc x s2 (upd H s.heap.objs.size (.lst [])) fp) (i:=X.N.length) L.nd (by show (blkN X.N x)[X.N.length]? = some x; unfold blkN; rw [List.getElem?_append_right (by simp)]; simp) (relab_loc L) (relab_fn L)
    _ s6 _ H6 z u (fun σ' H'=>σ'=σ++[some z]∧H'=H6) J6' r6 ⟨by
     rw [List.set_append_right _ _ (by omega)]
     have:X.N.length - σ.length=0:=by omega
     rw [this]
     rfl,rfl⟩) fun _ s7 ⟨σ7,H7,J7,e7,e8⟩=>?_
   subst e7 e8
   refine thn (he s2 (upd H s.heap.objs.size (.lst [])) fp _ s7 _ H7 _ J7 (step z H7 y6)) fun vv s8 ⟨v,H8,J8,r8,hD8,hz8,m',hm,w8⟩=>?_
   refine thn (mt_append (X:=X.blk (blkN X.N x) sc x s2 (upd H s.heap.objs.size (.lst [])) fp) _ s8 _ H8 (.ref s.heap.objs.size) [v] (.ref s.heap.objs.size) [vv] (fun _ H'=>H'=upd H8 s.heap.objs.size (.lst (ys++[v]))) J8 rfl (.cons r8 .nil) ⟨_,ys,v,rfl,rfl,hD8,hz8,rfl⟩) fun _ s9 ⟨_,H9,J9,_,e9⟩=>?_
   subst e9
   refine ⟨m',hm,i+1,ys++[v],_,some z,J9.unpinned,T.keep _ _ _ st6 fun b hb o e=>(J9.pin (b,o) (List.mem_append_right _ (List.mem_append_right _ (mem_pinsAt hb e)))).1,fun b hb=>?_,w8⟩
   obtain ⟨o',e',_⟩:=T.obj _ _ st6 b hb
   exact (J9.pin (b,o') (List.mem_append_right _ (List.mem_append_right _ (mem_pinsAt hb e')))).2.1
 refine codeAny_compStart_list loop (T.self _ 0 _ _ _ st3 loop)
theorem pe_lc {elt iter:Expr} {px pos:Pos} {ti:TI} {te:TE} {S:Scope} (hc:X.calm=true) (L:LcScope S X.N sc x) (hS:X.env.scope=S) (hi:PI X (.Name x px) iter ti)
  (he:∀ (s₀:Shared) (H₀:Hp) (fp:List Addr),PE (X.blk (blkN X.N x) sc x s₀ H₀ fp) elt te) (hs:∀ x,foldedSetIterable iter X.env x=pure x:=by intro _; rfl) :
  PE X (.ListComp elt [⟨.Name x px,iter,[],0⟩] sc pos) (tLc ti te):=by
 intro pins s σ H Q I h
 rw [eval_ListComp]
 refine wpAny_comprehension_free (use:=none) rfl hs (closure_of (I.has_cell L hS)) L.kind L.names (thn (hi pins s σ H _ I h) fun xv s₁ h₁=>thn h₁ fun itv s₂ h₂=>?_)
 obtain ⟨it,fp,tn,J,H2,rfl,I2,T,st2,f2,q2⟩:=h₂
 refine lc_core hc L hS he I2 T st2 f2 q2 ?_
 intro D C H' s' m I' q hn hC hle hp hL hcl
 refine ⟨m,hn,fun h' hs'=>?_⟩
 have I3:Inv X pins σ H' { s' with heap:=h' }:=I'.turned (t':=s'.toks) (fun b o hb e=>(hs'.2 b hb).trans e) hC hL (.inr (Nat.le_trans I2.sz hle)) hcl hp
 exact ⟨.ref D,H',I3,rfl,q⟩
theorem ps_setLc {elt iter:Expr} {i:Nat} {y:Str} {px py pos spos:Pos} {ti:TI} {te:TE} {S:Scope} (hN:X.N.Nodup) (hi:X.N[i]? = some y) (hy:Loc X.env.scope y) (hc:X.calm=true) (L:LcScope S X.N sc x) (hS:X.env.scope=S) (hit:PI X (.Name x px) iter ti)
  (he:∀ (s₀:Shared) (H₀:Hp) (fp:List Addr),PE (X.blk (blkN X.N x) sc x s₀ H₀ fp) elt te)
  (hsw:swapsWith (.ListComp elt [⟨.Name x px,iter,[],0⟩] sc pos) (some (.Name y py)) spos.line X.env=pure true:=by rfl) (hs:∀ x,foldedSetIterable iter X.env x=pure x:=by intro _; rfl)
  (hf:X.fn y=true ∨ X.env.scope.names.lookup y=some .local:=by first | exact .inl rfl | exact .inr rfl | assumption) :
  PS X (.Assign [.Name y py] (.ListComp elt [⟨.Name x px,iter,[],0⟩] sc pos) spos) (tAsg (tLc ti te) (gName i)):=by
 intro pins s σ H D I h
 rw [exec_Assign_Name_used _ _ _ _ hsw]
 refine wpAny_bind (wpAny_standAt (wpAny_bind ?_))
 show wpAny _ _ (do let _ ← comprehension (.ListComp elt [⟨.Name x px,iter,[],0⟩] sc pos) sc X.env _ (newList []) false (eval iter X.env) (some (assign (.Name y py) X.env))) _ _ s
 refine wpAny_bind (wpAny_mono (wpAny_comprehension_free (use:=some (assign (.Name y py) X.env)) (Q:=fun _ s'=>SP X pins D .next s') rfl hs (closure_of (I.has_cell L hS)) L.kind L.names
  (thn (hit pins s σ H _ I h) fun xv s₁ h₁=>thn h₁ fun itv s₂ h₂=>?_)) (fun _ s' hq=>wpAny_pure (wpAny_pure hq)) fun _ _ e=>e)
 obtain ⟨it,fp,tn,J,H2,rfl,I2,T,st2,f2,q2⟩:=h₂
 refine lc_core (Q:=fun v H'=>D.nx (σ.set i (some v)) H') hc L hS he I2 T st2 f2 q2 ?_
 intro D' C H' s' m I' q hn hC hle hp hL hcl
 show wpAny _ _ (assign (.Name y py) X.env (.ref D')) _ _ s'
 refine wpAny_assign_Name (store_ok2 I' hN hi hy (v:=.ref D') (u:=.ref D') rfl (fun s'' I'' ⟨a,sb,ha⟩=>?_) hf)
 have nCa:C≠a:=by
  rcases ha with rfl | ha
  ·exact hL
  ·exact fun z=>hcl y a ha z.symm
 refine ⟨m,hn.sameBut sb nCa,fun h' hs'=>?_⟩
 have I3:Inv X pins (σ.set i (some (.ref D'))) H' { s'' with heap:=h' }:=I''.turned (t':=s''.toks) (fun b o hb e=>(hs'.2 b hb).trans e) hC hL (.inr (Nat.le_trans I2.sz hle)) hcl hp
 exact ⟨_,H',I3,q⟩
end
end L2
namespace L2
open PySem PySem.Spec PyProof.Rows
section
variable {X:Cx}
theorem call_sorted:CallR X (.builtin "sorted") (fun xs H Q=>∃ (p:Addr) (ns:List Int),xs=[.ref p]∧SqL X.K H p (ns.map V.int)∧ns.length < 64∧∀ (l:Addr) (ns':List Int),H l=none→ns'.Perm ns→ns'.Pairwise (·≤·)→Q (.ref l) (upd H l (.lst (ns'.map V.int)))):=by
 intro pins s σ H xs us Q I r h
 obtain ⟨p,ns,rfl,hq,hl,q⟩:=h
 obtain ⟨u,rfl,rx⟩:=vals1 r
 cases rx
 obtain ⟨its,rv,pl,hz⟩:=I.list hq
 have hI:IntsAre its ns:=intsAre_of rv
 have hlen:=rv.length
 rw [List.length_map] at hlen
 refine sorted_ints pl.isList hI (by omega) fun out ns' a1 a2 a3=>?_
 obtain ⟨e,he⟩:=sortedAll_at s.heap its out
 have hn:H (s.heap.objs.size+1)=none:=I.hok.fresh (Nat.le_succ _)
 refine ⟨.ref (s.heap.objs.size+1),_,I.laid (t':=s.toks) (fun b o z=>sortedAll_old z) (Nat.le_succ _) ?_,rfl,q _ ns' hn a2 a3⟩
 refine ⟨?_,out.toList,e,vals_ints a1,he⟩
 rw [List.length_map,a2.length_eq]
 exact Nat.le_of_lt (small1000 (by omega))
end
end L2
namespace L2
open PySem PySem.Spec PyProof.Rows
theorem lc_list {K:PySem.W.Frag} {a:Addr} {xs:List V} {te:TE} {Q:Hp→Prop} {σ:St} {H1:Hp} {D:Addr} (Pv:Nat→List V→Hp→Prop) (h0:Pv 0 [] (upd H1 D (.lst []))) (hl:∀ i ys H',i≤xs.length→Pv i ys H'→SqL K H' a xs∧H' D=some (.lst ys))
  (hs:∀ i x ys H',xs[i]? = some x→Pv i ys H'→te (σ++[some x]) H' fun v H3=>H3 D=some (.lst ys)∧ys.length < sizeLine∧Pv (i+1) (ys++[v]) (upd H3 D (.lst (ys++[v])))) (hd:∀ ys H',Pv xs.length ys H'→Q H')
  (mono:∀ σ H Q Q',(∀ v H1,Q v H1→Q' v H1)→te σ H Q→te σ H Q') :
  ∃ W:Nat→Nat→List V→Hp→Prop,(∃ m,W 0 m [] (upd H1 D (.lst []))) ∧
   ∀ i m ys H',W i m ys H'→H' D=some (.lst ys)∧(((Itl K a).stop i H'∧Q H') ∨ ((Itl K a).go i H'∧∀ z H2,(Itl K a).yld i H' z H2→te (σ++[some z]) H2 fun v H3=>H3 D=some (.lst ys)∧ys.length < sizeLine∧∃ m',m' < m∧W (i+1) m' (ys++[v]) (upd H3 D (.lst (ys++[v]))))):=by
 refine ⟨fun i m ys H'=>m=xs.length - i∧i≤xs.length∧Pv i ys H',⟨xs.length,by simp,Nat.zero_le _,h0⟩,?_⟩
 rintro i m ys H' ⟨rfl,hi,p⟩
 obtain ⟨q,eD⟩:=hl i ys H' hi p
 refine ⟨eD,?_⟩
 by_cases hlt:i < xs.length
 ·refine .inr ⟨⟨xs,xs[i],q,by simp [hlt]⟩,fun z H2 y=>?_⟩
  obtain ⟨e,y⟩:=y
  subst e
  refine mono _ _ _ _ (fun v H3 ⟨z1,z2,z3⟩=>⟨z1,z2,xs.length - (i+1),by omega,rfl,hlt,z3⟩) (hs i z ys _ (y xs q) p)
 ·have e:i=xs.length:=by omega
  subst e
  exact .inl ⟨⟨xs,q,Nat.le_refl _⟩,hd ys H' p⟩
end L2
namespace L2
open PySem PySem.Spec PyProof.Rows
section
variable {X:Cx}
theorem call_sum (hc:X.calm=true):CallR X (.builtin "sum") (fun xs H Q=>∃ (p:Addr) (ns:List Int),xs=[.ref p]∧SqL X.K H p (ns.map V.int)∧Q (.int ns.sum) H):=by
 intro pins s σ H xs us Q I r h
 obtain ⟨p,ns,rfl,hq,q⟩:=h
 obtain ⟨u,rfl,rx⟩:=vals1 r
 cases rx
 obtain ⟨its,rv,pl,hz⟩:=I.list hq
 have hI:IntsAre its ns:=intsAre_of rv
 obtain ⟨ys,hx⟩:=hI.allInts.items
 have hl':s.heap.IsList p (intItems ys):=hx ▸ pl.isList
 refine sum_intListG (I.ok.hd hc) hl' fun h' tk t' hk=>?_
 have e1:ns=ys.toList.map (·.1):=by
  rw [←nums_intItems,←hx]
  exact (show numsOf its.toArray.toList=ns from hI.numsOf).symm
 have e2:preSum (numAt ys) ys.size=ns.sum:=by
  rw [preSum_eq,List.take_of_length_le (by simp),e1]
 rw [e2]
 exact ⟨.int ns.sum,H,I.kept hk,⟨_,rfl⟩,q⟩
end
end L2
namespace L2
open PySem PySem.Spec PyProof.Rows
section
variable {X:Cx} {pins:List (Addr × Obj)} {σ:List (Option V)} {H:Hp} {s:Shared} {h':Heap}
theorem Inv.turnedL {t':Nat} {its:List Addr} (I:Inv X pins σ H s) (k:∀ b o,b ∉ its→s.heap.get? b=some o→h'.get? b=some o) (hf:∀ b ∈ its,FpOk X pins H b):Inv X pins σ H { s with heap:=h',toks:=t' }:=by
 have nit:∀ b u,H b=some u→b ∉ its:=fun b u e z=>by rw [(hf b z).1] at e; cases e
 refine I.step (g':=s.gens) (d':=s.drawn) (ch:=its) (fun b hb=>?_) (fun b o _ _ hc e _=>k b o hc e) (fun b o _ _ hc e _=>⟨o.slots,k b o hc e⟩) (fun _ _ _ _ n=>n)
  (fun b o hc e=>⟨o,k b o hc e⟩) (fun _ _ e=>e) (fun _ _ _ e=>e) (fun b ps e=>⟨#[],by rw [e]; simp⟩) (fun m hm=>?_) (fun b u e=>?_) I.bare
 ·obtain ⟨f0,f1,f2,f3,f4,f5⟩:=hf b hb
  exact ⟨f3,f1,f4,f5⟩
 ·obtain ⟨o,es,ep,ho,r⟩:=hm
  exact ⟨o,es,ep,k _ o (fun z=>(hf _ z).2.1 rfl) ho,r⟩
 ·refine (I.hok b u e).stay (fun c v hc q=>k c v ?_ q) (fun _ q=>q) fun _ _ q=>q
  rcases hc with z | z
  ·rw [z]; exact nit b u e
  ·exact nit c _ z
end
def Itz (K:PySem.W.Frag) (a b:Addr):It :=
 ⟨fun i H=>∃ xs ys x y,SqL K H a xs∧SqL K H b ys∧xs[i]? = some x∧ys[i]? = some y,
  fun i H z H'=>∃ t x y,z=.ref t∧H t=none∧H'=upd H t (.tup [x,y])∧(∀ xs,SqL K H a xs→xs[i]? = some x)∧∀ ys,SqL K H b ys→ys[i]? = some y,
  fun i H=>∃ xs ys,SqL K H a xs∧SqL K H b ys∧(xs.length≤i ∨ ys.length≤i)⟩
structure Ap5 (z TI TO i1 i2:Addr):Prop where
 a1:TI≠z
 a2:TO≠z
 a3:i1≠z
 a4:i2≠z
 a5:TI≠TO
 a6:TI≠i1
 a7:TI≠i2
 a8:TO≠i1
 a9:TO≠i2
 b1:i1≠i2
def ZSt (z TI TO i1 i2 a b:Addr) (i:Nat) (h:Heap):Prop:=IsZip h z TI TO .none∧IsPair h TI (.ref i1) (.ref i2)∧(∃ c d,IsPair h TO c d)∧h.IsListIter i1 a i∧h.IsListIter i2 b i
theorem cls_ne {h:Heap} {a b:Addr} {o o':Obj} (e:h.get? a=some o) (e':h.get? b=some o') (n:o.cls≠o'.cls):a≠b:=fun z=>by
 subst z
 rw [e] at e'
 cases e'
 exact n rfl
theorem zap {h:Heap} {z TI TO i1 i2 a b:Addr} {i:Nat} {xs ys:Array Value} (D:Ap5 z TI TO i1 i2) (st:ZSt z TI TO i1 i2 a b i h) (ha:h.IsList a xs) (hb:h.IsList b ys):ZipApart z TI TO i1 i2 a b:=by
 obtain ⟨hz,hTI,⟨c,d,hTO⟩,⟨o1,e1,c1,_⟩,⟨o2,e2,c2,_⟩⟩:=st
 obtain ⟨oa,ea,ca,_⟩:=ha
 obtain ⟨ob,eb,cb,_⟩:=hb
 exact ⟨D.a1,D.a2,D.a3,D.a4,D.a5,D.a6,D.a7,D.a8,D.a9,D.b1,
  cls_ne ea hz (by rw [ca]; show Value.type "list"≠Value.type "zip"; decide),cls_ne ea hTO (by rw [ca]; show Value.type "list"≠Value.type "tuple"; decide),cls_ne ea e1 (by rw [ca,c1]; decide),cls_ne ea e2 (by rw [ca,c2]; decide),
  cls_ne eb hz (by rw [cb]; show Value.type "list"≠Value.type "zip"; decide),cls_ne eb hTO (by rw [cb]; show Value.type "list"≠Value.type "tuple"; decide),cls_ne eb e1 (by rw [cb,c1]; decide),cls_ne eb e2 (by rw [cb,c2]; decide)⟩
theorem turn_zip {P:Program} {w:World} {K:PySem.W.Frag} {elts:List Expr} {ek:Nat} {epos:Pos} {z TI TO i1 i2 a b:Addr} (D:Ap5 z TI TO i1 i2):Turn P w K (.Tuple elts ek epos) (Itz K a b) [z,TI,TO,i1,i2] z (ZSt z TI TO i1 i2 a b) where
 mem:=by simp
 obj:=fun i h st c hc=>by
  obtain ⟨hz,hTI,⟨p,q,hTO⟩,⟨o1,e1,c1,d1⟩,⟨o2,e2,c2,d2⟩⟩:=st
  have hc':c=z ∨ c=TI ∨ c=TO ∨ c=i1 ∨ c=i2:=by simpa using hc
  rcases hc' with rfl | rfl | rfl | rfl | rfl
  ·exact ⟨_,hz,fun v e=>by cases e⟩
  ·exact ⟨_,hTI,fun v e=>by cases e⟩
  ·exact ⟨_,hTO,fun v e=>by cases e⟩
  ·exact ⟨_,e1,fun v e=>by rw [d1] at e; cases e⟩
  ·exact ⟨_,e2,fun v e=>by rw [d2] at e; cases e⟩
 keep:=fun i h h' st k=>by
  obtain ⟨hz,hTI,⟨p,q,hTO⟩,l1,l2⟩:=st
  exact ⟨k z (by simp) _ hz,k TI (by simp) _ hTI,⟨p,q,k TO (by simp) _ hTO⟩,l1.at fun o e=>k i1 (by simp) o e,l2.at fun o e=>k i2 (by simp) o e⟩
 item:=by
  intro X hP hw hK hc i pins s σ H E I hf st hg
  subst hP hw hK
  obtain ⟨xs,ys,x,y,hx,hy,ex,ey⟩:=hg
  obtain ⟨ia,ra,pa,za⟩:=I.list hx
  obtain ⟨ib,rb,pb,zb⟩:=I.list hy
  obtain ⟨u,hu,ru⟩:=ra.get ex
  obtain ⟨v,hv,rv⟩:=rb.get ey
  have A:=zap D st pa.isList pb.isList
  have stl:=st
  obtain ⟨hz,hTI,⟨p,q,hTO⟩,l1,l2⟩:=st
  refine wpAny_pyNext_zip_item A hz hTI hTO l1 l2 pa.isList pb.isList (x:=u) (y:=v) (by simpa using hu) (by simpa using hv) fun h' a1 a2 a3 a4 a5 a6 a7=>?_
  refine ⟨_,rfl,wpAny_letOwnedTupleGo_zip a1 fun h2 b1 b2=>?_⟩
  have hT:H s.heap.objs.size=none:=I.hok.fresh (Nat.le_refl _)
  have ltz:∀ c o,s.heap.get? c=some o→s.heap.objs.size≠c:=fun c o e=>Nat.ne_of_gt (Heap.lt_size e)
  have hTI':=a7 _ _ D.a1 D.a5 D.a6 D.a7 hTI
  have Tz:s.heap.objs.size≠z:=ltz _ _ hz
  have aT:h2.get? s.heap.objs.size=some { cls:=.type "tuple",data:=.seq #[u,v] }:=b2.extBut _ _ Tz a5
  have k2:∀ c o,c≠z→c≠TO→c≠i1→c≠i2→s.heap.get? c=some o→h2.get? c=some o:=fun c o n1 n2 n3 n4 e=>b2.extBut _ _ n1 (a7 c o n1 n2 n3 n4 e)
  have I1:Inv X pins σ (upd H s.heap.objs.size (.tup [x,y])) { s with heap:=s.heap.push { cls:=.type "tuple",data:=.seq #[u,v] } }:=by
   refine I.laid (t':=s.toks) (fun c o e=>Heap.get?_push_of_some _ e) (Nat.le_refl _) ?_
   exact ⟨(by show 2≤sizeLine; decide),[u,v],.cons ru (.cons rv .nil),IsTup.new s.heap _⟩
  have hf1:∀ c ∈ [z,TI,TO,i1,i2],FpOk X pins (upd H s.heap.objs.size (.tup [x,y])) c:=fun c hc'=>by
   obtain ⟨f0,f⟩:=hf c hc'
   refine ⟨?_,f⟩
   have:∃ o,s.heap.get? c=some o:=by
    have hc'':c=z ∨ c=TI ∨ c=TO ∨ c=i1 ∨ c=i2:=by simpa using hc'
    obtain ⟨o1,e1,_⟩:=l1
    obtain ⟨o2,e2,_⟩:=l2
    rcases hc'' with rfl | rfl | rfl | rfl | rfl
    ·exact ⟨_,hz⟩
    ·exact ⟨_,hTI⟩
    ·exact ⟨_,hTO⟩
    ·exact ⟨_,e1⟩
    ·exact ⟨_,e2⟩
   obtain ⟨o,e⟩:=this
   rw [upd_ne (ltz c o e).symm]
   exact f0
  have I2:Inv X pins σ (upd H s.heap.objs.size (.tup [x,y])) { s with heap:=h2 }:=by
   refine Inv.turnedL (s:={ s with heap:=s.heap.push { cls:=.type "tuple",data:=.seq #[u,v] } }) (h':=h2) (t':=s.toks) (its:=[z,TI,TO,i1,i2]) I1 (fun c o hc' e=>?_) hf1
   have hc'':¬ (c=z ∨ c=TI ∨ c=TO ∨ c=i1 ∨ c=i2):=by simpa using hc'
   by_cases hcs:c=s.heap.objs.size
   ·subst hcs
    have e':(s.heap.push { cls:=.type "tuple",data:=.seq #[u,v] }).get? s.heap.objs.size=some o:=e
    rw [Heap.get?_push_size _ rfl] at e'
    cases e'
    exact aT
   ·have hlt:c < (s.heap.push { cls:=.type "tuple",data:=.seq #[u,v] }).objs.size:=Heap.lt_size e
    rw [Heap.size_push] at hlt
    refine k2 c o (fun z'=>hc'' (.inl z')) (fun z'=>hc'' (.inr (.inr (.inl z')))) (fun z'=>hc'' (.inr (.inr (.inr (.inl z'))))) (fun z'=>hc'' (.inr (.inr (.inr (.inr z'))))) ?_
    rw [←e]
    exact (Heap.get?_push_ne _ _ _ hcs).symm
  refine ⟨.ref s.heap.objs.size,_,I2,rfl,⟨_,x,y,rfl,hT,rfl,fun ws hw=>by rw [I.list_inj hw hx]; exact ex,fun ws hw=>by rw [I.list_inj hw hy]; exact ey⟩,?_,fun c hc'=>(hf1 c hc').1⟩
  exact ⟨b1,b2.extBut _ _ D.a1 hTI',⟨_,_,b2.extBut _ _ D.a2 a2⟩,a3.extBut b2.extBut D.a3,a4.extBut b2.extBut D.a4⟩
 done:=by
  intro X hP hw hK hc i pins s σ H E I hf st hg
  subst hP hw hK
  obtain ⟨xs,ys,hx,hy,hl⟩:=hg
  obtain ⟨ia,ra,pa,za⟩:=I.list hx
  obtain ⟨ib,rb,pb,zb⟩:=I.list hy
  have A:=zap D st pa.isList pb.isList
  have hla:=ra.length
  have hlb:=rb.length
  obtain ⟨hz,hTI,⟨p,q,hTO⟩,l1,l2⟩:=st
  refine wpAny_pyNext_zip_end (I.ok.hd hc) A hz hTI hTO l1 l2 pa.isList pb.isList (by
   rcases hl with hl | hl
   ·exact .inl (by simp; omega)
   ·exact .inr (by simp; omega)) fun h' k=>⟨rfl,?_⟩
  exact I.turnedL (t':=s.toks) (its:=[z,TI,TO,i1,i2]) (fun c o hc' e=>by
   have hc'':¬ (c=z ∨ c=TI ∨ c=TO ∨ c=i1 ∨ c=i2):=by simpa using hc'
   exact k c o (fun z'=>hc'' (.inl z')) (fun z'=>hc'' (.inr (.inr (.inl z')))) (fun z'=>hc'' (.inr (.inr (.inr (.inl z'))))) (fun z'=>hc'' (.inr (.inr (.inr (.inr z'))))) e) hf
 self:=fun _ _ _ _ _ st h=>wpAny_pyIter_zip st.1 h
section
variable {X:Cx}
def iZip (K:PySem.W.Frag) (ta:TA):TI:=fun σ H R=>ta σ H fun vs H1=>∃ a b,vs=[.ref a,.ref b]∧(∃ xs,SqL K H1 a xs)∧(∃ ys,SqL K H1 b ys)∧R (Itz K a b) H1
theorem boot_zip:bootBuiltins "zip" = some (.type "zip"):=by decide +kernel
theorem pi_zip {elts:List Expr} {ek:Nat} {epos:Pos} {a b:Expr} {ta:TA} {p pos:Pos} (hg:Gl X "zip") (hm:X.mg "zip" = none) (ha:PA X [a,b] ta) (hs:starEach [a,b] X.env=[(false,eval a X.env),(false,eval b X.env)]:=by rfl) (hs2:starEach [b] X.env=[(false,eval b X.env)]:=by rfl) :
  PI X (.Tuple elts ek epos) (.Call (.Name "zip" p) [a,b] [] pos) (iZip X.K ta):=by
 intro pins s σ H R I h
 refine Call_ (ld_blt I hg hm boot_zip (PyProof.Rows.callWith_type1 (thn (ha pos pins s σ H _ I h) fun us s1 ⟨vs,H1,I1,r1,q1⟩=>?_) (by rw [hs,hs2]) (by rw [hs2]; rfl)))
 obtain ⟨l1,l2,e,⟨xs,hx⟩,⟨ys,hy⟩,q⟩:=q1
 subst e
 obtain ⟨u,v,rfl,ru,rv⟩:=vals2 r1
 cases ru
 cases rv
 obtain ⟨ia,ra,pa,za⟩:=I1.list hx
 obtain ⟨ib,rb,pb,zb⟩:=I1.list hy
 refine call_zip_2 pa.isList pb.isList fun h' hz hTI hTO hi1 hi2 hsz hk=>wpAny_pyIter_zip hz ?_
 have fr:∀ b,s1.heap.objs.size≤b→FpOk X pins H1 b:=fun b hb=>I1.fpOk hb (I1.hok.fresh hb)
 refine ⟨_,[s1.heap.objs.size+4,s1.heap.objs.size+2,s1.heap.objs.size+3,s1.heap.objs.size,s1.heap.objs.size+1],_,_,H1,rfl,I1.kept (t':=s1.toks) hk,
  turn_zip (TI:=s1.heap.objs.size+2) (TO:=s1.heap.objs.size+3) (i1:=s1.heap.objs.size) (i2:=s1.heap.objs.size+1) (a:=l1) (b:=l2) ?_,⟨hz,hTI,⟨_,_,hTO⟩,hi1,hi2⟩,fun b hb=>?_,q⟩
 ·generalize s1.heap.objs.size=n
  have ne:∀ {x y:Nat},x≠y→(n+x:Nat)≠n+y:=fun h e=>h (Nat.add_left_cancel e)
  exact ⟨ne (by decide),ne (by decide),ne (x:=0) (by decide),ne (by decide),ne (by decide),ne (y:=0) (by decide),ne (by decide),ne (y:=0) (by decide),ne (by decide),ne (x:=0) (by decide)⟩
 ·have hb':b=s1.heap.objs.size+4 ∨ b=s1.heap.objs.size+2 ∨ b=s1.heap.objs.size+3 ∨ b=s1.heap.objs.size ∨ b=s1.heap.objs.size+1:=by simpa using hb
  rcases hb' with rfl | rfl | rfl | rfl | rfl
  ·exact fr _ (Nat.le_add_right _ _)
  ·exact fr _ (Nat.le_add_right _ _)
  ·exact fr _ (Nat.le_add_right _ _)
  ·exact fr _ (Nat.le_refl _)
  ·exact fr _ (Nat.le_add_right _ _)
end
end L2
namespace L2
open PySem PySem.Spec PyProof.Rows
def hid (y:Str):Str:="."++y
def blkNs (N xs:List Str):List Str:=N.map (fun y=>if y ∈ xs then hid y else y)++xs
structure LcScopes (S:Scope) (N:List Str) (sc:Scope) (xs:List Str):Prop where
 uniq:(sc.names.map (·.1)).Nodup
 kind:sc.kind=.function
 names:∀ y ∈ sc.names,y.2=.local→sc.names.lookup y.1=some .local
 loc:∀ x ∈ xs,sc.names.lookup x=some .local
 free:∀ y ∈ sc.names,y.2=.free→S.names.lookup y.1=some .cell ∨ S.names.lookup y.1=some .free
 only:∀ y ∈ sc.names,y.2=.local→y.1 ∈ xs ∨ y.1 = ".0"
 noC:∀ y ∈ sc.names,y.2≠.cell
 ne:∀ y ∈ sc.names,∀ x ∈ xs,y.1≠hid x
 dot:∀ y ∈ N,y≠".0"
 nd:(blkNs N xs).Nodup
def Cx.blks (X:Cx) (N':List Str) (sc:Scope) (s₀:Shared) (H₀:Hp) (fp:List Addr):Cx :=
 { X with N:=N',s₀:=s₀,H₀:=H₀,env:=compEnvC sc (clOf X.env.cells sc.names []) s₀.heap.objs.size X.env,outer:=X.stack,stack:=X.stack,ex:=fp,fn:=fun _=>false,pn:=[],xe:=fun _ _=>False }
section
variable {X:Cx} {pins:List (Addr × Obj)} {σ:St} {H:Hp} {s:Shared} {sc:Scope} {xs:List Str} {fp:List Addr}
theorem blkNs_len (N xs:List Str):(blkNs N xs).length=N.length+xs.length:=by simp [blkNs]
theorem blkNs_at {N xs:List Str} {i:Nat} {y:Str} (h:(blkNs N xs)[i]? = some y) (hi:i < N.length):∃ y0,N[i]? = some y0∧((y0 ∈ xs∧y=hid y0) ∨ (y0 ∉ xs∧y=y0)):=by
 unfold blkNs at h
 rw [List.getElem?_append_left (by simpa using hi),List.getElem?_map] at h
 cases q:N[i]? with
 | none=>rw [q] at h; cases h
 | some y0 =>
  rw [q] at h
  refine ⟨y0,rfl,?_⟩
  have h':(if y0 ∈ xs then hid y0 else y0)=y:=Option.some.inj h
  by_cases e:y0 ∈ xs
  ·rw [if_pos e] at h'; exact .inl ⟨e,h'.symm⟩
  ·rw [if_neg e] at h'; exact .inr ⟨e,h'.symm⟩
theorem Inv.has_cells (I:Inv X pins σ H s) {S:Scope} (L:LcScopes S X.N sc xs) (hS:X.env.scope=S):∀ y ∈ sc.names,y.2=.free→(X.env.cells.lookup y.1).isSome=true:=fun y hy hf=>by
 have k:X.env.kindOf y.1=some .cell ∨ X.env.kindOf y.1=some .free:=by
  show X.env.scope.names.lookup y.1=_ ∨ X.env.scope.names.lookup y.1=_
  rw [hS]
  exact L.free y hy hf
 obtain ⟨c,e⟩:=I.ok.has y.1 k
 rw [e]; rfl
theorem Inv.blks (I:Inv X pins σ H s) {S:Scope} (L:LcScopes S X.N sc xs) (hS:X.env.scope=S) (hf:∀ b ∈ fp,FpOk X pins H b) (hb:∀ b ∈ fp,b < s.heap.objs.size) {h1:Heap} {tk:Nat} {m:Str→Option Value} (hn:h1.Ns s.heap.objs.size m)
  (hk:∀ b o,s.heap.get? b=some o→h1.get? b=some o):Inv (X.blks (blkNs X.N xs) sc s H fp) [] (σ++xs.map fun _=>none) H { s with heap:=h1,toks:=tk }:=by
 have sub:∀ y c,(clOf X.env.cells sc.names []).lookup y=some c→X.env.cells.lookup y=some c:=clOf_sub sc.names [] fun _ _ z=>by cases z
 have hasC:∀ y,(y,NameKind.free) ∈ sc.names→∃ c,(clOf X.env.cells sc.names []).lookup y=some c:=fun y hy =>
  Option.isSome_iff_exists.mp (clOf_has (I.has_cells L hS (y,.free) hy rfl) sc.names [] hy)
 have kinds:∀ y k,(relabel sc X.env).names.lookup y=some k→(k=.cell ∨ k=.free)→(y,NameKind.free) ∈ sc.names:=fun y k e hk=>by
  obtain ⟨k0,hm,q⟩:=relab_lookup e
  rcases q with rfl | ⟨_,rfl⟩
  ·rcases hk with rfl | rfl
   ·exact absurd rfl (L.noC _ hm)
   ·exact hm
  ·exact hm
 have stk:=I.stkSub
 refine ⟨⟨I.ok.mod,L.kind,I.ok.glob,I.ok.blt,Nat.le_refl _,fun y z c e1 e2=>?_,fun y hy=>?_,fun y c z e=>?_,I.ok.hd,I.ok.frames,.inl rfl,fun b hb'=>?_,I.bs,Nat.le_trans I.ok.bsz I.sz,fun b o e hb'=>?_,fun b hb' z=>?_,I.stack,I.stkFree⟩,
  rfl,I.bare,Un.kept hk,⟨m,hn,fun i y v e1 e2 e3=>?_⟩,fun y c e=>?_,I.hok.fresh (Nat.le_refl _),fun y c e=>?_,fun p hp=>absurd (show p ∈ ([]:List (Addr × Obj)) from hp) (by simp),I.hok.kept hk,?_⟩
 ·exact I.ok.inj y z c (sub y c e1) (sub z c e2)
 ·have hy':(relabel sc X.env).names.lookup y=some .cell ∨ (relabel sc X.env).names.lookup y=some .free:=hy
  rcases hy' with e | e
  ·exact hasC y (kinds y _ e (.inl rfl))
  ·exact hasC y (kinds y _ e (.inr rfl))
 ·exact absurd (show false=true from z) (by decide)
 ·obtain ⟨f0,f1,f2,f3,f4,f5⟩:=hf b hb'
  exact ⟨Nat.ne_of_lt (hb b hb'),fun y c e z=>f4 y c (sub y c e) z⟩
 ·obtain ⟨f0,f1,f2,f3,f4,f5⟩:=hf b hb'
  rcases f3 with z | z
  ·exact I.ok.noex b o e z
  ·exact absurd (Nat.lt_of_lt_of_le (Heap.lt_size (I.ok.bs b o e).1) z) (Nat.lt_irrefl _)
 ·obtain ⟨f0,f1,f2,f3,f4,f5⟩:=hf b hb'
  rcases List.mem_cons.mp (stk b z) with q | q
  ·exact f1 q
  ·exact f2 q
 ·have hl:σ.length=X.N.length:=I.len
  have hi:i < X.N.length:=by
   by_cases hi:i < σ.length
   ·omega
   ·rw [List.getElem?_append_right (by omega),List.getElem?_map] at e2
    cases q:xs[i - σ.length]? with
    | none=>rw [q] at e2; cases e2
    | some n=>rw [q] at e2; cases e2
  rw [List.getElem?_append_left (by omega)] at e2
  obtain ⟨y0,g1,g2⟩:=blkNs_at e1 hi
  have vis:∃ k,(relabel sc X.env).names.lookup y=some k∧(k=.local ∨ k=.cell ∨ k=.free):=by
   rcases e3 with q | q | q
   ·exact ⟨_,q,.inl rfl⟩
   ·exact ⟨_,q,.inr (.inl rfl)⟩
   ·exact ⟨_,q,.inr (.inr rfl)⟩
  obtain ⟨k,q,hk'⟩:=vis
  obtain ⟨k0,hm,q0⟩:=relab_lookup q
  rcases g2 with ⟨g2,rfl⟩ | ⟨g2,rfl⟩
  ·exact absurd rfl (L.ne _ hm _ g2)
  ·have hkc:k=.cell ∨ k=.free:=by
    rcases hk' with rfl | z
    ·exfalso
     rcases q0 with rfl | ⟨z,_⟩
     ·rcases L.only _ hm rfl with z | z
      ·exact g2 z
      ·exact L.dot y (List.mem_of_getElem? g1) z
     ·cases z
    ·exact z
   have hfr:(y,NameKind.free) ∈ sc.names:=kinds y k q hkc
   have visX:X.env.scope.names.lookup y=some .cell ∨ X.env.scope.names.lookup y=some .free:=by rw [hS]; exact L.free _ hfr rfl
   obtain ⟨m0,_,hl0⟩:=I.loc
   obtain ⟨u,r,lk⟩:=hl0 i y v g1 e2 (.inr visX)
   refine ⟨u,r,?_⟩
   rcases lk with ⟨z,_⟩ | ⟨_,c,ec,hc⟩
   ·exfalso
    have z':X.env.scope.names.lookup y=some .local:=z
    rcases visX with w' | w' <;> rw [z'] at w' <;> cases w'
   ·obtain ⟨c',ec'⟩:=hasC y hfr
    have:c'=c:=Option.some.inj ((sub y c' ec').symm.trans ec)
    subst this
    refine .inr ⟨?_,c',ec',?_⟩
    ·rcases hkc with rfl | rfl
     ·exact .inl q
     ·exact .inr q
    ·obtain ⟨o,ho,hd⟩:=hc
     exact ⟨o,hk _ _ ho,hd⟩
 ·obtain ⟨v,o,ho,hd⟩:=I.cell y c (sub y c e)
  exact ⟨v,o,hk _ _ ho,hd⟩
 ·exact I.freeC y c (sub y c e)
 ·rw [List.length_append,List.length_map,I.len]
  exact (blkNs_len X.N xs).symm
def PTs (X:Cx) (ifs:List Expr) (t:TT):Prop :=
 ∀ (pins:List (Addr × Obj)) (s:Shared) (σ:St) (H:Hp) (Q:Bool→Hp→Prop),Inv X pins σ H s→t σ H Q →
  wpAny (model X.prog X.w) X.A (forIn ifs true fun c r=>if r=true then do let ok ← isTrue c X.env (eval c X.env); pure (ForInStep.yield ok) else pure (ForInStep.yield r)) (TP X pins σ Q) X.xe s
def tYes:TT:=fun _ H Q=>Q true H
theorem pts_nil:PTs X [] tYes:=fun _ _ _ H _ I h=>wpAny_tests_nil ⟨H,I,h⟩
theorem pts_one {c:Expr} {t:TT} (h:PT X c t):PTs X [c] t:=fun pins s σ H Q I q=>wpAny_tests_one (h pins s σ H Q I q)
theorem compLoopT {prog:Program} {w:World} {A:Around} {R:Result→Shared→Prop} {elt target iter:Expr} {ifs:List Expr} {scope:Scope} {pos:Pos} {it acc:Value} {env:Env} (I:Nat→Shared→Prop)
  (turn:∀ n s,I n s→wpAny (model prog w) A (pyNext it) (fun r s₁=>match r with
   | none=>R (.ok .next) s₁
   | some v=>wpAny (model prog w) A (letOwnedTupleGo target it v) (fun _ s₁'=>wpAny (model prog w) A (assign target env v) (fun _ s₂ =>
     wpAny (model prog w) A (forIn ifs true fun c r=>if r=true then do let ok ← isTrue c env (eval c env); pure (ForInStep.yield ok) else pure (ForInStep.yield r)) (fun ok s₃ =>
      if ok=true then wpAny (model prog w) A (eval elt env) (fun x s₄ =>
       wpAny (model prog w) A (call (.builtin "list.append") [acc,x]) (fun _ s₅=>∃ m,m < n∧I m s₅) (fun _ _=>False) s₄) (fun _ _=>False) s₃
      else ∃ m,m < n∧I m s₃) (fun _ _=>False) s₂) (fun _ _=>False) s₁') (fun _ _=>False) s₁) (fun _ _=>False) s)
  (n:Nat) (h:I n s):codeAny (model prog w) A (.compLoop (.ListComp elt [⟨target,iter,ifs,0⟩] scope pos) 0 it acc env) R s:=by
 refine codeAny_loop rfl I (fun n s hI=>?_) n h
 show wpAny _ A ((compTurn (.ListComp elt [⟨target,iter,ifs,0⟩] scope pos) 0 it acc env).onRaise (fun x=>do noteFrame x env; theTreesLotGoes x)) _ _ s
 refine wpAny_noted ?_
 rw [compTurn_list]
 refine wpAny_bind (wpAny_standAt (wpAny_bind (wpAny_mono (turn n s hI) (fun r s₁ h₁=>?_) fun _ _ z=>z.elim)))
 cases r with
 | none=>exact wpAny_pure h₁
 | some v =>
  refine wpAny_bind (wpAny_mono h₁ (fun _ s₁' h₁'=>?_) fun _ _ z=>z.elim)
  refine wpAny_bind (wpAny_mono h₁' (fun _ s₂ h₂=>wpAny_bind (wpAny_mono h₂ (fun ok s₃ h₃=>?_) fun _ _ z=>z.elim)) fun _ _ z=>z.elim)
  cases ok with
  | false=>exact wpAny_pure ⟨rfl,h₃⟩
  | true =>
   exact wpAny_bind (wpAny_bind (wpAny_mono h₃ (fun x s₄ h₄=>wpAny_bind (wpAny_mono h₄ (fun _ s₅ h₅=>wpAny_pure (wpAny_pure ⟨rfl,h₅⟩)) fun _ _ z=>z.elim)) fun _ _ z=>z.elim))
def LcW (n:Nat) (J:It) (g:TG) (tt:TT) (te:TE) (σ:St) (H1:Hp) (Q:VK):Prop:=∀ D,H1 D=none→∃ W:Nat→Nat→List V→Hp→Prop,(∃ m,W 0 m [] (upd H1 D (.lst []))) ∧
 ∀ i m ys H',W i m ys H'→H' D=some (.lst ys)∧((J.stop i H'∧Q (.ref D) H') ∨ (J.go i H'∧∀ z H2,J.yld i H' z H2→∀ os:St,os.length=n→g z (σ++os) H2 fun σ' H3=>(∃ os':St,σ'=σ++os'∧os'.length=n)∧tt σ' H3 fun ok H4 =>
  if ok=true then te σ' H4 fun v H5=>H5 D=some (.lst ys)∧ys.length < sizeLine∧∃ m',m' < m∧W (i+1) m' (ys++[v]) (upd H5 D (.lst (ys++[v]))) else ∃ m',m' < m∧W (i+1) m' ys H4))
def tLcs (n:Nat) (ti:TI) (g:TG) (tt:TT) (te:TE):TE:=fun σ H Q=>ti σ H fun J H1=>LcW n J g tt te σ H1 Q
theorem lcs_core {elt iter target:Expr} {ifs:List Expr} {pos:Pos} {g:TG} {tt:TT} {te:TE} {S:Scope} {use:Option (Value→Sem Unit)} {QQ:Value→Shared→Prop} {Q:VK} {it:Addr} {tn:Nat→Heap→Prop} {J:It} (hc:X.calm=true) (L:LcScopes S X.N sc xs) (hS:X.env.scope=S)
  (hg:∀ (s₀:Shared) (H₀:Hp) (fp:List Addr),PG (X.blks (blkNs X.N xs) sc s₀ H₀ fp) target g) (ht:∀ (s₀:Shared) (H₀:Hp) (fp:List Addr),PTs (X.blks (blkNs X.N xs) sc s₀ H₀ fp) ifs tt)
  (he:∀ (s₀:Shared) (H₀:Hp) (fp:List Addr),PE (X.blks (blkNs X.N xs) sc s₀ H₀ fp) elt te)
  (I:Inv X pins σ H s) (T:Turn X.prog X.w X.K target J fp it tn) (st:tn 0 s.heap) (hf:∀ b ∈ fp,FpOk X pins H b) (h:LcW xs.length J g tt te σ H Q)
  (fin:∀ (D C:Addr) (H':Hp) (s':Shared) (m:Str→Option Value),Inv X pins σ H' s'→Q (.ref D) H'→s'.heap.Ns C m→H' C=none→s.heap.objs.size≤C→(∀ p ∈ X.pn++pins,p.1≠C)→C≠X.env.locals→(∀ y c,X.env.cells.lookup y=some c→c≠C)→compPost (model X.prog X.w) X.A X.xe use QQ (.ref D) C (.ok .next) s') :
  wpAny (model X.prog X.w) X.A (newList []) (fun acc s₃=>wpAny (model X.prog X.w) X.A (newFunctionEnv sc X.env.globals (clOf X.env.cells sc.names []) [] X.env.qual none .none (some X.env)) (fun cenv s₄ =>
   codeAny (model X.prog X.w) X.A (.compStart (.ListComp elt [⟨target,iter,ifs,0⟩] sc pos) 0 (.ref it) acc { cenv with scope:=relabel sc X.env }) (compPost (model X.prog X.w) X.A X.xe use QQ acc cenv.locals) s₄) X.xe s₃) X.xe s:=by
 refine wpAny_newObj_type ?_
 have hD:H s.heap.objs.size=none:=I.hok.fresh (Nat.le_refl _)
 obtain ⟨W,⟨m0,w0⟩,turn⟩:=h s.heap.objs.size hD
 have I2:Inv X pins σ (upd H s.heap.objs.size (.lst [])) { s with heap:=s.heap.push { cls:=.type "list",data:=.seq ([]:List Value).toArray } }:=I.lnew (t':=s.toks) .nil (Nat.zero_le _)
 have lt0:∀ b ∈ fp,b < s.heap.objs.size:=fun b hb=>by
  obtain ⟨o,e,_⟩:=T.obj 0 s.heap st b hb
  exact Heap.lt_size e
 have hf2:∀ b ∈ fp,FpOk X pins (upd H s.heap.objs.size (.lst [])) b:=fun b hb=>by
  obtain ⟨f0,f⟩:=hf b hb
  exact ⟨by rw [upd_ne (Nat.ne_of_lt (lt0 b hb))]; exact f0,f⟩
 have st2:tn 0 (s.heap.push { cls:=.type "list",data:=.seq ([]:List Value).toArray }):=T.keep 0 _ _ st fun b _ o e=>Heap.get?_push_of_some _ e
 generalize hs2:({ s with heap:=s.heap.push { cls:=.type "list",data:=.seq ([]:List Value).toArray } }:Shared)=s2 at I2
 have eh:s2.heap=s.heap.push { cls:=.type "list",data:=.seq ([]:List Value).toArray }:=by rw [←hs2]
 have lt2:∀ b ∈ fp,b < s2.heap.objs.size:=fun b hb=>by rw [eh,Heap.size_push]; exact Nat.lt_succ_of_lt (lt0 b hb)
 rw [←eh] at st2
 have le2:s.heap.objs.size≤s2.heap.objs.size:=by rw [eh,Heap.size_push]; exact Nat.le_succ _
 show wpAny _ _ _ _ _ s2
 refine newEnv_lc ?_
 rw [cellsFrom_none L.noC,pushCells_none L.noC]
 have hns₁:(s2.heap.push { cls:=.type "dict",data:=.dict #[] }).Ns s2.heap.objs.size _:=Heap.Ns.new s2.heap (.type "dict")
 have keep:∀ b o,s2.heap.get? b=some o→(s2.heap.push { cls:=.type "dict",data:=.dict #[] }).get? b=some o:=fun b o e=>Heap.get?_push_of_some _ e
 generalize s2.heap.push { cls:=.type "dict",data:=.dict #[] }=h₁ at hns₁ keep ⊢
 have J0:Inv (X.blks (blkNs X.N xs) sc s2 (upd H s.heap.objs.size (.lst [])) fp) [] (σ++xs.map fun _=>none) (upd H s.heap.objs.size (.lst [])) { s2 with heap:=h₁ }:=I2.blks (tk:=s2.toks) L hS hf2 lt2 hns₁ keep
 have st3:tn 0 h₁:=T.keep 0 _ _ st2 fun b _ o e=>keep b o e
 have stat:∀ {H':Hp},(∀ b ∈ fp,H' b=none)→∀ b ∈ fp,FpOk (X.blks (blkNs X.N xs) sc s2 (upd H s.heap.objs.size (.lst [])) fp) [] H' b:=fun {H'} hn b hb=>by
  have o1:=J0.ok.exf b hb
  exact ⟨hn b hb,o1.1,J0.ok.exfs b hb,.inl hb,o1.2,fun p hp=>absurd (show p ∈ ([]:List (Addr × Obj)) from hp) (by simp)⟩
 have loop:codeAny (model X.prog X.w) X.A (.compLoop (.ListComp elt [⟨target,iter,ifs,0⟩] sc pos) 0 (.ref it) (.ref s.heap.objs.size) (compEnvC sc (clOf X.env.cells sc.names []) s2.heap.objs.size X.env))
   (compPost (model X.prog X.w) X.A X.xe use QQ (.ref s.heap.objs.size) s2.heap.objs.size) { s2 with heap:=h₁ }:=by
  refine compLoopT (fun n s'=>∃ i ys H' os,os.length=xs.length∧Inv (X.blks (blkNs X.N xs) sc s2 (upd H s.heap.objs.size (.lst [])) fp) [] (σ++os) H' s'∧tn i s'.heap∧(∀ b ∈ fp,H' b=none)∧W i n ys H') ?_ m0 ⟨0,[],_,xs.map fun _=>none,by simp,J0,st3,fun b hb=>(hf2 b hb).1,w0⟩
  rintro n s4 ⟨i,ys,H4,os,los,J4,st4,fr4,w4⟩
  obtain ⟨hD4,tt'⟩:=turn i n ys H4 w4
  rcases tt' with ⟨stop,q⟩ | ⟨go,step⟩
  ·refine thn (T.done (X.blks (blkNs X.N xs) sc s2 (upd H s.heap.objs.size (.lst [])) fp) rfl rfl rfl hc i [] s4 _ H4 _ J4 (stat fr4) st4 stop) fun r s5 ⟨hr,J5⟩=>?_
   subst hr
   have I5:Inv X pins σ H4 s5:=I2.call' J5.os J5.base J5.hok J5.bare fun b hb=>by
    obtain ⟨f0,f1,f2,f3,f4,f5⟩:=hf2 b hb
    exact ⟨f3,f1,f4,f5⟩
   obtain ⟨m5,n5,_⟩:=J5.loc
   exact fin _ _ H4 s5 m5 I5 q n5 J5.free le2 (fun p hp z=>by
     have:=Heap.lt_size (I2.pin p hp).1
     rw [z] at this
     exact Nat.lt_irrefl _ this) (Nat.ne_of_gt I2.lt) (fun y c e z=>by
     obtain ⟨v,o,ho,_⟩:=I2.cell y c e
     have:=Heap.lt_size ho
     rw [z] at this
     exact Nat.lt_irrefl _ this)
  ·refine thn (T.item (X.blks (blkNs X.N xs) sc s2 (upd H s.heap.objs.size (.lst [])) fp) rfl rfl rfl hc i [] s4 _ H4 _ J4 (stat fr4) st4 go) fun r s5 ⟨u,hr,h5⟩=>?_
   subst hr
   refine thn h5 fun _ s6 ⟨z,H6,J6,r6,y6,st6,fr6⟩=>?_
   have J6':=J6.pinned (stat fr6) (T.obj _ _ st6)
   refine thn (hg s2 (upd H s.heap.objs.size (.lst [])) fp _ s6 _ H6 z u _ J6' r6 (step z H6 y6 os los)) fun _ s7 ⟨σ7,H7,J7,⟨os',e7,l7⟩,t7⟩=>?_
   subst e7
   refine thn (ht s2 (upd H s.heap.objs.size (.lst [])) fp _ s7 _ H7 _ J7 t7) fun ok s8 ⟨H8,J8,t8⟩=>?_
   cases ok with
   | false =>
    rw [if_neg Bool.false_ne_true] at t8 ⊢
    obtain ⟨m',hm,w8⟩:=t8
    refine ⟨m',hm,i+1,ys,_,os',l7,J8.unpinned,T.keep _ _ _ st6 fun b hb o e=>(J8.pin (b,o) (List.mem_append_right _ (List.mem_append_right _ (mem_pinsAt hb e)))).1,fun b hb=>?_,w8⟩
    obtain ⟨o',e',_⟩:=T.obj _ _ st6 b hb
    exact (J8.pin (b,o') (List.mem_append_right _ (List.mem_append_right _ (mem_pinsAt hb e')))).2.1
   | true =>
    rw [if_pos rfl] at t8 ⊢
    refine thn (he s2 (upd H s.heap.objs.size (.lst [])) fp _ s8 _ H8 _ J8 t8) fun vv s9 ⟨v,H9,J9,r9,hD9,hz9,m',hm,w9⟩=>?_
    refine thn (mt_append (X:=X.blks (blkNs X.N xs) sc s2 (upd H s.heap.objs.size (.lst [])) fp) _ s9 _ H9 (.ref s.heap.objs.size) [v] (.ref s.heap.objs.size) [vv] (fun _ H'=>H'=upd H9 s.heap.objs.size (.lst (ys++[v]))) J9 rfl (.cons r9 .nil) ⟨_,ys,v,rfl,rfl,hD9,hz9,rfl⟩) fun _ s10 ⟨_,H10,J10,_,e10⟩=>?_
    subst e10
    refine ⟨m',hm,i+1,ys++[v],_,os',l7,J10.unpinned,T.keep _ _ _ st6 fun b hb o e=>(J10.pin (b,o) (List.mem_append_right _ (List.mem_append_right _ (mem_pinsAt hb e)))).1,fun b hb=>?_,w9⟩
    obtain ⟨o',e',_⟩:=T.obj _ _ st6 b hb
    exact (J10.pin (b,o') (List.mem_append_right _ (List.mem_append_right _ (mem_pinsAt hb e')))).2.1
 refine codeAny_compStart_list loop (T.self _ 0 _ _ _ st3 loop)
theorem pe_lcs {elt iter target:Expr} {ifs:List Expr} {pos:Pos} {ti:TI} {g:TG} {tt:TT} {te:TE} {S:Scope} (hc:X.calm=true) (L:LcScopes S X.N sc xs) (hS:X.env.scope=S) (hi:PI X target iter ti)
  (hg:∀ (s₀:Shared) (H₀:Hp) (fp:List Addr),PG (X.blks (blkNs X.N xs) sc s₀ H₀ fp) target g) (ht:∀ (s₀:Shared) (H₀:Hp) (fp:List Addr),PTs (X.blks (blkNs X.N xs) sc s₀ H₀ fp) ifs tt)
  (he:∀ (s₀:Shared) (H₀:Hp) (fp:List Addr),PE (X.blks (blkNs X.N xs) sc s₀ H₀ fp) elt te) (hs:∀ x,foldedSetIterable iter X.env x=pure x:=by intro _; rfl) :
  PE X (.ListComp elt [⟨target,iter,ifs,0⟩] sc pos) (tLcs xs.length ti g tt te):=by
 intro pins s σ H Q I h
 rw [eval_ListComp]
 refine wpAny_comprehension_free (use:=none) rfl hs (closure_of (I.has_cells L hS)) L.kind L.names (thn (hi pins s σ H _ I h) fun xv s₁ h₁=>thn h₁ fun itv s₂ h₂=>?_)
 obtain ⟨it,fp,tn,J,H2,rfl,I2,T,st2,f2,q2⟩:=h₂
 refine lcs_core hc L hS hg ht he I2 T st2 f2 q2 ?_
 intro D C H' s' m I' q hn hC hle hp hL hcl
 refine ⟨m,hn,fun h' hs'=>?_⟩
 have I3:Inv X pins σ H' { s' with heap:=h' }:=I'.turned (t':=s'.toks) (fun b o hb e=>(hs'.2 b hb).trans e) hC hL (.inr (Nat.le_trans I2.sz hle)) hcl hp
 exact ⟨.ref D,H',I3,rfl,q⟩
theorem ps_setLcs {elt iter target:Expr} {ifs:List Expr} {i:Nat} {y:Str} {py pos spos:Pos} {ti:TI} {g:TG} {tt:TT} {te:TE} {S:Scope} (hN:X.N.Nodup) (hi:X.N[i]? = some y) (hy:Loc X.env.scope y) (hc:X.calm=true) (L:LcScopes S X.N sc xs) (hS:X.env.scope=S) (hit:PI X target iter ti)
  (hg:∀ (s₀:Shared) (H₀:Hp) (fp:List Addr),PG (X.blks (blkNs X.N xs) sc s₀ H₀ fp) target g) (ht:∀ (s₀:Shared) (H₀:Hp) (fp:List Addr),PTs (X.blks (blkNs X.N xs) sc s₀ H₀ fp) ifs tt)
  (he:∀ (s₀:Shared) (H₀:Hp) (fp:List Addr),PE (X.blks (blkNs X.N xs) sc s₀ H₀ fp) elt te)
  (hsw:swapsWith (.ListComp elt [⟨target,iter,ifs,0⟩] sc pos) (some (.Name y py)) spos.line X.env=pure true:=by rfl) (hs:∀ x,foldedSetIterable iter X.env x=pure x:=by intro _; rfl)
  (hf:X.fn y=true ∨ X.env.scope.names.lookup y=some .local:=by first | exact .inl rfl | exact .inr rfl | assumption) :
  PS X (.Assign [.Name y py] (.ListComp elt [⟨target,iter,ifs,0⟩] sc pos) spos) (tAsg (tLcs xs.length ti g tt te) (gName i)):=by
 intro pins s σ H D I h
 rw [exec_Assign_Name_used _ _ _ _ hsw]
 refine wpAny_bind (wpAny_standAt (wpAny_bind ?_))
 show wpAny _ _ (do let _ ← comprehension (.ListComp elt [⟨target,iter,ifs,0⟩] sc pos) sc X.env _ (newList []) false (eval iter X.env) (some (assign (.Name y py) X.env))) _ _ s
 refine wpAny_bind (wpAny_mono (wpAny_comprehension_free (use:=some (assign (.Name y py) X.env)) (Q:=fun _ s'=>SP X pins D .next s') rfl hs (closure_of (I.has_cells L hS)) L.kind L.names
  (thn (hit pins s σ H _ I h) fun xv s₁ h₁=>thn h₁ fun itv s₂ h₂=>?_)) (fun _ s' hq=>wpAny_pure (wpAny_pure hq)) fun _ _ e=>e)
 obtain ⟨it,fp,tn,J,H2,rfl,I2,T,st2,f2,q2⟩:=h₂
 refine lcs_core (Q:=fun v H'=>D.nx (σ.set i (some v)) H') hc L hS hg ht he I2 T st2 f2 q2 ?_
 intro D' C H' s' m I' q hn hC hle hp hL hcl
 show wpAny _ _ (assign (.Name y py) X.env (.ref D')) _ _ s'
 refine wpAny_assign_Name (store_ok2 I' hN hi hy (v:=.ref D') (u:=.ref D') rfl (fun s'' I'' ⟨a,sb,ha⟩=>?_) hf)
 have nCa:C≠a:=by
  rcases ha with rfl | ha
  ·exact hL
  ·exact fun z=>hcl y a ha z.symm
 refine ⟨m,hn.sameBut sb nCa,fun h' hs'=>?_⟩
 have I3:Inv X pins (σ.set i (some (.ref D'))) H' { s'' with heap:=h' }:=I''.turned (t':=s''.toks) (fun b o hb e=>(hs'.2 b hb).trans e) hC hL (.inr (Nat.le_trans I2.sz hle)) hcl hp
 exact ⟨_,H',I3,q⟩
def g2 (K:PySem.W.Frag) (n:Nat):TG:=gTup K 2 (gCons (gName n) (gCons (gName (n+1)) gNil))
theorem pg_two {S:Scope} {x y:Str} {px py tpos:Pos} {k:Nat} (hc:X.calm=true) (L:LcScopes S X.N sc [x,y]) (s₀:Shared) (H₀:Hp) (fp:List Addr):PG (X.blks (blkNs X.N [x,y]) sc s₀ H₀ fp) (.Tuple [.Name x px,.Name y py] k tpos) (g2 X.K X.N.length):=by
 refine pg_tup (X:=X.blks (blkNs X.N [x,y]) sc s₀ H₀ fp) hc (pgs_cons (pg_name L.nd ?_ (.inl (lookup_relabel_local (L.loc x (by simp)))) (.inr (lookup_relabel_local (L.loc x (by simp))))) (pgs_cons (pg_name L.nd ?_ (.inl (lookup_relabel_local (L.loc y (by simp)))) (.inr (lookup_relabel_local (L.loc y (by simp))))) pgs_nil))
 ·show (blkNs X.N [x,y])[X.N.length]? = some x
  unfold blkNs
  rw [List.getElem?_append_right (by simp)]
  simp
 ·show (blkNs X.N [x,y])[X.N.length+1]? = some y
  unfold blkNs
  rw [List.getElem?_append_right (by simp)]
  simp
theorem pg_one {S:Scope} {x:Str} {px:Pos} (L:LcScopes S X.N sc [x]) (s₀:Shared) (H₀:Hp) (fp:List Addr):PG (X.blks (blkNs X.N [x]) sc s₀ H₀ fp) (.Name x px) (gName X.N.length):=by
 refine pg_name L.nd ?_ (.inl (lookup_relabel_local (L.loc x (by simp)))) (.inr (lookup_relabel_local (L.loc x (by simp))))
 show (blkNs X.N [x])[X.N.length]? = some x
 unfold blkNs
 rw [List.getElem?_append_right (by simp)]
 simp
end
end L2
namespace L2
open PySem PySem.Spec PyProof.Rows
theorem lcw_one {n:Nat} {J:It} {te:TE} {σ:St} {H1:Hp} {Q:VK} (hn:σ.length=n) (h:∀ D,H1 D=none→∃ W:Nat→Nat→List V→Hp→Prop,(∃ m,W 0 m [] (upd H1 D (.lst []))) ∧
  ∀ i m ys H',W i m ys H'→H' D=some (.lst ys)∧((J.stop i H'∧Q (.ref D) H') ∨ (J.go i H'∧∀ z H2,J.yld i H' z H2→te (σ++[some z]) H2 fun v H3=>H3 D=some (.lst ys)∧ys.length < sizeLine∧∃ m',m' < m∧W (i+1) m' (ys++[v]) (upd H3 D (.lst (ys++[v])))))) :
  LcW 1 J (gName n) tYes te σ H1 Q:=by
 subst hn
 intro D hD
 obtain ⟨W,w0,st⟩:=h D hD
 refine ⟨W,w0,fun i m ys H' hw=>?_⟩
 obtain ⟨e,d⟩:=st i m ys H' hw
 refine ⟨e,d.imp id fun ⟨go,yl⟩=>⟨go,fun z H2 hy os los=>?_⟩⟩
 match os,los with
 | [o],_ =>
  have es:(σ++[o]).set σ.length (some z)=σ++[some z]:=by
   rw [List.set_append_right _ _ (Nat.le_refl _),Nat.sub_self]
   rfl
  show (∃ os':St,(σ++[o]).set σ.length (some z)=σ++os'∧os'.length=1)∧tYes ((σ++[o]).set σ.length (some z)) H2 _
  rw [es]
  exact ⟨⟨[some z],rfl,rfl⟩,iteT (B:=∃ m',m' < m∧W (i+1) m' ys H2) (yl z H2 hy)⟩
section
variable {X:Cx} {sc:Scope} {x:Str}
theorem pe_lc1 {elt iter:Expr} {px pos:Pos} {ti:TI} {te:TE} {S:Scope} (hc:X.calm=true) (L:LcScopes S X.N sc [x]) (hS:X.env.scope=S) (hi:PI X (.Name x px) iter ti)
  (he:∀ (s₀:Shared) (H₀:Hp) (fp:List Addr),PE (X.blks (blkNs X.N [x]) sc s₀ H₀ fp) elt te) (hs:∀ x,foldedSetIterable iter X.env x=pure x:=by intro _; rfl) :
  PE X (.ListComp elt [⟨.Name x px,iter,[],0⟩] sc pos) (tLc ti te):=by
 intro pins s σ H Q I h
 rw [eval_ListComp]
 refine wpAny_comprehension_free (use:=none) rfl hs (closure_of (I.has_cells L hS)) L.kind L.names (thn (hi pins s σ H _ I h) fun xv s₁ h₁=>thn h₁ fun itv s₂ h₂=>?_)
 obtain ⟨it,fp,tn,J,H2,rfl,I2,T,st2,f2,q2⟩:=h₂
 refine lcs_core hc L hS (pg_one L) (fun _ _ _=>pts_nil) he I2 T st2 f2 (lcw_one I2.len q2) ?_
 intro D C H' s' m I' q hn hC hle hp hL hcl
 refine ⟨m,hn,fun h' hs'=>?_⟩
 have I3:Inv X pins σ H' { s' with heap:=h' }:=I'.turned (t':=s'.toks) (fun b o hb e=>(hs'.2 b hb).trans e) hC hL (.inr (Nat.le_trans I2.sz hle)) hcl hp
 exact ⟨.ref D,H',I3,rfl,q⟩
end
end L2
namespace L2
open PySem PySem.Spec PyProof.Rows
section
variable {X:Cx} {sc:Scope} {x:Str}
theorem ps_setLc1 {elt iter:Expr} {i:Nat} {y:Str} {px py pos spos:Pos} {ti:TI} {te:TE} {S:Scope} (hN:X.N.Nodup) (hi:X.N[i]? = some y) (hy:Loc X.env.scope y) (hc:X.calm=true) (L:LcScopes S X.N sc [x]) (hS:X.env.scope=S) (hit:PI X (.Name x px) iter ti)
  (he:∀ (s₀:Shared) (H₀:Hp) (fp:List Addr),PE (X.blks (blkNs X.N [x]) sc s₀ H₀ fp) elt te)
  (hsw:swapsWith (.ListComp elt [⟨.Name x px,iter,[],0⟩] sc pos) (some (.Name y py)) spos.line X.env=pure true:=by rfl) (hs:∀ x,foldedSetIterable iter X.env x=pure x:=by intro _; rfl)
  (hf:X.fn y=true ∨ X.env.scope.names.lookup y=some .local:=by first | exact .inl rfl | exact .inr rfl | assumption) :
  PS X (.Assign [.Name y py] (.ListComp elt [⟨.Name x px,iter,[],0⟩] sc pos) spos) (tAsg (tLc ti te) (gName i)):=by
 intro pins s σ H D I h
 rw [exec_Assign_Name_used _ _ _ _ hsw]
 refine wpAny_bind (wpAny_standAt (wpAny_bind ?_))
 show wpAny _ _ (do let _ ← comprehension (.ListComp elt [⟨.Name x px,iter,[],0⟩] sc pos) sc X.env _ (newList []) false (eval iter X.env) (some (assign (.Name y py) X.env))) _ _ s
 refine wpAny_bind (wpAny_mono (wpAny_comprehension_free (use:=some (assign (.Name y py) X.env)) (Q:=fun _ s'=>SP X pins D .next s') rfl hs (closure_of (I.has_cells L hS)) L.kind L.names
  (thn (hit pins s σ H _ I h) fun xv s₁ h₁=>thn h₁ fun itv s₂ h₂=>?_)) (fun _ s' hq=>wpAny_pure (wpAny_pure hq)) fun _ _ e=>e)
 obtain ⟨it,fp,tn,J,H2,rfl,I2,T,st2,f2,q2⟩:=h₂
 refine lcs_core (Q:=fun v H'=>D.nx (σ.set i (some v)) H') hc L hS (pg_one L) (fun _ _ _=>pts_nil) he I2 T st2 f2 (lcw_one (Q:=fun v H'=>D.nx (σ.set i (some v)) H') I2.len q2) ?_
 intro D' C H' s' m I' q hn hC hle hp hL hcl
 show wpAny _ _ (assign (.Name y py) X.env (.ref D')) _ _ s'
 refine wpAny_assign_Name (store_ok2 I' hN hi hy (v:=.ref D') (u:=.ref D') rfl (fun s'' I'' ⟨a,sb,ha⟩=>?_) hf)
 have nCa:C≠a:=by
  rcases ha with rfl | ha
  ·exact hL
  ·exact fun z=>hcl y a ha z.symm
 refine ⟨m,hn.sameBut sb nCa,fun h' hs'=>?_⟩
 have I3:Inv X pins (σ.set i (some (.ref D'))) H' { s'' with heap:=h' }:=I''.turned (t':=s''.toks) (fun b o hb e=>(hs'.2 b hb).trans e) hC hL (.inr (Nat.le_trans I2.sz hle)) hcl hp
 exact ⟨_,H',I3,q⟩
end
end L2
namespace M11
abbrev G (a b:Int):Int:=(Int.gcd a b:Nat)
def Bd (x:Int):Prop:=x.natAbs < 2 ^ 250
structure Fr (x y:Int):Prop where
 bx:Bd x
 by':Bd y
 pos:0 < y
end M11
namespace M11
def Bn (n:Nat) (x:Int):Prop:=x.natAbs < 2 ^ n
end M11
namespace L2
open PySem PySem.Spec PyProof.Rows
section
variable {X:Cx}
end
end L2
namespace L2
open PySem PySem.Spec PyProof.Rows
def Ite (K:PySem.W.Frag) (a:Addr):It :=
 ⟨fun i H=>∃ xs x,SqL K H a xs∧xs[i]? = some x,
  fun i H z H'=>∃ t x,z=.ref t∧H t=none∧H'=upd H t (.tup [.int (i:Int),x])∧∀ xs,SqL K H a xs→xs[i]? = some x,
  fun i H=>∃ xs,SqL K H a xs∧xs.length≤i⟩
def ESt (e it a:Addr) (i:Nat) (h:Heap):Prop:=(∃ old,IsEnum h e it (i:Int) old)∧h.IsListIter it a i
theorem turn_enum {P:Program} {w:World} {K:PySem.W.Frag} {elts:List Expr} {ek:Nat} {epos:Pos} {e it a:Addr} (ne:e≠it):Turn P w K (.Tuple elts ek epos) (Ite K a) [e,it] e (ESt e it a) where
 mem:=by simp
 obj:=fun i h st c hc=>by
  obtain ⟨⟨old,he⟩,⟨o1,e1,c1,d1⟩⟩:=st
  have hc':c=e ∨ c=it:=by simpa using hc
  rcases hc' with rfl | rfl
  ·exact ⟨_,he,fun v e=>by cases e⟩
  ·exact ⟨_,e1,fun v e=>by rw [d1] at e; cases e⟩
 keep:=fun i h h' st k=>by
  obtain ⟨⟨old,he⟩,l1⟩:=st
  exact ⟨⟨old,k e (by simp) _ he⟩,l1.at fun o q=>k it (by simp) o q⟩
 item:=by
  intro X hP hw hK hc i pins s σ H E I hf st hg
  subst hP hw hK
  obtain ⟨xs,x,hx,ex⟩:=hg
  obtain ⟨ia,ra,pa,za⟩:=I.list hx
  obtain ⟨u,hu,ru⟩:=ra.get ex
  obtain ⟨⟨old,he⟩,l1⟩:=st
  refine wpAny_pyNext_enum_item he l1 pa.isList (x:=u) (by simpa using hu) ne fun h' a1 a2 a3 a4 a5=>?_
  refine ⟨_,rfl,wpAny_letOwnedTupleGo_enum a1 fun h2 b1 b2=>?_⟩
  have hT:H s.heap.objs.size=none:=I.hok.fresh (Nat.le_refl _)
  have ltz:∀ c o,s.heap.get? c=some o→s.heap.objs.size≠c:=fun c o q=>Nat.ne_of_gt (Heap.lt_size q)
  have Te:s.heap.objs.size≠e:=ltz _ _ he
  have aT:h2.get? s.heap.objs.size=some { cls:=.type "tuple",data:=.seq #[.int i s.toks,u] }:=b2.extBut _ _ Te a3
  have k2:∀ c o,c≠e→c≠it→s.heap.get? c=some o→h2.get? c=some o:=fun c o n1 n2 q=>b2.extBut _ _ n1 (a5 c o n1 n2 q)
  have I1:Inv X pins σ (upd H s.heap.objs.size (.tup [.int (i:Int),x])) { s with heap:=s.heap.push { cls:=.type "tuple",data:=.seq #[.int i s.toks,u] },toks:=s.toks+1 }:=by
   refine I.laid (t':=s.toks+1) (fun c o q=>Heap.get?_push_of_some _ q) (Nat.le_refl _) ?_
   exact ⟨(by show 2≤sizeLine; decide),[.int i s.toks,u],.cons ⟨_,rfl⟩ (.cons ru .nil),IsTup.new s.heap _⟩
  have hf1:∀ c ∈ [e,it],FpOk X pins (upd H s.heap.objs.size (.tup [.int (i:Int),x])) c:=fun c hc'=>by
   obtain ⟨f0,f⟩:=hf c hc'
   refine ⟨?_,f⟩
   have:∃ o,s.heap.get? c=some o:=by
    have hc'':c=e ∨ c=it:=by simpa using hc'
    obtain ⟨o1,e1,_⟩:=l1
    rcases hc'' with rfl | rfl
    ·exact ⟨_,he⟩
    ·exact ⟨_,e1⟩
   obtain ⟨o,q⟩:=this
   rw [upd_ne (ltz c o q).symm]
   exact f0
  have I2:Inv X pins σ (upd H s.heap.objs.size (.tup [.int (i:Int),x])) { s with heap:=h2,toks:=s.toks+1 }:=by
   refine Inv.turnedL (s:={ s with heap:=s.heap.push { cls:=.type "tuple",data:=.seq #[.int i s.toks,u] },toks:=s.toks+1 }) (h':=h2) (t':=s.toks+1) (its:=[e,it]) I1 (fun c o hc' q=>?_) hf1
   have hc'':¬ (c=e ∨ c=it):=by simpa using hc'
   by_cases hcs:c=s.heap.objs.size
   ·subst hcs
    have e':(s.heap.push { cls:=.type "tuple",data:=.seq #[.int i s.toks,u] }).get? s.heap.objs.size=some o:=q
    rw [Heap.get?_push_size _ rfl] at e'
    cases e'
    exact aT
   ·refine k2 c o (fun z'=>hc'' (.inl z')) (fun z'=>hc'' (.inr z')) ?_
    rw [←q]
    exact (Heap.get?_push_ne _ _ _ hcs).symm
  refine ⟨.ref s.heap.objs.size,_,I2,rfl,⟨_,x,rfl,hT,rfl,fun ws hw=>by rw [I.list_inj hw hx]; exact ex⟩,?_,fun c hc'=>(hf1 c hc').1⟩
  exact ⟨⟨u,b1⟩,a2.extBut b2.extBut ne.symm⟩
 done:=by
  intro X hP hw hK hc i pins s σ H E I hf st hg
  subst hP hw hK
  obtain ⟨xs,hx,hl⟩:=hg
  obtain ⟨ia,ra,pa,za⟩:=I.list hx
  have hla:=ra.length
  obtain ⟨⟨old,he⟩,l1⟩:=st
  refine wpAny_pyNext_enum_end (I.ok.hd hc) he l1 pa.isList (by simp; omega) fun h' k=>⟨rfl,?_⟩
  exact I.turnedL (t':=s.toks) (its:=[e,it]) (fun c o hc' q=>by
   have hc'':¬ (c=e ∨ c=it):=by simpa using hc'
   exact k c o (fun z'=>hc'' (.inr z')) q) hf
 self:=fun _ _ _ _ _ st h=>by
  obtain ⟨⟨old,he⟩,_⟩:=st
  exact wpAny_pyIter_enum he h
section
variable {X:Cx}
def iEnum (K:PySem.W.Frag) (ta:TA):TI:=fun σ H R=>ta σ H fun vs H1=>∃ a,vs=[.ref a]∧(∃ xs,SqL K H1 a xs)∧R (Ite K a) H1
theorem pi_enum {elts:List Expr} {ek:Nat} {epos:Pos} {a:Expr} {ta:TA} {p pos:Pos} (hg:Gl X "enumerate") (hm:X.mg "enumerate" = none) (ha:PA X [a] ta) (hs:starEach [a] X.env=[(false,eval a X.env)]:=by rfl) :
  PI X (.Tuple elts ek epos) (.Call (.Name "enumerate" p) [a] [] pos) (iEnum X.K ta):=by
 intro pins s σ H R I h
 refine Call_ (ld_blt I hg hm boot_enumerate (PyProof.Rows.callWith_type1 (thn (ha pos pins s σ H _ I h) fun us s1 ⟨vs,H1,I1,r1,q1⟩=>?_) hs rfl))
 obtain ⟨l1,e,⟨xs,hx⟩,q⟩:=q1
 subst e
 obtain ⟨u,rfl,ru⟩:=vals1 r1
 cases ru
 obtain ⟨ia,ra,pa,za⟩:=I1.list hx
 refine call_enumerate_list pa.isList fun h' he hi hsz hk=>wpAny_pyIter_enum he ?_
 have fr:∀ b,s1.heap.objs.size≤b→FpOk X pins H1 b:=fun b hb=>I1.fpOk hb (I1.hok.fresh hb)
 refine ⟨_,[s1.heap.objs.size+1,s1.heap.objs.size],_,_,H1,rfl,I1.kept (t':=s1.toks) hk,
  turn_enum (it:=s1.heap.objs.size) (a:=l1) (fun z=>by simp at z),⟨⟨_,he⟩,hi⟩,fun b hb=>?_,q⟩
 have hb':b=s1.heap.objs.size+1 ∨ b=s1.heap.objs.size:=by simpa using hb
 rcases hb' with rfl | rfl
 ·exact fr _ (Nat.le_add_right _ _)
 ·exact fr _ (Nat.le_refl _)
end
end L2
namespace L2
open PySem PySem.Spec PyProof.Rows
section
variable {X:Cx}
theorem ins_call {prog:Program} {w:World} {A:Around} {E:Value→Shared→Prop} {s:Shared} {Q:Value→Shared→Prop} {l:Addr} {arr:Array Value} {n:Nat} {k:Int} {t1:Tok} {u2:Value} (hc0:¬(!Builtin.List.listFitsIndex k)=true) (hs1:arr.size≤sizeLine)
  (e:s.heap.get? l=some { cls:=.type "list",data:=.seq arr n }) (h:Q .none { s with heap:=s.heap.update l (Obj.mapSeq fun xs=>have k:=if k < 0 then (k+(xs.size:Int)).toNat else min k.toNat xs.size; (xs.extract 0 k).push u2++xs.extract k),toks:=s.toks }) :
  wpAny (model prog w) A (call (.builtin "list.insert") [.ref l,.int k t1,u2]) Q E s :=
 call_meets F.slot_list_insert ⟨_,e,rfl⟩ F.entry_list_insert (F.args_list_insert_3 _ _ _) (PySem.AutoSeq1.list_insert_list_int_val_1 l arr n k t1 u2 hc0 hs1) ⟨e,h⟩
def rInsert:V→List V→Hp→VK→Prop:=fun x vs H Q=>∃ (l:Addr) (xs:List V) (k:Nat) (y:V),x=.ref l∧vs=[.int (k:Int),y]∧H l=some (.lst xs)∧k≤xs.length∧xs.length < sizeLine∧Q .non (upd H l (.lst (xs.take k++y :: xs.drop k)))
theorem mt_insert:MtM X "list.insert" rInsert:=by
 intro pins s σ H x vs v us Q I rx rv h
 obtain ⟨l,xs,k,y,rfl,rfl,hH,hk,hz,q⟩:=h
 cases rx
 obtain ⟨u1,u2,rfl,⟨t1,rfl⟩,r2⟩:=rv.two
 obtain ⟨z,its,n,r,hl,e⟩:=I.lstM hH
 have hn:=line63
 have hf:Builtin.List.listFitsIndex (k:Int)=true:=by
  unfold Builtin.List.listFitsIndex
  rw [Bool.and_eq_true,decide_eq_true_iff,decide_eq_true_iff]
  omega
 have hc0:¬(!Builtin.List.listFitsIndex (k:Int))=true:=by rw [hf]; decide
 have hs1:its.toArray.size≤sizeLine:=by rw [List.size_toArray]; omega
 refine ins_call hc0 hs1 e ?_
 refine ⟨.non,_,I.lset (its':=its.take k++u2 :: its.drop k) hH e ?_ ((r.take k).append (.cons r2 (r.drop k))) ?_,rfl,q⟩
 ·have e1:(if ((k:Nat):Int) < 0 then (((k:Nat):Int)+(its.toArray.size:Int)).toNat else min ((k:Nat):Int).toNat its.toArray.size)=k:=by
   rw [if_neg (by omega),Int.toNat_natCast,List.size_toArray]
   omega
  dsimp only
  rw [e1]
  apply Array.ext'
  simp
  exact List.take_of_length_le (by rw [List.length_drop]; exact Nat.le_refl _)
 ·rw [List.length_append,List.length_cons,List.length_take,List.length_drop]
  omega
end
end L2
namespace L2
open PySem PySem.Spec PyProof.Rows
section
variable {X:Cx}
end
end L2
namespace L2
open PySem PySem.Spec PyProof.Rows
section
variable {X:Cx}
end
end L2
namespace L2
open PySem PySem.Spec PyProof.Rows
section
variable {X:Cx}
def rStrD (K:PySem.W.Frag):List V→Hp→VK→Prop:=fun xs H Q=>∃ a d,xs=[.ref a]∧DA K any H (.ref a) d∧(d.showable=true∧d.hasDict=false∧d.depth≤32∧d.shown.length≤sizeLine)∧Q (.str d.shown) H
theorem call_strD (hg:X.A.guards=some []) (hu:X.A.units+64 < cLine):CallR X (.type "str") (rStrD X.K):=by
 intro pins s σ H xs us Q I r h
 obtain ⟨a,d,rfl,hd,⟨h1,h2,h3,h4⟩,q⟩:=h
 obtain ⟨u,rfl,rx⟩:=vals1 r
 obtain ⟨as,p1⟩:=hd.reads I rx
 cases rx
 exact str_of_reads p1 h1 (fun z=>by rw [h2] at z; cases z) hg (by omega) (fun _ _ e=>e) (fun h' u tk hk=>⟨.str _,H,I.kept hk,⟨_,rfl⟩,q⟩) h4
end
theorem int_shows {z:Int} (h:z.natAbs < 10 ^ 30):(PyData.int z).showable=true∧(PyData.int z).intsShort 31=true∧(PyData.int z).weight≤101:=by
 have lg:z.natAbs.log2 < 100:=by
  by_cases e:z.natAbs=0
  ·rw [e]; decide
  ·exact (Nat.log2_lt e).mpr (Nat.lt_of_lt_of_le h (by decide))
 refine ⟨?_,?_,?_⟩
 ·simp only [PyData.showable,decide_eq_true_iff]
  omega
 ·simp only [PyData.intsShort,decide_eq_true_iff]
  have e:=int_text_length_le10 (k:=30) (by decide) h
  show (Str.ofString (toString z)).length≤31
  rw [PySem.ofString_length]
  exact e
 ·simp only [PyData.weight]
  split
  ·omega
  ·omega
theorem ints_show:∀ ns:List Int,(∀ z ∈ ns,z.natAbs < 10 ^ 30)→PyData.showableAll (ns.map .int)=true∧PyData.intsShortAll 31 (ns.map .int)=true∧PyData.hasDictAll (ns.map .int)=false∧PyData.weightAll (ns.map .int)≤102 * ns.length
 | [],_=>⟨rfl,rfl,rfl,Nat.le_refl _⟩
 | z :: ns,h=>by
  obtain ⟨a1,a2,a3,a4⟩:=ints_show ns fun z hz=>h z (List.mem_cons_of_mem _ hz)
  obtain ⟨b1,b2,b3⟩:=int_shows (h z List.mem_cons_self)
  rw [List.map_cons]
  refine ⟨?_,?_,?_,?_⟩
  ·simp only [PyData.showableAll,a1,b1,Bool.and_self]
  ·simp only [PyData.intsShortAll,a2,b2,Bool.and_self]
  ·simp only [PyData.hasDictAll,a3,PyData.hasDict,Bool.or_self]
  ·simp only [PyData.weightAll,List.length_cons]
   omega
end L2
namespace L2
open PySem PySem.Spec PyProof.Rows
section
variable {κ:Type} [DecidableEq κ]
def valV (kvs:List (κ × V)) (k:κ):Option V:=(kvs.find? fun kv=>decide (kv.1=k)).map (·.2)
def putK (kvs:List (κ × V)) (k:κ) (v:V):List (κ × V) :=
 if (kvs.any fun kv=>decide (kv.1=k))=true then kvs.map (fun kv=>if kv.1=k then (kv.1,v) else kv) else kvs++[(k,v)]
theorem valV_pos {p:κ × V} {r:List (κ × V)} {k:κ} (e:p.1=k):valV (p :: r) k=some p.2:=by simp [valV,List.find?_cons,e]
theorem valV_neg {p:κ × V} {r:List (κ × V)} {k:κ} (e:¬ p.1=k):valV (p :: r) k=valV r k:=by simp [valV,List.find?_cons,e]
theorem valV_any (k:κ):∀ kvs:List (κ × V),(kvs.any fun kv=>decide (kv.1=k))=(valV kvs k).isSome
 | []=>rfl
 | p :: r=>by
  rw [List.any_cons]
  by_cases e:p.1=k
  ·simp only [valV_pos e,decide_eq_true e,Bool.true_or,Option.isSome_some]
  ·rw [valV_neg e,decide_eq_false e,Bool.false_or]; exact valV_any k r
theorem length_putK (kvs:List (κ × V)) (k:κ) (v:V):(putK kvs k v).length≤kvs.length+1:=by
 unfold putK
 split
 ·rw [List.length_map]; omega
 ·rw [List.length_append,List.length_cons,List.length_nil]; omega
theorem RelO.isSome_eq {o:Option V} {u:Option Value} (r:RelO o u):o.isSome=u.isSome:=by
 cases o with
 | none=>cases u with
  | none=>rfl
  | some _=>exact (show False from r).elim
 | some _=>cases u with
  | none=>exact (show False from r).elim
  | some _=>rfl
theorem RelO.getD {o:Option V} {u:Option Value} {d:V} {d':Value} (r:RelO o u) (rd:RelV d d'):RelV (o.getD d) (u.getD d'):=by
 cases o with
 | none=>cases u with
  | none=>exact rd
  | some _=>exact (show False from r).elim
 | some _=>cases u with
  | none=>exact (show False from r).elim
  | some _=>exact r
theorem KV.val {kvs:List (κ × V)} {vs:List (κ × Value)} (r:KV kvs vs) (k:κ):RelO (valV kvs k) (valueAt vs k):=by
 unfold KV at r
 induction r with
 | nil=>exact True.intro
 | @cons p q ps qs h t ih =>
  obtain ⟨h1,h2⟩:=h
  by_cases e:p.1=k
  ·have e':q.1=k:=h1.symm.trans e
   have b:valueAt (q :: qs) k=some q.2:=by simp [valueAt,List.find?_cons,e']
   rw [valV_pos e,b]; exact h2
  ·have e':¬ q.1=k:=fun z=>e (h1.trans z)
   have b:valueAt (q :: qs) k=valueAt qs k:=by simp [valueAt,List.find?_cons,e']
   rw [valV_neg e,b]; exact ih
theorem KV.any {kvs:List (κ × V)} {vs:List (κ × Value)} (r:KV kvs vs) (k:κ):(kvs.any fun kv=>decide (kv.1=k))=vs.any fun kv=>decide (kv.1=k):=by
 unfold KV at r
 induction r with
 | nil=>rfl
 | cons h t ih=>rw [List.any_cons,List.any_cons,ih,h.1]
theorem KV.repl {kvs:List (κ × V)} {vs:List (κ × Value)} (r:KV kvs vs) (k:κ) {y:V} {u:Value} (ry:RelV y u) :
  KV (kvs.map fun kv=>if kv.1=k then (kv.1,y) else kv) (vs.map fun kv=>if kv.1=k then (kv.1,u) else kv):=by
 unfold KV at r ⊢
 induction r with
 | nil=>exact .nil
 | @cons p q ps qs h t ih =>
  rw [List.map_cons,List.map_cons]
  refine .cons ?_ ih
  obtain ⟨h1,h2⟩:=h
  by_cases e:p.1=k
  ·rw [if_pos e,if_pos (h1.symm.trans e)]; exact ⟨h1,ry⟩
  ·rw [if_neg e,if_neg (fun z=>e (h1.trans z))]; exact ⟨h1,h2⟩
theorem KV.put {kvs:List (κ × V)} {vs:List (κ × Value)} (r:KV kvs vs) (k:κ) {y:V} {u:Value} (ry:RelV y u):KV (putK kvs k y) (stored vs k u):=by
 unfold putK stored
 rw [r.any k]
 by_cases e:(vs.any fun kv=>decide (kv.1=k))=true
 ·rw [if_pos e,if_pos e]; exact r.repl k ry
 ·rw [if_neg e,if_neg e]; exact Paired.snoc r ⟨rfl,ry⟩
theorem KV.length {kvs:List (κ × V)} {vs:List (κ × Value)} (r:KV kvs vs):kvs.length=vs.length:=Paired.length r
end
theorem kV_is {P:Program} {w:World} {k:Key} {u:Value} (r:RelV (kV k) u):(mixKind P w).is k u=true:=by
 cases k with
 | inl i=>obtain ⟨t,e⟩:=(show ∃ t,u=Value.int i t from r); subst e; exact mixKind_int P w i t
 | inr x=>obtain ⟨t,e⟩:=(show ∃ t,u=Value.str x t from r); subst e; exact mixKind_str P w x t
theorem items_are {P:Program} {w:World}:∀ {ks:List Key} {us:List Value},Vals (ks.map kV) us→ItemsAre (mixKind P w) ks us
 | [],_,r=>by rw [List.map_nil] at r; cases r; exact .nil
 | k :: ks,_,r=>by
  rw [List.map_cons] at r
  cases r with
  | cons h t=>exact .cons (kV_is h) (items_are t)
abbrev KT (H:Hp):List (List Key × V)→List (List Key × Addr × Value)→Prop:=Paired fun p q=>p.1=q.1∧H q.2.1=some (.tup (p.1.map kV))∧RelV p.2 q.2.2
theorem KT.val {H:Hp} {kvs:List (List Key × V)} {xs:List (List Key × Addr × Value)} (r:KT H kvs xs) (k:List Key):RelO (valV kvs k) ((atKey xs k).map (·.2)):=by
 induction r with
 | nil=>exact True.intro
 | @cons p q ps qs h t ih =>
  obtain ⟨h1,_,h2⟩:=h
  by_cases e:p.1=k
  ·have e':q.1=k:=h1.symm.trans e
   have b:atKey (q :: qs) k=some q.2:=by simp [atKey,List.find?_cons,e']
   rw [valV_pos e,b]; exact h2
  ·have e':¬ q.1=k:=fun z=>e (h1.trans z)
   have b:atKey (q :: qs) k=atKey qs k:=by simp [atKey,List.find?_cons,e']
   rw [valV_neg e,b]; exact ih
theorem KT.repl {H:Hp} {kvs:List (List Key × V)} {xs:List (List Key × Addr × Value)} (r:KT H kvs xs) (k:List Key) {y:V} {u:Value} (ry:RelV y u) :
  KT H (kvs.map fun kv=>if kv.1=k then (kv.1,y) else kv) (xs.map (putAt k u)):=by
 induction r with
 | nil=>exact .nil
 | @cons p q ps qs h t ih =>
  rw [List.map_cons,List.map_cons]
  refine .cons ?_ ih
  obtain ⟨h1,h2,h3⟩:=h
  unfold putAt
  by_cases e:p.1=k
  ·rw [if_pos e,if_pos (h1.symm.trans e)]; exact ⟨h1,h2,ry⟩
  ·rw [if_neg e,if_neg (fun z=>e (h1.trans z))]; exact ⟨h1,h2,h3⟩
theorem KT.put {H:Hp} {kvs:List (List Key × V)} {xs:List (List Key × Addr × Value)} (r:KT H kvs xs) (k:List Key) {b:Addr} {y:V} {u:Value} (hb:H b=some (.tup (k.map kV))) (ry:RelV y u) :
  KT H (putK kvs k y) (storedH xs k b u):=by
 have e:(kvs.any fun kv=>decide (kv.1=k))=(atKey xs k).isSome:=by
  rw [valV_any,(r.val k).isSome_eq,Option.isSome_map]
 unfold putK storedH
 rw [e]
 by_cases q:(atKey xs k).isSome=true
 ·rw [if_pos q,if_pos q]; exact r.repl k ry
 ·rw [if_neg q,if_neg q]; exact Paired.snoc r ⟨rfl,hb,ry⟩
theorem KT.keeps {H H':Hp} {kvs:List (List Key × V)} {xs:List (List Key × Addr × Value)} (r:KT H kvs xs) (ht:∀ b ys,H b=some (.tup ys)→H' b=some (.tup ys)):KT H' kvs xs :=
 Paired.mapP r fun _ _ z=>⟨z.1,ht _ _ z.2.1,z.2.2⟩
section
variable {P:Program} {w:World} {H:Hp} {h:Heap} {a:Addr}
theorem rd_of {u:HO} (ok:HOk P w H h) (e:Rd H a u):ObjOk P w H h a u:=e.ok ok
theorem dk_rd {kvs:List (Key × V)} (ok:HOk P w H h) (e:Rd H a (.dK kvs)):kvs.length≤sizeLine∧(a == sysModules)=false∧∃ vs,KV kvs vs∧h.DictOf (mixKind P w) a vs :=
 show ObjOk P w H h a (.dK kvs) from rd_of ok e
theorem dk_of {kvs:List (Key × V)} (ok:HOk P w H h) (e:H a=some (.dK kvs)):kvs.length≤sizeLine∧(a == sysModules)=false∧∃ vs,KV kvs vs∧h.DictOf (mixKind P w) a vs:=dk_rd ok (.inl e)
theorem key_of {ks:List Key} (ok:HOk P w H h) (e:H a=some (.tup (ks.map kV))):(tupleKind (mixKind P w)).is h ks a:=by
 obtain ⟨_,its,r,o,h1,h2,n,h3⟩:=(show ObjOk P w H h a (.tup (ks.map kV)) from ok a _ e)
 exact ⟨o,its.toArray,n,h1,h2,h3,by simpa using items_are r⟩
theorem dt_rd {kvs:List (List Key × V)} (ok:HOk P w H h) (e:Rd H a (.dT kvs)):kvs.length≤sizeLine∧(a == sysModules)=false ∧
  ∃ xs,KT H kvs xs∧h.DictOfH (tupleKind (mixKind P w)) a xs:=by
 obtain ⟨z,y,xs,r,o,es,ep,h1,h2,h3,h4,h5⟩:=(show ObjOk P w H h a (.dT kvs) from rd_of ok e)
 refine ⟨z,y,xs,r,o,es,ep,h1,h2,h3,h4,fun x hx=>?_,h5⟩
 have all:∀ {l:List (List Key × V)} {m:List (List Key × Addr × Value)},KT H l m→∀ x ∈ m,(tupleKind (mixKind P w)).is h x.1 x.2.1:=by
  intro l m q
  induction q with
  | nil=>intro x hx; exact nomatch hx
  | @cons p q ps qs hq t ih =>
   intro x hx
   rcases List.mem_cons.mp hx with e | hx
   ·subst e
    exact key_of ok (by rw [←hq.1]; exact hq.2.1)
   ·exact ih x hx
 exact all r x hx
theorem dt_of {kvs:List (List Key × V)} (ok:HOk P w H h) (e:H a=some (.dT kvs)):kvs.length≤sizeLine∧(a == sysModules)=false ∧
  ∃ xs,KT H kvs xs∧h.DictOfH (tupleKind (mixKind P w)) a xs:=dt_rd ok (.inl e)
end
def DGet (H:Hp) (a:Addr) (y:V) (r:Option V):Prop :=
 (∃ kvs k,Rd H a (.dK kvs)∧y=kV k∧r=valV kvs k) ∨ ∃ kvs k b,Rd H a (.dT kvs)∧y=.ref b∧H b=some (.tup (k.map kV))∧r=valV kvs k
def DPut (H:Hp) (a:Addr) (y v:V) (H':Hp):Prop :=
 (∃ kvs k,H a=some (.dK kvs)∧y=kV k∧kvs.length < sizeLine∧H'=upd H a (.dK (putK kvs k v))) ∨
 ∃ kvs k b,H a=some (.dT kvs)∧y=.ref b∧H b=some (.tup (k.map kV))∧kvs.length < sizeLine∧H'=upd H a (.dT (putK kvs k v))
theorem DGet.k {H:Hp} {a:Addr} {kvs:List (Key × V)} {k:Key} (e:H a=some (.dK kvs)):DGet H a (kV k) (valV kvs k):=.inl ⟨kvs,k,.inl e,rfl,rfl⟩
theorem DPut.k {H:Hp} {a:Addr} {kvs:List (Key × V)} {k:Key} {v:V} (e:H a=some (.dK kvs)) (hl:kvs.length < sizeLine):DPut H a (kV k) v (upd H a (.dK (putK kvs k v))):=.inl ⟨kvs,k,e,rfl,hl,rfl⟩
section
variable {X:Cx} {pins:List (Addr × Obj)} {σ:St} {H:Hp} {s:Shared} {a:Addr} {y v:V} {u r:Value} {o:Option V} {A:Around} {E:Value→Shared→Prop}
theorem Inv.big (I:Inv X pins σ H s):sysModules < s.heap.objs.size:=by
 have h:mainGlobals < s.heap.objs.size:=(I.mod.glob.keeps I.bk).lt
 exact Nat.lt_trans (by decide) h
theorem d_write {h':Heap} {t':Nat} {ob:HO} (I:Inv X pins σ H s) (mu:Mut (H a)) (hs:Heap.SameBut a s.heap h') (he:∃ q,h'.get? a=some q) (new:ObjOk X.prog X.w (upd H a ob) h' a ob) :
  Inv X pins σ (upd H a ob) { s with heap:=h',toks:=t' } :=
 I.write (x:=a) (e:=a) mu (.inl rfl) (fun b q hb z=>(hs.2 b hb).trans z) he new
theorem dk_new {P:Program} {w:World} {H':Hp} {h':Heap} {kvs:List (Key × V)} {vs:List (Key × Value)} (z:kvs.length≤sizeLine) (hd:(a == sysModules)=false) (rel:KV kvs vs) (dd:h'.DictOf (mixKind P w) a vs) :
  ObjOk P w H' h' a (.dK kvs):=⟨z,hd,vs,rel,dd⟩
theorem d_setItem {H':Hp} {Q:Unit→Shared→Prop} (hu:A.units+1 < cLine) (I:Inv X pins σ H s) (g:DPut H a y v H') (ry:RelV y u) (rv:RelV v r) (h:∀ s',Inv X pins σ H' s'→Q () s') :
  wpAny (model X.prog X.w) A (setItem (.ref a) u r) Q E s:=by
 rcases g with ⟨kvs,k,e,ey,l,eH⟩ | ⟨kvs,k,b,e,ey,eb,l,eH⟩
 ·subst ey eH
  obtain ⟨z,hd,vs,rel,dd⟩:=dk_of I.hok e
  have hz:vs.length≤sizeLine:=by rw [←rel.length]; exact z
  have hl:(putK kvs k v).length≤sizeLine:=by have:=length_putK kvs k v; omega
  refine wpAny_setItem_pairs (hsz:=hz) (kV_is ry) dd fun h' dd' hs=>h _ ?_
  have he:∃ q,h'.get? a=some q:=let ⟨q,_,_,hq,_⟩:=dd'; ⟨q,hq⟩
  exact d_write I (by rw [e]; exact True.intro) hs he (dk_new hl hd (rel.put k rv) dd')
 ·subst ey eH
  cases (show u=Value.ref b from ry)
  obtain ⟨z,hd,xs,rel,dd⟩:=dt_of I.hok e
  have hz:xs.length≤sizeLine:=by rw [←Paired.length rel]; exact z
  have hl:(putK kvs k v).length≤sizeLine:=by have:=length_putK kvs k v; omega
  refine wpAny_setItem_heap (hsz:=hz) (tupleKind_room_in1 hu) (key_of I.hok eb) dd fun h' dd' hs=>h _ ?_
  obtain ⟨q,es,ep,hq,h2,h3,h4,_,h5⟩:=dd'
  refine d_write I (by rw [e]; exact True.intro) hs ⟨q,hq⟩ ⟨hl,hd,_,(rel.put k eb rv).keeps fun c ys ec=>?_,q,es,ep,hq,h2,h3,h4,h5⟩
  rw [upd_ne (ne_of ec e (fun z=>nomatch z))]
  exact ec
end
section
variable {X:Cx} {pins:List (Addr × Obj)} {σ:St} {H:Hp} {s:Shared} {a:Addr} {kvs:List (Key × V)} {k:Key} {u:Value} {A:Around} {E:Value→Shared→Prop}
end
def sDPut (td ty tv:TE):TS:=fun D σ H=>tv σ H fun v H1=>td σ H1 fun x H2=>ty σ H2 fun y H3=>∃ a H4,x=.ref a∧DPut H3 a y v H4∧D.nx σ H4
section
variable {X:Cx} {o i e value:Expr} {pos pos' tpos:Pos} {td ty tv:TE}
theorem ps_dput (hu:X.A.units+1 < cLine) (ho:PE X o td) (hi:PE X i ty) (hv:PE X value tv) (hs:swapsWith value (some (.Subscript o i pos')) pos.line X.env=pure false) :
  PS X (.Assign [.Subscript o i pos'] value pos) (sDPut td ty tv):=by
 intro pins s σ H D I h
 refine wpAny_Assign_Subscript (thn (hv pins s σ H _ I h) fun r s1 ⟨v,H1,I1,rv,q1⟩=>thn (ho pins s1 σ H1 _ I1 q1) fun u s2 ⟨x,H2,I2,rx,q2⟩=>thn (hi pins s2 σ H2 _ I2 q2) fun iv s3 ⟨y,H3,I3,ry,a,H4,ex,g,q3⟩=>?_) hs
 subst ex
 obtain rfl:u=Value.ref a:=rx
 exact d_setItem hu I3 g ry rv fun s4 I4=>⟨σ,H4,I4,q3⟩
end
theorem dk_empty {P:Program} {w:World} {H:Hp} (h:Heap) (hb:sysModules < h.objs.size):ObjOk P w H (h.push { cls:=.type "dict",data:=.dict #[] }) h.objs.size (.dK []) :=
 ⟨Nat.zero_le _,beq_eq_false_iff_ne.mpr (Ne.symm (Nat.ne_of_lt hb)),[],.nil,Heap.DictOf.new h⟩
def tDNewK:TE:=fun _ H Q=>∀ p,H p=none→Q (.ref p) (upd H p (.dK []))
section
variable {X:Cx} {pos:Pos}
theorem pe_dnewK:PE X (.Dict [] [] pos) tDNewK:=fun pins s σ H Q I h =>
 wpAny_Dict_empty ⟨.ref s.heap.objs.size,_,I.laid (a:=s.heap.objs.size) (o:=.dK []) (t':=s.toks) (fun _ _ q=>Heap.get?_push_of_some _ q) (Nat.le_refl _) (dk_empty s.heap I.big),rfl,h _ (I.hok.fresh (Nat.le_refl _))⟩
end
structure M2 (X:Cx) (o:Expr) (m:Str) (apos:Pos) (e f:Expr) (cpos:Pos):Prop where
 base:attributeBase o m X.env (eval o X.env)=eval o X.env
 few:((backTo cpos (starEach [e,f] X.env)).all (fun x=>!x.1) && (backToKw cpos (keywordEach [] X.env)).all (fun x=>x.1.isSome)
  && decide (([e,f]:List Expr).length+([]:List Keyword).length+(if ([]:List Keyword).isEmpty then 0 else 1) < 30))=true
 line:(apos.endLine == cpos.line)=true
 trees:backTo cpos (starEach [e,f] X.env)=[(false,eval e X.env),(false,eval f X.env)]
def IsD (H:Hp) (a:Addr):Prop:=(∃ kvs,Rd H a (.dK kvs)) ∨ ∃ kvs,Rd H a (.dT kvs)
theorem isD_at {X:Cx} {pins:List (Addr × Obj)} {σ:St} {H:Hp} {s:Shared} {a:Addr} (I:Inv X pins σ H s) (d:IsD H a) :
  s.TypeIs (.ref a) "dict"∧(∀ b,Value.ref a=.ref b→∃ ob,s.heap.get? b=some ob∧ob.dict=none)∧(a == sysModules)=false:=by
 rcases d with ⟨kvs,e⟩ | ⟨kvs,e⟩
 ·obtain ⟨_,hd,vs,_,dd⟩:=dk_rd I.hok e
  refine ⟨dd.typeIs,fun b q=>?_,hd⟩
  cases q
  obtain ⟨ob,_,_,h1,h2,_⟩:=dd
  exact ⟨ob,h1,h2.2.1⟩
 ·obtain ⟨_,hd,xs,_,dd⟩:=dt_rd I.hok e
  refine ⟨dd.typeIs,fun b q=>?_,hd⟩
  cases q
  obtain ⟨ob,_,_,h1,h2,_⟩:=dd
  exact ⟨ob,h1,h2.2.1⟩
section
variable {X:Cx} {pins:List (Addr × Obj)} {σ:St} {H:Hp} {s:Shared} {a:Addr} {y d:V} {u r:Value} {o:Option V} {A:Around} {E:Value→Shared→Prop}
theorem d_get2 {Q:Value→Shared→Prop} (hu:A.units+1 < cLine) (I:Inv X pins σ H s) (g:DGet H a y o) (ry:RelV y u) (rd:RelV d r) (h:∀ w' s',Inv X pins σ H s'→RelV (o.getD d) w'→Q w' s') :
  wpAny (model X.prog X.w) A (call (.builtin "dict.get") [.ref a,u,r]) Q E s:=by
 rcases g with ⟨kvs,k,e,ey,l⟩ | ⟨kvs,k,b,e,ey,eb,l⟩
 ·subst ey
  obtain ⟨z,hd,vs,rel,dd⟩:=dk_rd I.hok e
  refine call_meetsIn PySem.F.slot_dict_get dd.typeIs PySem.F.entry_dict_get (PySem.F.args_dict_get_3 _ _ _) (meets_dict_get_default (mixKind X.prog X.w) a (kV_is ry) hd r) ⟨_,dd.mapOf,h _ _ (I.tok _) ?_⟩
  rw [l]
  exact (rel.val k).getD rd
 ·subst ey
  cases (show u=Value.ref b from ry)
  obtain ⟨z,hd,xs,rel,dd⟩:=dt_rd I.hok e
  refine call_meetsIn PySem.F.slot_dict_get dd.typeIs PySem.F.entry_dict_get (PySem.F.args_dict_get_3 _ _ _) (meetsH_dict_get_default (tupleKind (mixKind X.prog X.w)) a b hd r) ⟨tupleKind_room_in1 hu,k,xs,key_of I.hok eb,dd,h _ _ (I.tok _) ?_⟩
  rw [l]
  exact (rel.val k).getD rd
end
def tDGet2 (td ty tx:TE):TE:=fun σ H Q=>td σ H fun x H1=>∃ a,x=.ref a∧IsD H1 a∧ty σ H1 fun y H2=>tx σ H2 fun z H3=>∃ o,DGet H3 a y o∧Q (o.getD z) H3
section
variable {X:Cx} {o e f:Expr} {apos cpos:Pos} {td ty tx:TE}
theorem pe_dget2 (hu:X.A.units+1 < cLine) (ho:PE X o td) (he:PE X e ty) (hf:PE X f tx) (m:M2 X o "get" apos e f cpos):PE X (.Call (.Attribute o "get" apos) [e,f] [] cpos) (tDGet2 td ty tx):=by
 intro pins s σ H Q I h
 refine wpAny_Call_method m.base m.few m.line PySem.F.plainAttrs_dict PySem.F.slot_dict_get PySem.F.type_dict_get (thn (ho pins s σ H _ I h) fun u s1 ⟨x,H1,I1,rx,a,ex,d,q1⟩=>?_)
 subst ex
 obtain rfl:u=Value.ref a:=rx
 obtain ⟨t1,t2,_⟩:=isD_at I1 d
 refine ⟨t1,t2,?_⟩
 rw [m.trees]
 refine Calls.callWith_builtin rfl (Calls.evalArgs_plain (Calls.spliced_cons (thn (he pins s1 σ H1 _ I1 q1) fun iv s2 ⟨y,H2,I2,ry,q2⟩ =>
  Calls.spliced_cons (thn (hf pins s2 σ H2 _ I2 q2) fun fv s3 ⟨z,H3,I3,rz,ov,g,q3⟩=>Calls.spliced_nil ?_))))
 exact d_get2 hu I3 g ry rz fun w' s4 I4 rw'=>⟨_,H3,I4,rw',q3⟩
end
section
variable {X:Cx} {pins:List (Addr × Obj)} {σ:St} {H:Hp} {s:Shared} {a:Addr} {kvs:List (Key × V)} {A:Around} {E:Value→Shared→Prop}
end
section
variable {X:Cx} {pins:List (Addr × Obj)} {σ:St} {H:Hp} {s:Shared} {a:Addr} {y:V} {u:Value} {A:Around} {E:Value→Shared→Prop}
end
end L2
namespace L2
open PySem PySem.Spec PyProof.Rows
section
variable {X:Cx}
end
end L2
namespace L2
open PySem PySem.Spec PyProof.Rows
section
variable {κ:Type} [DecidableEq κ]
end
end L2
namespace L2
open PySem PySem.Spec PyProof.Rows
abbrev Mark:=Int × Int × List Int
section
variable {prog:Program} {w:World}
def IsMark (prog:Program) (w:World) (h:Heap) (k:Mark) (a:Addr):Prop :=
 ∃ o n b t u,h.get? a=some o∧o.cls=.type "tuple"∧o.data=.seq #[.int k.1 t,.int k.2.1 u,.ref b] n∧IsTupleKey (intKind prog w) h k.2.2 b
theorem IsMark.ty {s:Shared} {k:Mark} {a:Addr} (m:IsMark prog w s.heap k a):s.TypeIs (.ref a) "tuple":=by
 obtain ⟨o,_,_,_,_,e,c,_⟩:=m
 exact ⟨o,e,c⟩
theorem IsMark.one {h:Heap} {a:Addr} {x y:Mark} (mx:IsMark prog w h x a) (my:IsMark prog w h y a):x=y:=by
 obtain ⟨o,n,b,t,u,e,_,d,i⟩:=mx
 obtain ⟨o',n',b',t',u',e',_,d',i'⟩:=my
 rw [e] at e'
 cases e'
 rw [d] at d'
 injection d' with z _
 have z':[Value.int x.1 t,.int x.2.1 u,.ref b]=[Value.int y.1 t',.int y.2.1 u',.ref b']:=by simpa using congrArg Array.toList z
 injection z' with z1 z'
 injection z' with z2 z'
 injection z' with z3 _
 injection z1 with z1 _
 injection z2 with z2 _
 injection z3 with z3
 subst z3
 exact Prod.ext z1 (Prod.ext z2 (i.inj i'))
theorem IsMark.stay {h h':Heap} {k:Mark} {a d:Addr} {o:Obj} {es:Array DictEntry} {ep:Nat} (m:IsMark prog w h k a) (ho:h.get? d=some o) (hd:o.data=.dict es ep) (sb:Heap.SameBut d h h'):IsMark prog w h' k a:=by
 obtain ⟨q,n,b,t,u,e,c,dd,i⟩:=m
 have ne:a≠d:=fun z=>by
  subst z
  rw [e] at ho
  cases ho
  rw [dd] at hd
  cases hd
 exact ⟨q,n,b,t,u,(sb.2 a ne).trans e,c,dd,i.keeps ho hd sb⟩
def markHash (prog:Program) (w:World) (k:Mark):Int:=reduceHash (Builtin.Tuple.tupleHashOf [hashInt k.1,hashInt k.2.1,tupleKeyHash (intKind prog w) k.2.2])
variable {A:Around} {E:Value→Shared→Prop} {s:Shared}
theorem mark_hash {k:Mark} {a:Addr} {Q:Int→Shared→Prop} (hu:A.units+8 < cLine) (m:IsMark prog w s.heap k a) (h:Q (markHash prog w k) { s with toks:=s.toks+(k.2.2.length+4) }):wpAny (model prog w) A (pyHash (.ref a)) Q E s:=by
 have T:=m.ty
 obtain ⟨o,n,b,t,u,e,_,d,i⟩:=m
 unfold pyHash
 first
  | unfold pyHashByItsType
  | skip
 first
  | refine wpAny_bind (wpAny_cRoomFor_or (.inr (by omega)) ?_)
  | skip
 refine wpAny_bind (wpAny_specialOf T PySem.F.slot_tuple_hash.lookup ?_)
 show wpAny _ _ (if (some (Value.builtin "tuple.__hash__") == some Value.none)=true then _ else _) Q E s
 rw [if_neg (by rw [beq_builtin_none]; decide)]
 refine wpAny_bind (wpAny_specialOf T PySem.F.slot_tuple_hash.lookup ?_)
 show wpAny _ _ (callSpecialIfBoundUnlessNone? (.ref a) "__hash__" _ >>= _) Q E s
 refine wpAny_bind (wpAny_callSpecialIfBoundUnlessNone?_slot T PySem.F.slot_tuple_hash (wpAny_call_entry PySem.F.slot_tuple_hash T PySem.F.entry_tuple_hash ?_ (PySem.F.args_tuple_hash_1 _)))
 show wpAny _ _ (Builtin.Tuple.tupleItemsOf (.ref a) >>= _) _ _ s
 refine wpAny_bind (wpAny_tupleItemsOf e d ?_)
 refine wpAny_bind ?_
 rw [←Array.forIn_toList]
 show wpAny _ _ (forIn [Value.int k.1 t,Value.int k.2.1 u,Value.ref b] _ _) _ _ s
 rw [List.forIn_cons]
 refine wpAny_bind (wpAny_bind (wpAny_pyHash_int (wpAny_pure ?_)))
 show wpAny _ _ (forIn [Value.int k.2.1 u,Value.ref b] _ _) _ _ _
 rw [List.forIn_cons]
 refine wpAny_bind (wpAny_bind (wpAny_pyHash_int (wpAny_pure ?_)))
 show wpAny _ _ (forIn [Value.ref b] _ _) _ _ _
 rw [List.forIn_cons]
 refine wpAny_bind (wpAny_bind (wpAny_pyHash_tuple (knd:=intKind prog w) (s:={ s with toks:=s.toks+1+1 }) (by show A.units+1 < cLine; omega) i (wpAny_pure ?_)))
 show wpAny _ _ (forIn ([]:List Value) _ _) _ _ _
 rw [List.forIn_nil]
 refine wpAny_pure ?_
 show wpAny _ _ (retInt (Builtin.Tuple.tupleHashOf [hashInt k.1,hashInt k.2.1,tupleKeyHash (intKind prog w) k.2.2])) _ _ _
 refine wpAny_ret_mkInt ?_
 unfold markHash reduceHash at h
 generalize Builtin.Tuple.tupleHashOf [hashInt k.1,hashInt k.2.1,tupleKeyHash (intKind prog w) k.2.2]=z at h ⊢
 have et:s.toks+1+1+(k.2.2.length+1)+1=s.toks+(k.2.2.length+4):=by omega
 rw [←et] at h
 show wpAny _ _ (if (decide (-(2:Int) ^ 63≤z) && decide (z < 2 ^ 63))=true then _ else _) Q E { s with toks:=s.toks+1+1+(k.2.2.length+1)+1 }
 cases hr:(decide (-(2:Int) ^ 63≤z) && decide (z < 2 ^ 63)) with
 | true =>
  rw [hr,if_pos rfl] at h
  rw [if_pos rfl]
  exact wpAny_pure h
 | false =>
  rw [hr,if_neg (by decide)] at h
  rw [if_neg (by decide)]
  exact wpAny_bind (wpAny_rule (wpAny_pure h))
theorem mark_eqT {x y:Mark} {a b:Addr} {R:Fin→Shared→Prop} (hu:A.units+4 < cLine) (mx:IsMark prog w s.heap x a) (my:IsMark prog w s.heap y b) (h:R (.done (.ret (.bool (decide (x=y))))) s) :
  wpAny (model prog w) A (Builtin.«tuple.__eq__» ⟨[.ref a,.ref b],[]⟩) R E s:=by
 have Tb:=my.ty
 obtain ⟨o,n,c,t,u,e,_,d,i⟩:=mx
 obtain ⟨o',n',c',t',u',e',_,d',i'⟩:=my
 show wpAny _ _ (isInstance (.ref b) (.type "tuple") >>= _) _ _ s
 refine wpAny_bind (wpAny_isInstance Tb isSubtype_tuple_tuple ?_)
 simp only [Bool.not_true,Bool.false_eq_true,if_false]
 refine wpAny_bind (wpAny_tupleItemsOf e d ?_)
 refine wpAny_bind (wpAny_tupleItemsOf e' d' ?_)
 refine wpAny_bind ?_
 show wpAny _ _ (forIn [(Value.int x.1 t,Value.int y.1 t'),(Value.int x.2.1 u,Value.int y.2.1 u'),(Value.ref c,Value.ref c')] _ _) _ _ s
 rw [List.forIn_cons]
 refine wpAny_bind (wpAny_bind (wpAny_eqBool_int ?_))
 by_cases z1:x.1=y.1
 ·rw [(by simpa using z1:(x.1 == y.1)=true)]
  simp only [Bool.not_true,Bool.false_eq_true,if_false]
  refine wpAny_pure ?_
  show wpAny _ _ (forIn [(Value.int x.2.1 u,Value.int y.2.1 u'),(Value.ref c,Value.ref c')] _ _) _ _ _
  rw [List.forIn_cons]
  refine wpAny_bind (wpAny_bind (wpAny_eqBool_int ?_))
  by_cases z2:x.2.1=y.2.1
  ·rw [(by simpa using z2:(x.2.1 == y.2.1)=true)]
   simp only [Bool.not_true,Bool.false_eq_true,if_false]
   refine wpAny_pure ?_
   show wpAny _ _ (forIn [(Value.ref c,Value.ref c')] _ _) _ _ _
   rw [List.forIn_cons]
   refine wpAny_bind (wpAny_bind (wpAny_eqBool_tuple (knd:=intKind prog w) (by omega) i i' ?_))
   by_cases z3:x.2.2=y.2.2
   ·rw [decide_eq_true z3]
    simp only [Bool.not_true,Bool.false_eq_true,if_false]
    refine wpAny_pure ?_
    show wpAny _ _ (forIn ([]:List (Value × Value)) _ _) _ _ _
    rw [List.forIn_nil]
    refine wpAny_pure ?_
    have hf:decide (x=y)=true:=decide_eq_true (Prod.ext z1 (Prod.ext z2 z3))
    rw [hf] at h
    exact wpAny_pure h
   ·rw [decide_eq_false z3]
    simp only [Bool.not_false,if_true]
    have hf:decide (x=y)=false:=decide_eq_false fun q=>z3 (by rw [q])
    rw [hf] at h
    exact wpAny_bind (wpAny_pure (wpAny_pure (wpAny_pure (wpAny_pure h))))
  ·rw [(by simpa using z2:(x.2.1 == y.2.1)=false)]
   simp only [Bool.not_false,if_true]
   have hf:decide (x=y)=false:=decide_eq_false fun q=>z2 (by rw [q])
   rw [hf] at h
   exact wpAny_bind (wpAny_pure (wpAny_pure (wpAny_pure (wpAny_pure h))))
 ·rw [(by simpa using z1:(x.1 == y.1)=false)]
  simp only [Bool.not_false,if_true]
  have hf:decide (x=y)=false:=decide_eq_false fun q=>z1 (by rw [q])
  rw [hf] at h
  exact wpAny_bind (wpAny_pure (wpAny_pure (wpAny_pure (wpAny_pure h))))
theorem mark_eq {x y:Mark} {a b:Addr} {Q:Bool→Shared→Prop} (hu:A.units+8 < cLine) (mx:IsMark prog w s.heap x a) (my:IsMark prog w s.heap y b) (h:Q (decide (x=y)) s) :
  wpAny (model prog w) A (eqBool (.ref a) (.ref b)) Q E s:=by
 unfold eqBool
 try with_reducible refine wpAny_holding ?_
 show wpAny _ _ (if (Value.ref a == Value.ref b)=true then _ else _) Q E s
 cases hab:(Value.ref a == Value.ref b) with
 | true =>
  rw [if_pos rfl]
  have e:a=b:=by
   have:=eq_of_beq hab
   injection this
  subst e
  have:=mx.one my
  subst this
  rw [decide_eq_true rfl] at h
  exact wpAny_bind (wpAny_rule (wpAny_pure h))
 | false =>
  rw [if_neg (by decide)]
  exact wpAny_bind (wpAny_richCompare_same_room (op:=.Eq) mx.ty my.ty PySem.F.slot_tuple_eq
   (wpAny_call_entry PySem.F.slot_tuple_eq mx.ty PySem.F.entry_tuple_eq (mark_eqT (by show A.units+1+4 < cLine; omega) mx my ⟨_,rfl,(fun e=>nomatch e),wpAny_truthy_bool h⟩) (PySem.F.args_tuple_eq_2 _ _)) (by omega))
theorem quiet_flat {ks:List Int} {a:Addr} {m:Nat} {Q:Bool→Shared→Prop} (hk:IsTupleKey (intKind prog w) s.heap ks a) (h:Q true s):wpAny (model prog w) A (eqIsQuiet (m+1) (.ref a)) Q E s:=by
 have T:=hk.typeIs
 obtain ⟨o,items,n,ho,_,hd,hi⟩:=hk
 unfold eqIsQuiet
 refine wpAny_bind (wpAny_specialOf T PySem.F.slot_tuple_eq.lookup ?_)
 show wpAny _ _ (isInstance (.ref a) (.type "tuple") >>= _) _ _ s
 refine wpAny_bind (wpAny_isInstance T isSubtype_tuple_tuple ?_)
 simp only [Bool.not_true,Bool.false_eq_true,if_false]
 refine wpAny_bind (wpAny_seqItems ho hd (wpAny_bind ?_))
 show wpAny _ _ (forIn items _ _) _ _ s
 rw [←Array.forIn_toList]
 refine wpAny_forIn_list _ (fun left r s1=>(r.1=none∧s1=s)∧∀ v ∈ left,carriedByValue v=true) _ ?_ ?_ _ _ ⟨⟨rfl,rfl⟩,hi.byValue⟩
 ·rintro v left r s1 ⟨⟨hr,rfl⟩,al⟩
  rw [eqIsQuiet_byValue _ (al v List.mem_cons_self)]
  refine wpAny_bind (wpAny_pure ?_)
  simp only [Bool.not_true,Bool.false_eq_true,if_false]
  exact wpAny_pure ⟨⟨rfl,rfl⟩,fun q hq=>al q (List.mem_cons_of_mem _ hq)⟩
 ·rintro ⟨r1,r2⟩ s1 ⟨⟨hr,rfl⟩,_⟩
  have hr':r1=none:=hr
  subst hr'
  exact wpAny_pure h
theorem mark_quiet {k:Mark} {a:Addr} {Q:Bool→Shared→Prop} (m:IsMark prog w s.heap k a) (h:Q true s):wpAny (model prog w) A (eqIsQuiet 8 (.ref a)) Q E s:=by
 have T:=m.ty
 obtain ⟨o,n,b,t,u,e,_,d,i⟩:=m
 unfold eqIsQuiet
 refine wpAny_bind (wpAny_specialOf T PySem.F.slot_tuple_eq.lookup ?_)
 show wpAny _ _ (isInstance (.ref a) (.type "tuple") >>= _) _ _ s
 refine wpAny_bind (wpAny_isInstance T isSubtype_tuple_tuple ?_)
 simp only [Bool.not_true,Bool.false_eq_true,if_false]
 refine wpAny_bind (wpAny_seqItems e d (wpAny_bind ?_))
 rw [←Array.forIn_toList]
 show wpAny _ _ (forIn [Value.int k.1 t,Value.int k.2.1 u,Value.ref b] _ _) _ _ s
 rw [List.forIn_cons,eqIsQuiet_byValue _ (show carriedByValue (Value.int k.1 t)=true from rfl)]
 refine wpAny_bind (wpAny_bind (wpAny_pure ?_))
 simp only [Bool.not_true,Bool.false_eq_true,if_false]
 refine wpAny_pure ?_
 show wpAny _ _ (forIn [Value.int k.2.1 u,Value.ref b] _ _) _ _ _
 rw [List.forIn_cons,eqIsQuiet_byValue _ (show carriedByValue (Value.int k.2.1 u)=true from rfl)]
 refine wpAny_bind (wpAny_bind (wpAny_pure ?_))
 simp only [Bool.not_true,Bool.false_eq_true,if_false]
 refine wpAny_pure ?_
 show wpAny _ _ (forIn [Value.ref b] _ _) _ _ _
 rw [List.forIn_cons]
 refine wpAny_bind (wpAny_bind (quiet_flat (m:=6) i ?_))
 simp only [Bool.not_true,Bool.false_eq_true,if_false]
 refine wpAny_pure ?_
 show wpAny _ _ (forIn ([]:List Value) _ _) _ _ _
 rw [List.forIn_nil]
 exact wpAny_pure (wpAny_pure h)
def markKind (prog:Program) (w:World):HeapKind prog w Mark where
 is:=IsMark prog w
 hash:=markHash prog w
 draws k:=k.2.2.length+4
 room A:=A.units+8 < cLine
 inj:=IsMark.one
 keeps:=IsMark.stay
 pyHash:=mark_hash
 eqBool:=mark_eq
 quiet:=mark_quiet
end
end L2
namespace L2
open PySem PySem.Spec PyProof.Rows
section
variable {prog:Program} {w:World} {K:Type} [DecidableEq K] {A:Around} {E:Value→Shared→Prop} {s:Shared}
theorem hk_setd {knd:HeapKind prog w K} {d a:Addr} {xs:List (K × Addr × Value)} {k:K} {x:Value} {Q:Value→Shared→Prop} (hu:knd.room A) (hk:knd.is s.heap k a)
  (hm:s.heap.DictOfH knd d xs) (hz:xs.length≤sizeLine)
  (old:∀ p,atKey xs k=some p→Q p.2 { s with toks:=s.toks+knd.draws k })
  (new:atKey xs k=none→∀ h',h'.DictOfH knd d (xs++[(k,a,x)])→Heap.SameBut d s.heap h'→Q x { s with heap:=h',toks:=s.toks+knd.draws k }) :
  wpAny (model prog w) A (dictSetDefault d (.ref a) x) Q E s:=by
 obtain ⟨o,es,ep,g1,g2,g3,g4,g5,g6⟩:=hm
 unfold dictSetDefault
 with_reducible refine wpAny_holding ?_
 refine wpAny_bind (knd.pyHash hu hk (wpAny_bind (wpAny_dictFind_heap (s:={ s with toks:=s.toks+knd.draws k }) hu hk g1 g3 g4 g5 g6 (fun no=>?_) (fun j p hj=>?_))))
 ·have e0:=atKey_none_of_get no
  have nm:=not_mem_keys_of_get no
  have e1:es.size≤sizeLine:=by rw [size_of_entries g4]; exact hz
  refine wpAny_bind (wpAny_rule (wpAny_bind (wpAny_updateDictKeys (hz:=e1) (s:={ s with toks:=s.toks+knd.draws k }) g1 g3 (wpAny_pure (new e0 _ ⟨_,_,ep+1,Heap.get?_update_self _ g1 (Obj.isFreed_of_dict (Obj.data_mapDictKeys g3 _)),g2.mapDictKeys _,Obj.data_mapDictKeys g3 _,?_,?_,?_⟩ (Heap.SameBut.update ..))))))
  ·simp [g4,entryOfKey]
  ·intro y hy
   rcases List.mem_append.mp hy with q | q
   ·exact knd.keeps (g5 y q) g1 g3 (Heap.SameBut.update ..)
   ·cases List.mem_singleton.mp q
    exact knd.keeps hk g1 g3 (Heap.SameBut.update ..)
  ·rw [List.map_append,List.nodup_append]
   refine ⟨g6,by simp,fun y hy z hz' q=>?_⟩
   simp only [List.map_cons,List.map_nil,List.mem_singleton] at hz'
   subst hz'
   exact nm (q ▸ hy)
 ·refine wpAny_bind (wpAny_dictEntries (s:={ s with toks:=s.toks+knd.draws k }) g1 g3 ?_)
  rw [entry_at g4 j,hj]
  exact wpAny_bind (wpAny_rule (wpAny_pure (old p (atKey_of_get g6 hj))))
theorem call_setd {d:Addr} {key x:Value} {Q:Value→Shared→Prop} (T:s.TypeIs (.ref d) "dict") (hd:(d == sysModules)=false)
  (h:wpAny (model prog w) A.in1 (dictSetDefault d key x) Q (fun e s'=>E e s') s):wpAny (model prog w) A (call (.builtin "dict.setdefault") [.ref d,key,x]) Q E s:=by
 refine wpAny_call_entry F.slot_dict_setdefault T F.entry_dict_setdefault ?_ (F.args_dict_setdefault_3 _ _ _)
 unfold Builtin.«dict.setdefault»
 refine wpAny_bind ?_
 unfold Builtin.Dict.keyAndDefault
 refine wpAny_bind (wpAny_notOrdered_dict T ?_)
 show wpAny _ _ (pure (d,key,some x)) _ _ s
 refine wpAny_pure ?_
 show wpAny _ _ (if (d == sysModules)=true then _ else (dictSetDefault d key x >>= _)) _ _ s
 rw [if_neg (by rw [hd]; exact Bool.false_ne_true)]
 refine wpAny_bind (wpAny_mono h (fun v s' q=>?_) (fun _ _ q=>q))
 exact wpAny_pure ⟨_,rfl,q⟩
end
end L2
namespace L2
open PySem PySem.Spec PyProof.Rows
section
variable {prog:Program} {w:World} {K:Type} [DecidableEq K] {A:Around} {E:Value→Shared→Prop} {s:Shared}
theorem hk_len {knd:HeapKind prog w K} {d:Addr} {xs:List (K × Addr × Value)} {Q:Value→Shared→Prop} (hd:(d == sysModules)=false) (hm:s.heap.DictOfH knd d xs) (hf:xs.length≤sizeLine)
  (h:∀ t t',Q (.int xs.length t) { s with toks:=t' }):wpAny (model prog w) A (call (.builtin "len") [.ref d]) Q E s:=by
 have T:=hm.typeIs
 rw [sizeLine_eq] at hf
 refine Calls.call_function_entry kind_len plain_len entry_len (args_len1 _) ?_
 unfold Builtin.«len»
 refine wpAny_bind (m:=oneArg "len" _) (wpAny_pure ?_)
 refine wpAny_bind (m:=callSpecial? (.ref d) (Str.ofString "__len__")) (wpAny_callSpecial?_slot (name:=Str.ofString "__len__") T F.slot_dict_len (wpAny_call_entry F.slot_dict_len T F.entry_dict_len ?_ (F.args_dict_len_1 _)))
 obtain ⟨o,es,ep,g1,_,g3,g4,_,_⟩:=hm
 show wpAny _ _ (dictSize d >>= _) _ _ s
 unfold dictSize
 refine wpAny_bind (wpAny_bind (wpAny_dictEntries g1 g3 (wpAny_pure ?_)))
 show wpAny _ _ (Builtin.Dict.pendingCount d >>= _) _ _ s
 refine wpAny_bind (wpAny_pendingCount_other hd (wpAny_ret_mkInt ?_))
 rw [size_of_entries g4]
 show wpAny _ _ _ _ _ { s with toks:=s.toks+1 }
 refine wpAny_bind (wpAny_holding (wpAny_pure ?_))
 refine wpAny_bind (wpAny_letGo ?_)
 show wpAny _ _ (if ((xs.length:Nat):Int) < 0 then _ else _) _ _ _
 rw [if_neg (by omega)]
 show wpAny _ _ (if ((xs.length:Nat):Int) ≥ 2 ^ 63 then _ else _) _ _ _
 rw [if_neg (by omega)]
 exact wpAny_bind (wpAny_mkInt (wpAny_pure ⟨_,rfl,h _ _⟩))
end
section
variable {P:Program} {w:World} {H:Hp} {h:Heap} {a:Addr}
theorem ints_are:∀ {ns:List Int} {us:List Value},Vals (ns.map V.int) us→ItemsAre (intKind P w) ns us
 | [],_,.nil=>.nil
 | n :: ns,_,.cons r t=>by
  obtain ⟨t',rfl⟩:=(show ∃ t,_=Value.int n t from r)
  exact .cons (intKind_is P w n t') (ints_are t)
theorem mark_of {b:Addr} {k:Mark} (ok:HOk P w H h) (e:H a=some (.tup [.int k.1,.int k.2.1,.ref b])) (eb:H b=some (.tup (k.2.2.map V.int))):IsMark P w h k a:=by
 obtain ⟨_,its,r,o,q1,q2,n,q3⟩:=(show ObjOk P w H h a _ from ok a _ e)
 obtain ⟨_,its2,r2,o2,p1,p2,n2,p3⟩:=(show ObjOk P w H h b _ from ok b _ eb)
 cases r with
 | cons r1 r =>
  cases r with
  | cons r2' r =>
   cases r with
   | cons r3 r =>
    cases r
    obtain ⟨t,rfl⟩:=(show ∃ t,_=Value.int k.1 t from r1)
    obtain ⟨u,rfl⟩:=(show ∃ t,_=Value.int k.2.1 t from r2')
    cases (show _=Value.ref b from r3)
    exact ⟨o,n,b,t,u,q1,q2,q3,o2,_,n2,p1,p2,p3,ints_are r2⟩
abbrev MRel:List (Mark × Addr × V)→List (Mark × Addr × Value)→Prop:=Paired fun p q=>p.1=q.1∧p.2.1=q.2.1∧RelV p.2.2 q.2.2
def MkAt (P:Program) (w:World) (a:Addr) (xs:List (Mark × Addr × V)) (h:Heap):Prop :=
 xs.length≤sizeLine∧(a == sysModules)=false∧∃ ys,MRel xs ys∧∃ o es ep,h.get? a=some o∧o.ExactDict∧o.data=.dict es ep∧es.toList=ys.map (entryOfKey (markKind P w))∧(ys.map (·.1)).Nodup
def MkO (P:Program) (w:World) (a:Addr) (xs:List (Mark × Addr × V)):HO:=.ext (MkAt P w a xs)
def MkKey (H:Hp) (x:Mark × Addr):Prop:=∃ b,H x.2=some (.tup [.int x.1.1,.int x.1.2.1,.ref b])∧H b=some (.tup (x.1.2.2.map V.int))
theorem mk_ok {xs:List (Mark × Addr × V)} (q:MkAt P w a xs h):ObjOk P w H h a (MkO P w a xs):=by
 obtain ⟨z,d,ys,r,o,es,ep,g1,g2⟩:=q
 refine ⟨⟨z,d,ys,r,o,es,ep,g1,g2⟩,⟨o,g1⟩,fun h1 h2 q k=>?_⟩
 obtain ⟨z,d,ys,r,o,es,ep,g1,g2⟩:=q
 exact ⟨z,d,ys,r,o,es,ep,k _ g1,g2⟩
theorem MRel.at {k:Mark} {xs:List (Mark × Addr × V)} {ys:List (Mark × Addr × Value)} (r:MRel xs ys):RelO ((xs.find? fun x=>decide (x.1=k)).map (·.2.2)) ((atKey ys k).map (·.2)):=by
 induction r with
 | nil=>exact True.intro
 | @cons p q ps qs g t ih =>
  obtain ⟨g1,_,g3⟩:=g
  by_cases e:p.1=k
  ·have e':q.1=k:=g1.symm.trans e
   rw [show atKey (q :: qs) k=some q.2 by simp [atKey,e'],show ((p :: ps).find? fun x=>decide (x.1=k))=some p by simp [e]]
   exact g3
  ·have e':¬ q.1=k:=fun z=>e (g1.trans z)
   rw [show atKey (q :: qs) k=atKey qs k by simp [atKey,e'],show ((p :: ps).find? fun x=>decide (x.1=k))=ps.find? fun x=>decide (x.1=k) by simp [e]]
   exact ih
theorem mk_dict {xs:List (Mark × Addr × V)} (ok:HOk P w H h) (e:H a=some (MkO P w a xs)) (ks:∀ x ∈ xs,MkKey H (x.1,x.2.1)) :
  xs.length≤sizeLine∧(a == sysModules)=false∧∃ ys,MRel xs ys∧h.DictOfH (markKind P w) a ys:=by
 obtain ⟨⟨z,d,ys,r,o,es,ep,g1,g2,g3,g4,g5⟩,_⟩:=(show ObjOk P w H h a _ from ok a _ e)
 refine ⟨z,d,ys,r,o,es,ep,g1,g2,g3,g4,fun y hy=>?_,g5⟩
 have:∀ {l:List (Mark × Addr × V)} {m:List (Mark × Addr × Value)},MRel l m→(∀ x ∈ l,MkKey H (x.1,x.2.1))→∀ y ∈ m,MkKey H (y.1,y.2.1):=by
  intro l m q
  induction q with
  | nil=>intro _ y hy; cases hy
  | cons g t ih =>
   intro al y hy
   rcases List.mem_cons.mp hy with q | q
   ·subst q
    have:=al _ List.mem_cons_self
    rw [g.1,g.2.1] at this
    exact this
   ·exact ih (fun x hx=>al x (List.mem_cons_of_mem _ hx)) y q
 obtain ⟨b,q1,q2⟩:=this r ks y hy
 exact mark_of ok q1 q2
end
end L2
namespace L2
open PySem PySem.Spec PyProof.Rows
def KL {κ:Type} [DecidableEq κ] (l:List (κ × V × V)) (k:κ):Option V:=(l.find? fun x=>decide (x.1=k)).map (·.2.2)
def rSetd {κ:Type} [DecidableEq κ] (obj:Addr→List (κ × V × V)→HO) (key:Hp→V→κ→Prop):V→List V→Hp→VK→Prop:=fun x vs H Q =>
 ∃ d l k y v,x=.ref d∧vs=[y,v]∧H d=some (obj d l)∧(∀ z ∈ l,key H z.2.1 z.1)∧key H y k∧l.length < sizeLine ∧
  ((∃ r,KL l k=some r∧Q r H) ∨ (KL l k=none∧Q v (upd H d (obj d (l++[(k,y,v)])))))
structure Kd (X:Cx) (κ:Type) [DecidableEq κ] (obj:Addr→List (κ × V × V)→HO) (key:Hp→V→κ→Prop):Prop where
 ty:∀ {pins:List (Addr × Obj)} {σ:St} {H:Hp} {s:Shared} {a:Addr} {l:List (κ × V × V)},Inv X pins σ H s→H a=some (obj a l) →
  s.TypeIs (.ref a) "dict"∧∀ b,Value.ref a=.ref b→∃ ob,s.heap.get? b=some ob∧ob.dict=none
 new:∀ pos,PE X (.Dict [] [] pos) (fun _ H Q=>∀ p,H p=none→Q (.ref p) (upd H p (obj p [])))
 len:CallR X (.builtin "len") (fun xs H Q=>∃ a l,xs=[V.ref a]∧H a=some (obj a l)∧(∀ z ∈ l,key H z.2.1 z.1)∧Q (.int l.length) H)
 set:MtM X "dict.setdefault" (rSetd obj key)
def adr:V→Addr
 | .ref a=>a
 | _=>0
def mL (l:List (Mark × V × V)):List (Mark × Addr × V):=l.map fun x=>(x.1,adr x.2.1,x.2.2)
def mObj (P:Program) (w:World) (a:Addr) (l:List (Mark × V × V)):HO:=MkO P w a (mL l)
def mKey (H:Hp) (y:V) (k:Mark):Prop:=∃ a,y=.ref a∧MkKey H (k,a)
theorem mL_keys {H:Hp} {l:List (Mark × V × V)} (h:∀ z ∈ l,mKey H z.2.1 z.1):∀ x ∈ mL l,MkKey H (x.1,x.2.1):=by
 intro x hx
 obtain ⟨z,hz,rfl⟩:=List.mem_map.mp hx
 obtain ⟨a,e,q⟩:=h z hz
 show MkKey H (z.1,adr z.2.1)
 rw [e]
 exact q
theorem find_mL (k:Mark):∀ l:List (Mark × V × V),((mL l).find? fun x=>decide (x.1=k)).map (·.2.2)=KL l k
 | []=>rfl
 | x :: l=>by
  by_cases e:x.1=k
  ·simp [mL,KL,e]
  ·rw [show KL (x :: l) k=KL l k by simp [KL,e],←find_mL k l]
   simp [mL,e]
theorem kd_mark {X:Cx} (hu:X.A.units+9 < cLine):Kd X Mark (mObj X.prog X.w) mKey where
 ty:=by
  intro pins σ H s a l I e
  obtain ⟨⟨_,_,ys,_,o,es,ep,g1,g2,_⟩,_⟩:=(show ObjOk X.prog X.w H s.heap a _ from I.hok a _ e)
  refine ⟨⟨o,g1,g2.1⟩,fun b q=>?_⟩
  cases q
  exact ⟨o,g1,g2.2.1⟩
 new:=fun pos pins s σ H Q I h=>by
  refine wpAny_Dict_empty ⟨.ref s.heap.objs.size,_,I.laid (o:=mObj X.prog X.w s.heap.objs.size []) (t':=s.toks) (fun _ _ q=>Heap.get?_push_of_some _ q) (Nat.le_refl _) (mk_ok ?_),rfl,h _ (I.hok.fresh (Nat.le_refl _))⟩
  exact ⟨Nat.zero_le _,beq_eq_false_iff_ne.mpr (Ne.symm (Nat.ne_of_lt I.big)),[],.nil,_,#[],0,Heap.get?_push_size _ rfl,⟨rfl,rfl,rfl⟩,rfl,rfl,List.nodup_nil⟩
 len:=by
  intro pins s σ H xs us Q I r h
  obtain ⟨a,l,rfl,ha,ks,q⟩:=h
  obtain ⟨u,rfl,ru⟩:=vals1 r
  cases ru
  obtain ⟨z,hd,ys,rel,dd⟩:=mk_dict I.hok ha (mL_keys ks)
  have el:ys.length=l.length:=by rw [←Paired.length rel,mL,List.length_map]
  refine hk_len hd dd (by rw [←Paired.length rel]; exact z) fun t t'=>⟨.int l.length,H,I.tok _,⟨t,by rw [el]⟩,q⟩
 set:=by
  intro pins s σ H x vs v us Q I rx rv h
  obtain ⟨d,l,k,y,z,rfl,rfl,e,ks,⟨a,ey,b,eb,ec⟩,hz,q⟩:=h
  cases rx
  cases ey
  obtain ⟨u,u',rfl,ru,ru'⟩:=rv.two
  cases ru
  obtain ⟨z1,hd,ys,rel,dd⟩:=mk_dict I.hok e (mL_keys ks)
  have t1:=MRel.at (k:=k) rel
  rw [find_mL] at t1
  refine call_setd dd.typeIs hd (hk_setd (knd:=markKind X.prog X.w) (k:=k) (by show X.A.units+1+8 < cLine; omega) (mark_of I.hok eb ec) dd (by rw [←Paired.length rel]; exact z1) (fun r hr=>?_) (fun hr h' dd' sb=>?_))
  ·rw [hr] at t1
   rcases q with ⟨r',e1,q⟩ | ⟨e1,_⟩
   ·rw [e1] at t1
    exact ⟨r',H,I.tok _,t1,q⟩
   ·rw [e1] at t1
    exact (show False from t1).elim
  ·rw [hr] at t1
   rcases q with ⟨r',e1,_⟩ | ⟨_,q⟩
   ·rw [e1] at t1
    exact (show False from t1).elim
   ·obtain ⟨o,es,ep,g1,g2,g3,g4,g5,g6⟩:=dd'
    refine ⟨z,_,d_write I (ob:=mObj X.prog X.w d (l++[(k,.ref a,z)])) (by rw [e]; exact True.intro) sb ⟨o,g1⟩ (mk_ok ⟨?_,hd,_,?_,o,es,ep,g1,g2,g3,g4,g6⟩),ru',q⟩
    ·rw [mL,List.length_map,List.length_append,List.length_singleton]
     omega
    ·rw [mL,List.map_append]
     exact Paired.snoc rel ⟨rfl,rfl,ru'⟩
def tSetd {κ:Type} [DecidableEq κ] (obj:Addr→List (κ × V × V)→HO) (key:Hp→V→κ→Prop) (td ty tx:TE):TE:=fun σ H Q =>
 td σ H fun x H1=>∃ a l,x=.ref a∧H1 a=some (obj a l)∧ty σ H1 fun y H2=>tx σ H2 fun z H3=>rSetd obj key x [y,z] H3 Q
theorem pe_setd {X:Cx} {κ:Type} [DecidableEq κ] {obj:Addr→List (κ × V × V)→HO} {key:Hp→V→κ→Prop} {o e f:Expr} {apos cpos:Pos} {td ty tx:TE} (K:Kd X κ obj key) (ho:PE X o td) (he:PE X e ty) (hf:PE X f tx)
  (m:M2 X o "setdefault" apos e f cpos):PE X (.Call (.Attribute o "setdefault" apos) [e,f] [] cpos) (tSetd obj key td ty tx):=by
 intro pins s σ H Q I h
 refine wpAny_Call_method m.base m.few m.line PySem.F.plainAttrs_dict PySem.F.slot_dict_setdefault PySem.F.type_dict_setdefault (thn (ho pins s σ H _ I h) fun u s1 ⟨x,H1,I1,rx,a,l,ex,d,q1⟩=>?_)
 subst ex
 obtain rfl:u=Value.ref a:=rx
 obtain ⟨t1,t2⟩:=K.ty I1 d
 refine ⟨t1,t2,?_⟩
 rw [m.trees]
 refine Calls.callWith_builtin rfl (Calls.evalArgs_plain (Calls.spliced_cons (thn (he pins s1 σ H1 _ I1 q1) fun iv s2 ⟨y,H2,I2,ry,q2⟩=>Calls.spliced_cons (thn (hf pins s2 σ H2 _ I2 q2) fun fv s3 ⟨z,H3,I3,rz,q3⟩=>Calls.spliced_nil ?_))))
 exact K.set pins s3 σ H3 (.ref a) [y,z] _ _ Q I3 rfl (.cons ry (.cons rz .nil)) q3
end L2
namespace L2
open PySem PySem.Spec PyProof.Rows
abbrev lsO (acc:List Value) (c:Nat):Obj:={ cls:=.type "list",dict:=none,data:=.seq acc.toArray c,slots:=#[] }
structure Feed (prog:Program) (w:World) (A:Around) (S I:Addr) (n:Nat) (St En:List Value→Heap→Prop):Prop where
 keep:∀ {acc:List Value} {h h':Heap},St acc h→(∀ b o,b≠S→h.get? b=some o→h'.get? b=some o)→St acc h'
 item:∀ {s:Shared} {acc:List Value} {Q:Option Value→Shared→Prop} {E:Value→Shared→Prop},acc.length < n→(∃ o,s.heap.get? S=some o)→St acc s.heap →
  (∀ v h' tk,St (acc++[v]) h'→(∀ o,s.heap.get? S=some o→h'.get? S=some o)→Q (some v) { s with heap:=h',toks:=tk })→wpAny (model prog w) A (pyNext (.ref I)) Q E s
 done:∀ {s:Shared} {acc:List Value} {Q:Option Value→Shared→Prop} {E:Value→Shared→Prop},acc.length=n→St acc s.heap →
  (∀ h' tk,En acc h'→(∀ o,s.heap.get? S=some o→h'.get? S=some o)→Q none { s with heap:=h',toks:=tk })→wpAny (model prog w) A (pyNext (.ref I)) Q E s
section
variable {prog:Program} {w:World} {A:Around} {S I v:Addr} {n:Nat} {St En:List Value→Heap→Prop} {R:Result→Shared→Prop} {res:Value}
theorem feed_loop (W:Feed prog w A.in1 S I n St En) (hn:n≤sizeLine) :
  ∀ (k:Nat) (s:Shared) (acc:List Value) (c:Nat),n - acc.length=k→acc.length≤n→St acc s.heap→s.heap.get? S=some (lsO acc c) →
  (∀ h' tk acc' c',acc'.length=n→En acc' h'→h'.get? S=some (lsO acc' c')→R (.ok (.ret res)) { s with heap:=h',toks:=tk }) →
  codeAny (model prog w) A (.builtin "list.extend.loop" ⟨[.ref S,.ref I,res],[]⟩) R s:=by
 intro k
 induction k with
 | zero =>
  intro s acc c e1 e2 st hS hR
  refine codeAny_builtin F.entry_extend_loop ?_
  rw [Around.under_plainId F.plain_extend_loop _]
  show wpAny _ A.in1 (pyNext (.ref I) >>= _) _ _ s
  refine wpAny_bind (W.done (by omega) st fun h' tk en sk=>?_)
  exact wpAny_pure (hR h' tk acc c (by omega) en (sk _ hS))
 | succ k ih =>
  intro s acc c e1 e2 st hS hR
  refine codeAny_builtin F.entry_extend_loop ?_
  rw [Around.under_plainId F.plain_extend_loop _]
  show wpAny _ A.in1 (pyNext (.ref I) >>= _) _ _ s
  refine wpAny_bind (W.item (by omega) ⟨_,hS⟩ st fun x h' tk st' sk=>?_)
  have hS':=sk _ hS
  show wpAny _ A.in1 (updateSeq S (·.push x) >>= _) _ _ _
  obtain ⟨c1,hS2⟩:∃ c1,(h'.update S (Obj.mapSeq (·.push x))).get? S=some (lsO (acc++[x]) c1):=by
   have q:=PySem.IsL.update hS' (·.push x)
   rw [List.push_toArray] at q
   exact ⟨_,q⟩
  refine wpAny_bind (wpAny_updateSeq hS' rfl (wpAny_pure ⟨plainId_quiet F.plain_extend_loop _,ih _ (acc++[x]) c1 (by rw [List.length_append,List.length_singleton]; omega) (by rw [List.length_append,List.length_singleton]; omega) (W.keep st' fun b o hb q=>(Heap.get?_update_other _ _ (Ne.symm hb)).trans q) hS2 ?_⟩)
   (by show acc.toArray.size≤sizeLine; rw [List.size_toArray]; omega) (by show (acc.toArray.push x).size≤sizeLine+1; rw [Array.size_push,List.size_toArray]; omega))
  intro h2 tk2 acc2 c2 q1 q2 q3
  exact hR h2 tk2 acc2 c2 q1 q2 q3
theorem feed_extend {T:String} {s:Shared} {c:Nat} (W:Feed prog w A.in1 S I n St En) (hn:n≤sizeLine) (ty:s.TypeIs (.ref v) T) (t1:(Value.type T == Value.type "list")=false) (t2:(Value.type T == Value.type "tuple")=false) (ne:S≠v)
  (hS:s.heap.get? S=some (lsO [] c))
  (it:∀ {Q:Value→Shared→Prop} {E:Value→Shared→Prop},(∀ h' tk,St [] h'→(∀ o,s.heap.get? S=some o→h'.get? S=some o)→Q (.ref I) { s with heap:=h',toks:=tk })→wpAny (model prog w) A.in1 (pyIter (.ref v)) Q E s)
  (hint:∀ {s':Shared} {Q:Bool→Shared→Prop} {E:Value→Shared→Prop},St [] s'.heap→(∀ b tk,Q b { s' with toks:=tk })→wpAny (model prog w) A.in1 (Builtin.List.listLengthHint (.ref v)) Q E s')
  (hR:∀ h' tk acc' c',acc'.length=n→En acc' h'→h'.get? S=some (lsO acc' c')→R (.ok (.ret res)) { s with heap:=h',toks:=tk }) :
  wpAny (model prog w) A.in1 (Builtin.List.listExtendWith (.ref S) (.ref v) res)
   (fun fin s'=>match fin with | .done f=>R (.ok f) s' | .again c'=>c'.quiet=true∧codeAny (model prog w) A c' R s') (fun e s'=>R (.error e) s') s:=by
 unfold Builtin.List.listExtendWith
 refine wpAny_bind (wpAny_typeOf ty ?_)
 rw [show Builtin.List.listSameRef (.ref S) (.ref v)=false by simp [Builtin.List.listSameRef,ne],t1,t2]
 simp only [Bool.or_false,Bool.false_eq_true,if_false]
 refine wpAny_bind (it fun h1 tk1 st1 sk1=>?_)
 refine wpAny_bind (wpAny_holding (hint st1 fun b tk2=>?_))
 have hS1:=sk1 _ hS
 refine wpAny_ite_split (fun _=>?_) (fun _=>?_)
 ·refine wpAny_bind (wpAny_rule (wpAny_bind ?_))
  show wpAny _ A.in1 (updateSeq S (·.push .none) >>= fun _=>updateSeq S (·.pop)) _ _ _
  have q1:=PySem.IsL.update hS1 (·.push Value.none)
  have q2:=PySem.IsL.update q1 (·.pop)
  obtain ⟨c2,q3⟩:∃ c2,((h1.update S (Obj.mapSeq (·.push Value.none))).update S (Obj.mapSeq (·.pop))).get? S=some (lsO [] c2):=⟨_,q2⟩
  refine wpAny_bind (wpAny_updateSeq hS1 rfl (wpAny_updateSeq q1 rfl ?_ (by simp [sizeLine_eq]) (by simp [sizeLine_eq])) (by simp [sizeLine_eq]) (by simp [sizeLine_eq]))
  refine wpAny_pure ⟨plainId_quiet F.plain_extend_loop _,?_⟩
  refine feed_loop W hn n _ [] c2 rfl (Nat.zero_le _) (W.keep st1 fun b o hb q=>?_) q3 ?_
  ·exact (Heap.get?_update_other _ _ (Ne.symm hb)).trans ((Heap.get?_update_other _ _ (Ne.symm hb)).trans q)
  ·intro h2 tk2 acc2 c2 p1 p2 p3
   exact hR h2 tk2 acc2 c2 p1 p2 p3
 ·refine wpAny_pure ⟨plainId_quiet F.plain_extend_loop _,feed_loop W hn n _ [] c rfl (Nat.zero_le _) st1 hS1 ?_⟩
  intro h2 tk2 acc2 c2 p1 p2 p3
  exact hR h2 tk2 acc2 c2 p1 p2 p3
variable {E:Value→Shared→Prop} {s:Shared}
theorem list_feed {T:String} {Q:Value→Shared→Prop} (W:Feed prog w A.in1.in1 s.heap.objs.size I n St En) (hn:n≤sizeLine) (ty:s.TypeIs (.ref v) T) (t1:(Value.type T == Value.type "list")=false) (t2:(Value.type T == Value.type "tuple")=false)
  (it:∀ {s':Shared} {Q:Value→Shared→Prop} {E:Value→Shared→Prop},(∀ b o,s.heap.get? b=some o→s'.heap.get? b=some o)→s'.heap.objs.size=s.heap.objs.size+1 →
   (∀ h' tk,St [] h'→(∀ o,s'.heap.get? s.heap.objs.size=some o→h'.get? s.heap.objs.size=some o)→Q (.ref I) { s' with heap:=h',toks:=tk })→wpAny (model prog w) A.in1.in1 (pyIter (.ref v)) Q E s')
  (hint:∀ {s':Shared} {Q:Bool→Shared→Prop} {E:Value→Shared→Prop},St [] s'.heap→(∀ b tk,Q b { s' with toks:=tk })→wpAny (model prog w) A.in1.in1 (Builtin.List.listLengthHint (.ref v)) Q E s')
  (hQ:∀ h' tk acc c',acc.length=n→En acc h'→h'.get? s.heap.objs.size=some (lsO acc c')→Q (.ref s.heap.objs.size) { s with heap:=h',toks:=tk }) :
  wpAny (model prog w) A (call (.type "list") [.ref v]) Q E s:=by
 have hv:v < s.heap.objs.size:=by obtain ⟨o,e,_⟩:=ty; exact Heap.lt_size e
 refine callType_codes (Q₁:=fun x s₁=>x=.ref s.heap.objs.size∧s₁={ s with heap:=s.heap.push { cls:=.type "list",data:=.seq #[] } }) F.called_list (F.typeCall_list_1 _) F.entry_list_init (code_list_new _ ⟨rfl,rfl⟩) fun x s₁ q=>?_
 obtain ⟨rfl,rfl⟩:=q
 have hS:(s.heap.push { cls:=.type "list",data:=.seq #[] }).get? s.heap.objs.size=some (lsO [] 0):=Heap.get?_push_size _ rfl
 refine ⟨⟨_,hS,rfl⟩,F.args_list_init_2 _ _,?_⟩
 show wpAny _ _ (do let old ← Builtin.List.listItems (.ref s.heap.objs.size); Builtin.List.listUpdate (.ref s.heap.objs.size) (fun _=>#[]); letGo old.toList.reverse; Builtin.List.listExtendWith (.ref s.heap.objs.size) (.ref v) .none) _ _ _
 refine wpAny_bind ?_
 unfold Builtin.List.listItems
 refine wpAny_bind (wpAny_seqItems hS rfl (wpAny_pure ?_))
 show wpAny _ _ (updateSeq s.heap.objs.size (fun _=>#[]) >>= fun _=>letGo ([]:List Value).toArray.toList.reverse >>= fun _=>Builtin.List.listExtendWith (.ref s.heap.objs.size) (.ref v) .none) _ _ _
 refine wpAny_bind (wpAny_updateSeq hS rfl ?_)
 obtain ⟨c,hS2⟩:∃ c,((s.heap.push { cls:=.type "list",data:=.seq #[] }).update s.heap.objs.size (Obj.mapSeq (fun _=>(#[]:Array Value)))).get? s.heap.objs.size=some (lsO [] c):=⟨_,PySem.IsL.update hS (fun _=>#[])⟩
 have oth:∀ b o,s.heap.get? b=some o→((s.heap.push { cls:=.type "list",data:=.seq #[] }).update s.heap.objs.size (Obj.mapSeq (fun _=>(#[]:Array Value)))).get? b=some o :=
  fun b o q=>(Heap.get?_update_other _ _ (Nat.ne_of_gt (Heap.lt_size q))).trans (Heap.get?_push_of_some _ q)
 refine wpAny_bind (wpAny_letGo ?_)
 refine feed_extend (R:=wants (fun r s₂=>r=.none∧Q (.ref s.heap.objs.size) s₂) E) (c:=c) W hn (by obtain ⟨o,e,q⟩:=ty; exact ⟨o,oth _ _ e,q⟩) t1 t2 (Nat.ne_of_gt hv) hS2 (fun {Q' E'} k=>it oth (by simp) k) hint fun h' tk acc' c' p1 p2 p3=>?_
 exact ⟨rfl,hQ h' tk acc' c' p1 p2 p3⟩
end
end L2
namespace L2
open PySem PySem.Spec PyProof.Rows
section
variable {prog:Program} {w:World} {A:Around} {I v:Addr} {n:Nat} {St En:List Value→Heap→Prop} {E:Value→Shared→Prop} {s:Shared}
theorem collect_feed {T:String} {Q:List Value→Shared→Prop} (W:Feed prog w A.in1 s.heap.objs.size I n St En) (hn:n≤sizeLine) (ty:s.TypeIs (.ref v) T) (t1:(Value.type T == Value.type "list")=false) (t2:(Value.type T == Value.type "tuple")=false)
  (it:∀ {s':Shared} {Q:Value→Shared→Prop} {E:Value→Shared→Prop},(∀ b o,s.heap.get? b=some o→s'.heap.get? b=some o)→s'.heap.objs.size=s.heap.objs.size+1 →
   (∀ h' tk,St [] h'→(∀ o,s'.heap.get? s.heap.objs.size=some o→h'.get? s.heap.objs.size=some o)→Q (.ref I) { s' with heap:=h',toks:=tk })→wpAny (model prog w) A.in1 (pyIter (.ref v)) Q E s')
  (hint:∀ {s':Shared} {Q:Bool→Shared→Prop} {E:Value→Shared→Prop},St [] s'.heap→(∀ b tk,Q b { s' with toks:=tk })→wpAny (model prog w) A.in1 (Builtin.List.listLengthHint (.ref v)) Q E s')
  (hQ:∀ h' tk acc,acc.length=n→En acc h'→s.heap.objs.size < h'.objs.size→Q acc { s with heap:=h',toks:=tk }):wpAny (model prog w) A (collect (.ref v)) Q E s:=by
 have hv:v < s.heap.objs.size:=by obtain ⟨o,e,_⟩:=ty; exact Heap.lt_size e
 unfold collect
 refine wpAny_bind (wpAny_runValue (codeAny_builtin F.entry_proto_collect ?_))
 rw [Around.under_plainId F.plain_proto_collect _]
 show wpAny _ A.in1 (newList [] >>= fun l=>again (.builtin "list.__iadd__" ⟨[l,.ref v],[]⟩)) _ _ s
 refine wpAny_bind (wpAny_newObj_type ?_)
 refine wpAny_pure ⟨plainId_quiet F.plain_list_iadd _,codeAny_builtin F.entry_list_iadd ?_⟩
 rw [Around.under_plainId F.plain_list_iadd _]
 show wpAny _ A.in1 (Builtin.List.listExtendWith (.ref s.heap.objs.size) (.ref v) (.ref s.heap.objs.size)) _ _ _
 have hS:(s.heap.push { cls:=.type "list",data:=.seq ([]:List Value).toArray }).get? s.heap.objs.size=some (lsO [] 0):=Heap.get?_push_size _ rfl
 have oth:∀ b o,s.heap.get? b=some o→(s.heap.push { cls:=.type "list",data:=.seq ([]:List Value).toArray }).get? b=some o:=fun b o q=>Heap.get?_push_of_some _ q
 have fin:∀ {h':Heap} {tk:Nat} {acc:List Value} {c':Nat},acc.length=n→En acc h'→h'.get? s.heap.objs.size=some (lsO acc c') →
   wpAny (model prog w) A (match Value.ref s.heap.objs.size with
    | Value.ref a=>do
     match (← load a).data with
      | Data.seq xs _=>pure xs.toList
      | _=>unsupported "internal:collect"
    | _=>unsupported "internal:collect") Q E { s with heap:=h',toks:=tk }:=by
  intro h' tk acc c' p1 p2 p3
  show wpAny _ A (load s.heap.objs.size >>= _) _ _ _
  refine wpAny_bind (wpAny_load p3 (wpAny_pure ?_))
  exact hQ h' tk acc p1 p2 (Heap.lt_size p3)
 refine wpAny_mono (feed_extend (R:=fun r s'=>∃ h' tk acc c',r=.ok (.ret (.ref s.heap.objs.size))∧s'={ s with heap:=h',toks:=tk }∧acc.length=n∧En acc h'∧h'.get? s.heap.objs.size=some (lsO acc c'))
  (s:={ s with heap:=s.heap.push { cls:=.type "list",data:=.seq ([]:List Value).toArray } }) (c:=0) W hn (by obtain ⟨o,e,q⟩:=ty; exact ⟨o,oth _ _ e,q⟩) t1 t2 (Nat.ne_of_gt hv) hS (fun {Q' E'} k=>it oth (by simp) k) hint
  fun h' tk acc' c' p1 p2 p3=>⟨h',tk,acc',c',rfl,rfl,p1,p2,p3⟩) (fun f s' q=>?_) (fun e s' q=>?_)
 ·cases f with
  | done f =>
   obtain ⟨h',tk,acc,c',e,rfl,p1,p2,p3⟩:=q
   cases e
   exact fin p1 p2 p3
  | again c =>
   refine ⟨q.1,codeAny_mono q.2 fun r s'' hr=>?_⟩
   obtain ⟨h',tk,acc,c',rfl,rfl,p1,p2,p3⟩:=hr
   exact fin p1 p2 p3
 ·obtain ⟨_,_,_,_,e,_⟩:=q
  cases e
theorem tuple_feed {T:String} {Q:Value→Shared→Prop} (W:Feed prog w A.in1.in1.in1 s.heap.objs.size I n St En) (hn:n≤sizeLine) (ty:s.TypeIs (.ref v) T) (t1:(Value.type T == Value.type "list")=false) (t2:(Value.type T == Value.type "tuple")=false)
  (it:∀ {s':Shared} {Q:Value→Shared→Prop} {E:Value→Shared→Prop},(∀ b o,s.heap.get? b=some o→s'.heap.get? b=some o)→s'.heap.objs.size=s.heap.objs.size+1 →
   (∀ h' tk,St [] h'→(∀ o,s'.heap.get? s.heap.objs.size=some o→h'.get? s.heap.objs.size=some o)→Q (.ref I) { s' with heap:=h',toks:=tk })→wpAny (model prog w) A.in1.in1.in1 (pyIter (.ref v)) Q E s')
  (hint:∀ {s':Shared} {Q:Bool→Shared→Prop} {E:Value→Shared→Prop},St [] s'.heap→(∀ b tk,Q b { s' with toks:=tk })→wpAny (model prog w) A.in1.in1.in1 (Builtin.List.listLengthHint (.ref v)) Q E s')
  (hQ:∀ h' tk acc,acc.length=n→En acc h'→s.heap.objs.size < h'.objs.size→Q (.ref h'.objs.size) { s with heap:=h'.push { cls:=.type "tuple",data:=.seq acc.toArray },toks:=tk }) :
  wpAny (model prog w) A (call (.type "tuple") [.ref v]) Q E s:=by
 refine callType_codes (Q₁:=fun x s₁=>s₁.TypeIs x "tuple"∧Q x s₁) F.called_tuple (F.typeCall_tuple_1 _) F.entry_object_init ?_ fun x s₁ q =>
  ⟨q.1,F.args_object_init_2 x _,object_init_meets F.called_tuple.init.lookup F.called_tuple.made (by decide) prog w A.in1 _ s₁ ⟨q.1,rfl,q.2⟩⟩
 refine codeAny_of_tree ?_
 show wpAny _ A.in1.in1 (do checkBuiltinCall "tuple.__new__" ⟨[.type "tuple",.ref v],[]⟩; again (.builtin "tuple.__new__" ⟨[.type "tuple",.ref v],[]⟩)) _ _ s
 refine wpAny_bind (wpAny_of_eq (F.newCall_tuple_1 _) (wpAny_pure ⟨plainId_quiet F.plain_tuple_new _,codeAny_builtin F.entry_tuple_new ?_⟩))
 rw [Around.under_plainId F.plain_tuple_new _]
 have g1:=sub_tuple_self
 have g2:=init_tuple_lookup
 have g3:=madeHere_tuple
 wp_walk using wpAny_typeOf ty,collect_feed W hn ty t1 t2 it hint
 intro h' tk acc p1 p2 p3
 refine wpAny_bind (wpAny_pure ?_)
 show wpAny _ _ (Builtin.Tuple.tupleExact acc.toArray >>= fun z=>ret z) _ _ _
 unfold Builtin.Tuple.tupleExact
 refine wpAny_bind (wpAny_newObj_type ?_ (by show acc.toArray.size≤sizeLine; rw [List.size_toArray,p1]; exact hn))
 exact wpAny_pure ⟨⟨_,Heap.get?_push_size _ rfl,rfl⟩,hQ h' tk acc p1 p2 p3⟩
end
end L2
namespace L2
open PySem PySem.Spec PyProof.Rows
def VwO (p d:Addr):HO:=.ext fun h=>h.IsValuesView p d
theorem vw_ok {P:Program} {w:World} {H:Hp} {h:Heap} {p d:Addr} (q:h.IsValuesView p d):ObjOk P w H h p (VwO p d):=by
 obtain ⟨o,e,r⟩:=q
 exact ⟨⟨o,e,r⟩,⟨o,e⟩,fun h1 h2 ⟨o,e,r⟩ k=>⟨o,k _ e,r⟩⟩
section
variable {X:Cx}
def rVals:V→List V→Hp→VK→Prop:=fun x vs H Q=>∃ a kvs,x=.ref a∧vs=[]∧H a=some (.dK kvs)∧∀ p,H p=none→Q (.ref p) (upd H p (VwO p a))
theorem mt_values:MtR X "dict.values" rVals:=by
 intro pins s σ H x vs v us Q I rx rv h
 obtain ⟨a,kvs,rfl,rfl,e,q⟩:=h
 cases rx
 cases rv
 obtain ⟨z,hd,ps,rel,dd⟩:=dk_of I.hok e
 refine call_meetsIn F.slot_dict_values dd.typeIs F.entry_dict_values (F.args_dict_values_1 _) (meets_dict_values (mixKind X.prog X.w) a hd) ⟨⟨_,dd⟩,?_⟩
 refine ⟨.ref s.heap.objs.size,_,I.laid (o:=VwO s.heap.objs.size a) (t':=s.toks) (fun b o q=>Heap.get?_push_of_some _ q) (Nat.le_refl _) (vw_ok ⟨_,Heap.get?_push_size _ rfl,rfl,rfl⟩),rfl,q _ I.fresh⟩
end
section
variable {prog:Program} {w:World} {A:Around}
def VSt (knd:KeyKind prog w Key) (h0:Heap) (S I d:Addr) (ps:List (Key × Value)) (ep:Nat) (acc:List Value) (h:Heap):Prop :=
 h.IsValIter I d acc.length ps.length ep∧(∀ b o,h0.get? b=some o→h.get? b=some o)∧acc=(ps.map (·.2)).take acc.length
theorem val_feed {knd:KeyKind prog w Key} {h0:Heap} {S I d:Addr} {ps:List (Key × Value)} {ep:Nat} (hh:A.handled=none) (dd:h0.DictAt knd d ps ep) (e1:h0.objs.size≤S) (e2:S≠I) (e3:h0.objs.size≤I) :
  Feed prog w A S I ps.length (VSt knd h0 S I d ps ep) (fun acc h=>(∀ b o,h0.get? b=some o→h.get? b=some o)∧acc=ps.map (·.2)) where
 keep:=by
  intro acc h h' st k
  obtain ⟨⟨o,e,r⟩,old,ea⟩:=st
  exact ⟨⟨o,k _ _ (Ne.symm e2) e,r⟩,fun b o q=>k b o (Nat.ne_of_lt (Nat.lt_of_lt_of_le (Heap.lt_size q) e1)) (old b o q),ea⟩
 item:=by
  intro s acc Q E lt _ st k
  obtain ⟨it,old,ea⟩:=st
  have dd':s.heap.DictAt knd d ps ep:=by
   obtain ⟨o,es,g,r⟩:=dd
   exact ⟨o,es,old _ _ g,r⟩
  refine wpAny_pyNext_values_item (knd:=knd) (k:=(ps[acc.length]'lt).1) (v:=(ps[acc.length]'lt).2) it dd' (List.getElem?_eq_getElem lt) fun h' it' sb=>?_
  refine k _ h' s.toks ⟨?_,fun b o q=>(sb.2 b (Nat.ne_of_lt (Nat.lt_of_lt_of_le (Heap.lt_size q) e3))).trans (old b o q),?_⟩ fun o q=>(sb.2 S e2).trans q
  ·rw [List.length_append,List.length_singleton]
   exact it'
  ·rw [List.length_append,List.length_singleton,List.take_succ,←ea,List.getElem?_map,List.getElem?_eq_getElem lt]
   rfl
 done:=by
  intro s acc Q E lt st k
  obtain ⟨it,old,ea⟩:=st
  have dd':s.heap.DictAt knd d ps ep:=by
   obtain ⟨o,es,g,r⟩:=dd
   exact ⟨o,es,old _ _ g,r⟩
  refine wpAny_pyNext_values_end (knd:=knd) hh it dd' (List.getElem?_eq_none (by omega)) fun h' eb=>?_
  refine k h' s.toks ⟨fun b o q=>eb b o (Nat.ne_of_lt (Nat.lt_of_lt_of_le (Heap.lt_size q) e3)) (old b o q),?_⟩ fun o q=>eb S o e2 q
  rw [ea,lt,←List.length_map (f:=(·.2)) (as:=ps),List.take_length]
theorem val_hint {v d:Addr} {s:Shared} {Q:Bool→Shared→Prop} {E:Value→Shared→Prop} (hv:s.heap.IsValuesView v d) (k:∀ b tk,Q b { s with toks:=tk }):wpAny (model prog w) A (Builtin.List.listLengthHint (.ref v)) Q E s:=by
 unfold Builtin.List.listLengthHint
 refine wpAny_bind (wpAny_specialOf hv.typeIs F.slot_dict_values_len.lookup ?_)
 generalize hid:("dict_values.__len__" : String)=id0
 wp_delta
 rw [show splitId id0=some ("dict_values","__len__") from by subst hid; decide +kernel]
 subst hid
 refine wpAny_bind (wpAny_isInstance (T:="dict_values") (b:=true) hv.typeIs (by rw [isSubtype_type]; kernel_rfl) ?_)
 refine wpAny_ite_split (fun q=>absurd q (by decide)) (fun _=>?_)
 refine wpAny_ite_split (fun _=>?_) (fun q=>absurd (by decide +kernel) q)
 refine wpAny_bind (wpAny_typeOf hv.typeIs ?_)
 exact wpAny_pure (k false s.toks)
end
section
variable {X:Cx}
theorem call_tupleV (hc:X.calm=true):CallR X (.type "tuple") (fun xs H Q=>∃ p a kvs,xs=[V.ref p]∧H p=some (VwO p a)∧H a=some (.dK kvs)∧∀ t,H t=none→Q (.ref t) (upd H t (.tup (kvs.map (·.2))))):=by
 intro pins s σ H xs us Q I r h
 obtain ⟨p,a,kvs,rfl,ep,ea,q⟩:=h
 obtain ⟨u,rfl,ru⟩:=vals1 r
 cases ru
 obtain ⟨z,hd,ps,rel,o,es,epo,g1,g2⟩:=dk_of I.hok ea
 have dd:s.heap.DictAt (mixKind X.prog X.w) a ps epo:=⟨o,es,g1,g2⟩
 obtain ⟨vw,_⟩:=(show ObjOk X.prog X.w H s.heap p (VwO p a) from I.hok p _ ep)
 have hh:X.A.handled=none:=I.ok.hd hc
 have zl:ps.length≤sizeLine:=by rw [←rel.length]; exact z
 refine tuple_feed (I:=s.heap.objs.size+1) (val_feed (knd:=mixKind X.prog X.w) (A:=X.A.in1.in1.in1) (h0:=s.heap) (S:=s.heap.objs.size) (I:=s.heap.objs.size+1) hh dd (Nat.le_refl _) (Nat.ne_of_lt (Nat.lt_succ_self _)) (Nat.le_succ _)) zl vw.typeIs (by decide) (by decide) ?_ ?_ ?_
 ·intro s' Q' E' old sz k
  have vw':s'.heap.IsValuesView p a:=by obtain ⟨o,e,r⟩:=vw; exact ⟨o,old _ _ e,r⟩
  have dd':s'.heap.DictAt (mixKind X.prog X.w) a ps epo:=by obtain ⟨o,es,g,r⟩:=dd; exact ⟨o,es,old _ _ g,r⟩
  refine wpAny_pyIter_values vw' dd' ?_
  rw [sz]
  refine k _ s'.toks ⟨⟨_,by rw [←sz]; exact Heap.get?_push_size _ rfl,rfl,rfl⟩,fun b o e=>Heap.get?_push_of_some _ (old b o e),rfl⟩ fun o e=>Heap.get?_push_of_some _ e
 ·intro s' Q' E' st k
  exact val_hint (by obtain ⟨o,e,r⟩:=vw; exact ⟨o,st.2.1 _ _ e,r⟩) k
 ·intro h' tk acc e1 en lt
  obtain ⟨old,rfl⟩:=en
  have hf:H h'.objs.size=none:=I.hok.fresh (Nat.le_of_lt lt)
  have rv:Vals (kvs.map (·.2)) (ps.map (·.2)):=by
   have:∀ {l:List (Key × V)} {m:List (Key × Value)},KV l m→Vals (l.map (·.2)) (m.map (·.2)):=by
    intro l m q
    unfold KV at q
    induction q with
    | nil=>exact .nil
    | cons g t ih=>exact .cons g.2 ih
   exact this rel
  refine ⟨.ref h'.objs.size,_,I.laid (o:=.tup (kvs.map (·.2))) (t':=tk) (fun b o e=>Heap.get?_push_of_some _ (old b o e)) (Nat.le_of_lt lt) ⟨?_,_,rv,⟨_,Heap.get?_push_size _ rfl,rfl,_,rfl⟩⟩,rfl,q _ hf⟩
  rw [List.length_map]
  exact z
end
end L2
namespace L2
open PySem PySem.Spec PyProof.Rows
abbrev Zr (h:Heap) (z:Addr) (f:Value) (g:Bool) (TI TO:Addr):Prop:=h.get? z=some { cls:=.type "zip",dict:=none,data:=.fields #[f,.bool g,.bool false,.ref TI,.ref TO],slots:=#[] }
abbrev Tr (h:Heap) (t:Addr) (a b c:Value):Prop:=h.get? t=some { cls:=.type "tuple",data:=.seq #[a,b,c] }
theorem typeCall_zip3 (a b c:Value):checkTypeCall "zip" ⟨[a,b,c],[]⟩=pure ():=by kernel_rfl
theorem newCall_zip3 (a b c:Value):checkBuiltinCall "zip.__new__" ⟨[.type "zip",a,b,c],[]⟩=pure ():=by kernel_rfl
theorem args_init4 (a b c d:Value):argsOk "object.__init__" ⟨[a,b,c,d],[]⟩:=by
 unfold argsOk
 rw [signature?_of (id:="object.__init__") (n:=['_','_','t','i','n','i','_','_']) (o:=['t','c','e','j','b','o']) (by kernel_rfl) F.owner_object]
 kernel_rfl
abbrev z3a (h:Heap) (l:Addr):Heap:=h.push { cls:=.type "list_iterator",data:=.fields #[.ref l,.int 0 0] }
abbrev z3d (h:Heap) (l m n:Addr):Heap:=(z3a (z3a (z3a h l) m) n).push { cls:=.type "tuple",data:=.seq #[.ref h.objs.size,.ref (z3a h l).objs.size,.ref (z3a (z3a h l) m).objs.size] }
abbrev z3e (h:Heap) (l m n:Addr):Heap:=(z3d h l m n).push { cls:=.type "tuple",data:=.seq #[.none,.none,.none] }
abbrev z3f (h:Heap) (l m n:Addr):Heap:=(z3e h l m n).push { cls:=.type "zip",data:=.fields #[.none,.bool false,.bool false,.ref (z3a (z3a (z3a h l) m) n).objs.size,.ref (z3d h l m n).objs.size] }
theorem zip3_meets (l m n:Addr) (xs ys zs:Array Value) :
  Meets (Builtin.«zip.__new__» ⟨[.type "zip",.ref l,.ref m,.ref n],[]⟩) (fun _ R s=>s.heap.IsList l xs∧s.heap.IsList m ys∧s.heap.IsList n zs∧R (.ok (.ret (.ref (z3e s.heap l m n).objs.size))) { s with heap:=z3f s.heap l m n }) :=
 .of_wp fun prog w A R s h=>by
  obtain ⟨hp,g,d,tk,os⟩:=s
  obtain ⟨h1,h2,h3,h⟩:=h
  have hsub:=sub_zip
  have k1:Heap.IsList (Shared.heap ⟨hp,g,d,tk,os⟩) l xs:=h1
  have k2:Heap.IsList (Shared.heap ⟨hp.push { cls:=.type "list_iterator",data:=.fields #[.ref l,.int 0 0] },g,d,tk,os⟩) m ys:=Heap.IsList.push h2 _
  have k3:Heap.IsList (Shared.heap ⟨(hp.push { cls:=.type "list_iterator",data:=.fields #[.ref l,.int 0 0] }).push { cls:=.type "list_iterator",data:=.fields #[.ref m,.int 0 0] },g,d,tk,os⟩) n zs:=Heap.IsList.push (Heap.IsList.push h3 _) _
  wp_walk using wpAny_pyIter_list k1,wpAny_pyIter_list k2,wpAny_pyIter_list k3
  exact ⟨_,rfl,h⟩
structure ZS (h:Heap) (b:Nat) (l m n:Addr) (i:Nat) (f:Value) (g:Bool):Prop where
 z:Zr h (b+5) f g (b+3) (b+4)
 ti:Tr h (b+3) (.ref b) (.ref (b+1)) (.ref (b+2))
 to:∃ x y v,Tr h (b+4) x y v
 i1:h.IsListIter b l i
 i2:h.IsListIter (b+1) m i
 i3:h.IsListIter (b+2) n i
section
variable {prog:Program} {w:World} {A:Around} {E:Value→Shared→Prop} {s:Shared}
theorem zip3_new {l m n:Addr} {xs ys zs:Array Value} {Q:Value→Shared→Prop} (h1:s.heap.IsList l xs) (h2:s.heap.IsList m ys) (h3:s.heap.IsList n zs)
  (h:∀ h',ZS h' s.heap.objs.size l m n 0 .none false→h'.objs.size=s.heap.objs.size+6→(∀ c o,s.heap.get? c=some o→h'.get? c=some o)→Q (.ref (s.heap.objs.size+5)) { s with heap:=h' }) :
  wpAny (model prog w) A (call (.type "zip") [.ref l,.ref m,.ref n]) Q E s:=by
 refine callType_new F.called_zip (by decide) (typeCall_zip3 _ _ _) (newCall_zip3 _ _ _) (fun obj=>args_init4 obj _ _ _) F.entry_zip_new (zip3_meets l m n xs ys zs) ⟨h1,h2,h3,?_⟩
 have e1:(z3a s.heap l).objs.size=s.heap.objs.size+1:=Heap.size_push ..
 have e2:(z3a (z3a s.heap l) m).objs.size=s.heap.objs.size+2:=by rw [Heap.size_push,e1]
 have e3:(z3a (z3a (z3a s.heap l) m) n).objs.size=s.heap.objs.size+3:=by rw [Heap.size_push,e2]
 have e4:(z3d s.heap l m n).objs.size=s.heap.objs.size+4:=by rw [Heap.size_push,e3]
 have e5:(z3e s.heap l m n).objs.size=s.heap.objs.size+5:=by rw [Heap.size_push,e4]
 have e6:(z3f s.heap l m n).objs.size=s.heap.objs.size+6:=by rw [Heap.size_push,e5]
 have g6:(z3f s.heap l m n).get? (z3e s.heap l m n).objs.size=some _:=Heap.get?_push_size _ rfl
 have g5:(z3f s.heap l m n).get? (z3d s.heap l m n).objs.size=some _:=Heap.get?_push_of_some _ (Heap.get?_push_size _ rfl)
 have g4:(z3f s.heap l m n).get? (z3a (z3a (z3a s.heap l) m) n).objs.size=some _:=Heap.get?_push_of_some _ (Heap.get?_push_of_some _ (Heap.get?_push_size _ rfl))
 have g3:(z3f s.heap l m n).get? (z3a (z3a s.heap l) m).objs.size=some _:=Heap.get?_push_of_some _ (Heap.get?_push_of_some _ (Heap.get?_push_of_some _ (Heap.get?_push_size _ rfl)))
 have g2:(z3f s.heap l m n).get? (z3a s.heap l).objs.size=some _:=Heap.get?_push_of_some _ (Heap.get?_push_of_some _ (Heap.get?_push_of_some _ (Heap.get?_push_of_some _ (Heap.get?_push_size _ rfl))))
 have g1:(z3f s.heap l m n).get? s.heap.objs.size=some _:=Heap.get?_push_of_some _ (Heap.get?_push_of_some _ (Heap.get?_push_of_some _ (Heap.get?_push_of_some _ (Heap.get?_push_of_some _ (Heap.get?_push_size _ rfl)))))
 show _∧_
 rw [e3,e4,e5] at g6
 rw [e4] at g5
 rw [e1,e2,e3] at g4
 rw [e2] at g3
 rw [e1] at g2
 rw [e5]
 exact ⟨⟨_,g6,rfl⟩,h _ ⟨g6,g4,⟨_,_,_,g5⟩,⟨_,g1,rfl,rfl⟩,⟨_,g2,rfl,rfl⟩,⟨_,g3,rfl,rfl⟩⟩ e6 fun c o q =>
  Heap.get?_push_of_some _ (Heap.get?_push_of_some _ (Heap.get?_push_of_some _ (Heap.get?_push_of_some _ (Heap.get?_push_of_some _ (Heap.get?_push_of_some _ q)))))⟩
end
end L2
namespace L2
open PySem PySem.Spec PyProof.Rows
section
variable {prog:Program} {w:World} {A:Around} {E:Value→Shared→Prop} {s:Shared}
theorem alive_ {a:Addr} {o:Obj} {Q:Option Obj→Shared→Prop} (e:s.heap.get? a=some o) (h:Q (some o) s):wpAny (model prog w) A (loadIfAlive a) Q E s:=by
 intro Γ p hΓ
 unfold loadIfAlive
 rw [Sem.wp_loadIfAlive,e]
 exact h
theorem free_held {z t0 TI TO:Addr} {g:Bool} {ot:Obj} {Q:Bool→Shared→Prop} (hz:Zr s.heap z (rawInt t0) g TI TO) (ht:s.heap.get? t0=some ot)
  (h:∀ h',Zr h' z (rawInt t0) true TI TO→(∀ c o,c≠z→s.heap.get? c=some o→h'.get? c=some o)→h'.objs.size=s.heap.objs.size→Q false { s with heap:=h' }) :
  wpAny (model prog w) A (Builtin.SmallTypes.ownedTupleIsFree (.ref z)) Q E s:=by
 unfold Builtin.SmallTypes.ownedTupleIsFree
 refine wpAny_bind (wpAny_field hz rfl (x:=rawInt t0) rfl ?_)
 show wpAny _ _ (loadIfAlive ((t0:Int).toNat) >>= _) _ _ _
 rw [Int.toNat_natCast]
 refine wpAny_bind (alive_ ht ?_)
 simp only [Option.isNone_some,Bool.false_eq_true,if_false]
 refine wpAny_bind (wpAny_field hz rfl (x:=.bool g) rfl ?_)
 cases g with
 | true =>
  simp only [bne_self_eq_false,Bool.false_eq_true,if_false]
  exact wpAny_pure (h _ hz (fun _ _ _ q=>q) rfl)
 | false =>
  rw [if_pos (by decide)]
  refine wpAny_bind (wpAny_setField_rec hz (by simp) fun h1 hz1 sb=>wpAny_pure ?_)
  exact h h1 hz1 (fun c o q e=>(sb.2 c q).trans e) sb.1
theorem zip3_held {b l m n t0:Addr} {i:Nat} {g:Bool} {ot:Obj} {xs ys zs:Array Value} {x y v:Value} {Q:Option Value→Shared→Prop} (hz:ZS s.heap b l m n i (rawInt t0) g) (ht:s.heap.get? t0=some ot)
  (bl:l < b) (bm:m < b) (bn:n < b)
  (h1:s.heap.IsList l xs) (h2:s.heap.IsList m ys) (h3:s.heap.IsList n zs) (hx:xs[i]? = some x) (hy:ys[i]? = some y) (hv:zs[i]? = some v)
  (hQ:∀ h',ZS h' b l m n (i+1) (rawInt t0) true→Tr h' s.heap.objs.size x y v→(∀ c o,(c < b ∨ b+6≤c)→s.heap.get? c=some o→h'.get? c=some o)→Q (some (.ref s.heap.objs.size)) { s with heap:=h' }) :
  wpAny (model prog w) A (pyNext (.ref (b+5))) Q E s:=by
 obtain ⟨z,ti,⟨q1,q2,q3,to⟩,i1,i2,i3⟩:=hz
 have hT:s.TypeIs (.ref (b+5)) "zip":=⟨_,z,rfl⟩
 unfold pyNext
 refine wpAny_bind (wpAny_attempt (wpAny_callSpecial?_slot (name:=Str.ofString "__next__") hT F.slot_zip_next (wpAny_call_entry F.slot_zip_next hT F.entry_zip_next ?_ (F.args_zip_next_1 _))))
 show wpAny _ _ (field (.ref (b+5)) 2 >>= _) _ _ _
 refine wpAny_bind (wpAny_field z rfl (x:=.bool false) rfl ?_)
 show wpAny _ _ (field (.ref (b+5)) 3 >>= _) _ _ _
 refine wpAny_bind (wpAny_field z rfl (x:=.ref (b+3)) rfl ?_)
 refine wpAny_bind (wpAny_seqItems ti rfl ?_)
 show wpAny _ _ (Builtin.SmallTypes.ownedTupleIsFree (.ref (b+5)) >>= _) _ _ _
 refine wpAny_bind (free_held z ht fun h0 z0 k0 e0=>?_)
 simp only [Bool.false_eq_true,if_false]
 rw [←Array.forIn_toList]
 show wpAny _ _ (forIn [Value.ref b,Value.ref (b+1),Value.ref (b+2)] _ _ >>= _) _ _ _
 refine wpAny_bind ?_
 simp only [List.forIn_cons,List.forIn_nil]
 refine wpAny_bind (wpAny_bind (wpAny_holding ?_))
 show wpAny _ _ (Builtin.SmallTypes.nextOf (.ref b) >>= _) _ _ _
 have ne:∀ {x y:Nat},x≠y→(b+x:Nat)≠b+y:=fun q e=>q (Nat.add_left_cancel e)
 have lo:∀ {c:Nat} (k:Nat),c < b→c≠b+k:=fun k q=>Nat.ne_of_lt (Nat.lt_of_lt_of_le q (Nat.le_add_right b k))
 refine wpAny_bind (wpAny_nextOf_list_item (i1.at fun o e=>k0 _ o (ne (x:=0) (by decide)) e) (h1.at fun o e=>k0 _ o (lo 5 bl) e) hx fun ha ia sa=>wpAny_pure ?_)
 refine wpAny_pure ?_
 refine wpAny_bind (wpAny_bind (wpAny_holding ?_))
 show wpAny _ _ (Builtin.SmallTypes.nextOf (.ref (b+1)) >>= _) _ _ _
 have ka:∀ c o,c≠b+5→c≠b→s.heap.get? c=some o→ha.get? c=some o:=fun c o q q' e=>(sa.2 c q').trans (k0 c o q e)
 refine wpAny_bind (wpAny_nextOf_list_item (i2.at fun o e=>ka _ o (ne (by decide)) (ne (y:=0) (by decide)) e) (h2.at fun o e=>ka _ o (lo 5 bm) (Nat.ne_of_lt bm) e) hy fun hb ib sb=>wpAny_pure ?_)
 refine wpAny_pure ?_
 refine wpAny_bind (wpAny_bind (wpAny_holding ?_))
 show wpAny _ _ (Builtin.SmallTypes.nextOf (.ref (b+2)) >>= _) _ _ _
 have kb:∀ c o,c≠b+5→c≠b→c≠b+1→s.heap.get? c=some o→hb.get? c=some o:=fun c o q q' q'' e=>(sb.2 c q'').trans (ka c o q q' e)
 refine wpAny_bind (wpAny_nextOf_list_item (i3.at fun o e=>kb _ o (ne (by decide)) (ne (y:=0) (by decide)) (ne (by decide)) e) (h3.at fun o e=>kb _ o (lo 5 bn) (Nat.ne_of_lt bn) (lo 1 bn) e) hv fun hc ic sc=>wpAny_pure ?_)
 refine wpAny_pure (wpAny_pure ?_)
 show wpAny _ _ (newTuple [x,y,v] >>= fun t=>ret t) _ _ _
 refine wpAny_bind (wpAny_newTuple (wpAny_pure ⟨_,rfl,wpAny_pure ?_⟩))
 have kc:∀ c o,c≠b+5→c≠b→c≠b+1→c≠b+2→s.heap.get? c=some o→hc.get? c=some o:=fun c o q q' q'' q4 e=>(sc.2 c q4).trans (kb c o q q' q'' e)
 have sz:hc.objs.size=s.heap.objs.size:=by rw [sc.1,sb.1,sa.1]; exact e0
 show Q (some (.ref hc.objs.size)) _
 have up:∀ c o,hc.get? c=some o→(hc.push { cls:=.type "tuple",data:=.seq #[x,y,v] }).get? c=some o:=fun c o e=>Heap.get?_push_of_some _ e
 have tn:Tr (hc.push { cls:=.type "tuple",data:=.seq #[x,y,v] }) hc.objs.size x y v:=Heap.get?_push_size _ rfl
 rw [sz] at tn ⊢
 refine hQ _ ⟨up _ _ ?_,up _ _ (kc _ _ (ne (by decide)) (ne (y:=0) (by decide)) (ne (by decide)) (ne (by decide)) ti),⟨q1,q2,q3,up _ _ (kc _ _ (ne (by decide)) (ne (y:=0) (by decide)) (ne (by decide)) (ne (by decide)) to)⟩,?_,?_,ic.at fun o e=>up _ o e⟩ tn fun c o lc e=>up _ _ (kc _ _ ?_ ?_ ?_ ?_ e)
 ·exact (sc.2 _ (ne (by decide))).trans ((sb.2 _ (ne (by decide))).trans ((sa.2 _ (ne (y:=0) (by decide))).trans z0))
 ·exact ia.at fun o e=>up _ o ((sc.2 _ (ne (x:=0) (by decide))).trans ((sb.2 _ (ne (x:=0) (by decide))).trans e))
 ·exact ib.at fun o e=>up _ o ((sc.2 _ (ne (by decide))).trans e)
 all_goals
  rcases lc with lc | lc
  ·first | exact lo 5 lc | exact Nat.ne_of_lt lc | exact lo 1 lc | exact lo 2 lc
  ·first
    | exact Nat.ne_of_gt (Nat.lt_of_lt_of_le (Nat.add_lt_add_left (by decide) b) lc)
    | exact Nat.ne_of_gt (Nat.lt_of_lt_of_le (Nat.lt_add_of_pos_right (by decide)) lc)
theorem put_tr {t:Addr} {a b c x:Value} {k:Nat} {Q:Unit→Shared→Prop} (ht:Tr s.heap t a b c)
  (h:∀ h',h'.get? t=some { cls:=.type "tuple",data:=.seq ((#[a,b,c]:Array Value).setIfInBounds k x) }→Heap.SameBut t s.heap h'→Q () { s with heap:=h' }) :
  wpAny (model prog w) A (updateSeq t (·.setIfInBounds k x)) Q E s:=by
 refine wpAny_updateSeq ht rfl (h _ ?_ (Heap.SameBut.update ..))
 rw [Heap.get?_update_self _ ht rfl]
 simp [Obj.mapSeq]
theorem zip3_free {b l m n:Addr} {i:Nat} {g:Bool} {xs ys zs:Array Value} {x y v:Value} {Q:Option Value→Shared→Prop} (hz:ZS s.heap b l m n i .none g) (gf:g=false)
  (bl:l < b) (bm:m < b) (bn:n < b)
  (h1:s.heap.IsList l xs) (h2:s.heap.IsList m ys) (h3:s.heap.IsList n zs) (hx:xs[i]? = some x) (hy:ys[i]? = some y) (hv:zs[i]? = some v)
  (hQ:∀ h',ZS h' b l m n (i+1) (rawInt s.heap.objs.size) false→Tr h' s.heap.objs.size x y v→(∀ c o,(c < b ∨ b+6≤c)→s.heap.get? c=some o→h'.get? c=some o)→Q (some (.ref s.heap.objs.size)) { s with heap:=h' }) :
  wpAny (model prog w) A (pyNext (.ref (b+5))) Q E s:=by
 subst gf
 have ne:∀ {x y:Nat},x≠y→(b+x:Nat)≠b+y:=fun q e=>q (Nat.add_left_cancel e)
 have lo:∀ {c:Nat} (k:Nat),c < b→c≠b+k:=fun k q=>Nat.ne_of_lt (Nat.lt_of_lt_of_le q (Nat.le_add_right b k))
 obtain ⟨z,ti,⟨q1,q2,q3,to⟩,i1,i2,i3⟩:=hz
 have hT:s.TypeIs (.ref (b+5)) "zip":=⟨_,z,rfl⟩
 unfold pyNext
 refine wpAny_bind (wpAny_attempt (wpAny_callSpecial?_slot (name:=Str.ofString "__next__") hT F.slot_zip_next (wpAny_call_entry F.slot_zip_next hT F.entry_zip_next ?_ (F.args_zip_next_1 _))))
 show wpAny _ _ (field (.ref (b+5)) 2 >>= _) _ _ _
 refine wpAny_bind (wpAny_field z rfl (x:=.bool false) rfl ?_)
 show wpAny _ _ (field (.ref (b+5)) 3 >>= _) _ _ _
 refine wpAny_bind (wpAny_field z rfl (x:=.ref (b+3)) rfl ?_)
 refine wpAny_bind (wpAny_seqItems ti rfl ?_)
 show wpAny _ _ (Builtin.SmallTypes.ownedTupleIsFree (.ref (b+5)) >>= _) _ _ _
 refine wpAny_bind ?_
 unfold Builtin.SmallTypes.ownedTupleIsFree
 refine wpAny_bind (wpAny_field z rfl (x:=.none) rfl (wpAny_pure ?_))
 simp only [if_true]
 refine wpAny_bind (wpAny_rule ?_)
 refine wpAny_bind (wpAny_field z rfl (x:=.ref (b+4)) rfl ?_)
 refine wpAny_bind (wpAny_setField_rec z (by simp) fun h0 z0 s0=>?_)
 replace z0:Zr h0 (b+5) .ellipsis false (b+3) (b+4):=z0
 refine wpAny_bind ?_
 simp only [List.zipIdx_cons,List.zipIdx_nil,List.forIn_cons,List.forIn_nil]
 have k0:∀ c o,c≠b+5→s.heap.get? c=some o→h0.get? c=some o:=fun c o q e=>(s0.2 c q).trans e
 refine wpAny_bind (wpAny_bind (wpAny_onRaise ?_))
 show wpAny _ _ (Builtin.SmallTypes.nextOf (.ref b) >>= _) _ _ _
 refine wpAny_bind (wpAny_nextOf_list_item (i1.at fun o e=>k0 _ o (ne (x:=0) (by decide)) e) (h1.at fun o e=>k0 _ o (lo 5 bl) e) hx fun ha ia sa=>wpAny_pure ?_)
 have ta:Tr ha (b+4) q1 q2 q3:=(sa.2 _ (ne (y:=0) (by decide))).trans (k0 _ _ (ne (by decide)) to)
 refine wpAny_bind (wpAny_seqItems ta rfl ?_)
 refine wpAny_bind (put_tr ta fun hb tb sb=>?_)
 replace tb:Tr hb (b+4) x q2 q3:=tb
 refine wpAny_bind (wpAny_letGo (wpAny_pure ?_))
 have kb:∀ c o,c≠b+5→c≠b→c≠b+4→s.heap.get? c=some o→hb.get? c=some o:=fun c o p1 p2 p3 e=>(sb.2 c p3).trans ((sa.2 c p2).trans (k0 c o p1 e))
 refine wpAny_bind (wpAny_bind (wpAny_onRaise ?_))
 show wpAny _ _ (Builtin.SmallTypes.nextOf (.ref (b+1)) >>= _) _ _ _
 refine wpAny_bind (wpAny_nextOf_list_item (i2.at fun o e=>kb _ o (ne (by decide)) (ne (y:=0) (by decide)) (ne (by decide)) e) (h2.at fun o e=>kb _ o (lo 5 bm) (Nat.ne_of_lt bm) (lo 4 bm) e) hy fun hc ic sc=>wpAny_pure ?_)
 have tc:Tr hc (b+4) x q2 q3:=(sc.2 _ (ne (by decide))).trans tb
 refine wpAny_bind (wpAny_seqItems tc rfl ?_)
 refine wpAny_bind (put_tr tc fun hd td sd=>?_)
 replace td:Tr hd (b+4) x y q3:=td
 refine wpAny_bind (wpAny_letGo (wpAny_pure ?_))
 have kd:∀ c o,c≠b+5→c≠b→c≠b+4→c≠b+1→s.heap.get? c=some o→hd.get? c=some o:=fun c o p1 p2 p3 p4 e=>(sd.2 c p3).trans ((sc.2 c p4).trans (kb c o p1 p2 p3 e))
 refine wpAny_bind (wpAny_bind (wpAny_onRaise ?_))
 show wpAny _ _ (Builtin.SmallTypes.nextOf (.ref (b+2)) >>= _) _ _ _
 refine wpAny_bind (wpAny_nextOf_list_item (i3.at fun o e=>kd _ o (ne (by decide)) (ne (y:=0) (by decide)) (ne (by decide)) (ne (by decide)) e) (h3.at fun o e=>kd _ o (lo 5 bn) (Nat.ne_of_lt bn) (lo 4 bn) (lo 1 bn) e) hv fun he ie se=>wpAny_pure ?_)
 have te:Tr he (b+4) x y q3:=(se.2 _ (ne (by decide))).trans td
 refine wpAny_bind (wpAny_seqItems te rfl ?_)
 refine wpAny_bind (put_tr te fun hf tf sf=>?_)
 replace tf:Tr hf (b+4) x y v:=tf
 refine wpAny_bind (wpAny_letGo (wpAny_pure (wpAny_pure ?_)))
 have kf:∀ c o,c≠b+5→c≠b→c≠b+4→c≠b+1→c≠b+2→s.heap.get? c=some o→hf.get? c=some o:=fun c o p1 p2 p3 p4 p5 e=>(sf.2 c p3).trans ((se.2 c p5).trans (kd c o p1 p2 p3 p4 e))
 have sz:hf.objs.size=s.heap.objs.size:=by rw [sf.1,se.1,sd.1,sc.1,sb.1,sa.1,s0.1]
 refine wpAny_bind (wpAny_seqItems tf rfl ?_)
 refine wpAny_bind (wpAny_newTuple ?_)
 have zf:Zr hf (b+5) .ellipsis false (b+3) (b+4) :=
  (sf.2 _ (ne (by decide))).trans ((se.2 _ (ne (by decide))).trans ((sd.2 _ (ne (by decide))).trans ((sc.2 _ (ne (by decide))).trans ((sb.2 _ (ne (by decide))).trans ((sa.2 _ (ne (y:=0) (by decide))).trans z0)))))
 show wpAny _ _ (Builtin.SmallTypes.ownedTupleHandOut (.ref (b+5)) (.ref hf.objs.size) >>= _) _ _ _
 refine wpAny_bind ?_
 unfold Builtin.SmallTypes.ownedTupleHandOut
 have zg:Zr (hf.push { cls:=.type "tuple",data:=.seq #[x,y,v] }) (b+5) .ellipsis false (b+3) (b+4):=Heap.get?_push_of_some _ zf
 refine wpAny_bind (wpAny_setField_rec zg (by simp) fun hg zg sg=>?_)
 replace zg:Zr hg (b+5) (rawInt hf.objs.size) false (b+3) (b+4):=zg
 refine wpAny_setField_rec zg (by simp) fun hh zh sh=>?_
 replace zh:Zr hh (b+5) (rawInt hf.objs.size) false (b+3) (b+4):=zh
 have lt5:b+5 < hf.objs.size:=Heap.lt_size zf
 have up:∀ c o,c≠b+5→hf.get? c=some o→hh.get? c=some o:=fun c o q e=>(sh.2 c q).trans ((sg.2 c q).trans (Heap.get?_push_of_some _ e))
 have tn:Tr hh hf.objs.size x y v:=(sh.2 _ (Nat.ne_of_gt lt5)).trans ((sg.2 _ (Nat.ne_of_gt lt5)).trans (Heap.get?_push_size _ rfl))
 refine wpAny_pure ⟨_,rfl,wpAny_pure ?_⟩
 show Q (some (.ref hf.objs.size)) _
 rw [sz] at tn zh ⊢
 refine hQ _ ⟨zh,up _ _ (ne (by decide)) (kf _ _ (ne (by decide)) (ne (y:=0) (by decide)) (ne (by decide)) (ne (by decide)) (ne (by decide)) ti),⟨x,y,v,up _ _ (ne (by decide)) tf⟩,?_,?_,?_⟩ tn fun c o lc e=>up _ _ ?_ (kf _ _ ?_ ?_ ?_ ?_ ?_ e)
 ·exact ia.at fun o e=>up _ o (ne (x:=0) (by decide)) ((sf.2 _ (ne (x:=0) (by decide))).trans ((se.2 _ (ne (x:=0) (by decide))).trans ((sd.2 _ (ne (x:=0) (by decide))).trans ((sc.2 _ (ne (x:=0) (by decide))).trans ((sb.2 _ (ne (x:=0) (by decide))).trans e)))))
 ·exact ic.at fun o e=>up _ o (ne (by decide)) ((sf.2 _ (ne (by decide))).trans ((se.2 _ (ne (by decide))).trans ((sd.2 _ (ne (by decide))).trans e)))
 ·exact ie.at fun o e=>up _ o (ne (by decide)) ((sf.2 _ (ne (by decide))).trans e)
 all_goals
  rcases lc with lc | lc
  ·first | exact lo 5 lc | exact Nat.ne_of_lt lc | exact lo 1 lc | exact lo 2 lc | exact lo 4 lc
  ·first
    | exact Nat.ne_of_gt (Nat.lt_of_lt_of_le (Nat.add_lt_add_left (by decide) b) lc)
    | exact Nat.ne_of_gt (Nat.lt_of_lt_of_le (Nat.lt_add_of_pos_right (by decide)) lc)
end
end L2
namespace L2
open PySem PySem.Spec PyProof.Rows
section
variable {prog:Program} {w:World} {A:Around} {E:Value→Shared→Prop} {s:Shared}
theorem zip3_end {b l m n:Addr} {i:Nat} {f:Value} {g:Bool} {xs:Array Value} {Q:Option Value→Shared→Prop} (hh:A.handled=none) (hz:ZS s.heap b l m n i f g) (hf:(f=.none∧g=false) ∨ ∃ (t0:Addr) (ot:Obj),f=rawInt t0∧s.heap.get? t0=some ot)
  (bl:l < b) (h1:s.heap.IsList l xs) (hx:xs[i]? = none)
  (hQ:∀ h',(∀ c o,(c < b ∨ b+6≤c)→s.heap.get? c=some o→h'.get? c=some o)→Q none { s with heap:=h' }) :
  wpAny (model prog w) A (pyNext (.ref (b+5))) Q E s:=by
 have ne:∀ {x y:Nat},x≠y→(b+x:Nat)≠b+y:=fun q e=>q (Nat.add_left_cancel e)
 have lo:∀ {c:Nat} (k:Nat),c < b→c≠b+k:=fun k q=>Nat.ne_of_lt (Nat.lt_of_lt_of_le q (Nat.le_add_right b k))
 have far:∀ {c:Nat} (k:Nat),k < 6→c < b ∨ b+6≤c→c≠b+k:=fun k hk q=>q.elim (lo k) fun q=>Nat.ne_of_gt (Nat.lt_of_lt_of_le (Nat.add_lt_add_left hk b) q)
 obtain ⟨z,ti,⟨q1,q2,q3,to⟩,i1,i2,i3⟩:=hz
 have hT:s.TypeIs (.ref (b+5)) "zip":=⟨_,z,rfl⟩
 unfold pyNext
 refine wpAny_bind (wpAny_attempt (wpAny_callSpecial?_slot (name:=Str.ofString "__next__") hT F.slot_zip_next (wpAny_call_entry F.slot_zip_next hT F.entry_zip_next ?_ (F.args_zip_next_1 _))))
 have fin:∀ {h':Heap} {e:Addr},(∃ o,h'.get? e=some o∧o.cls=.type "StopIteration")→(∀ c o,(c < b ∨ b+6≤c)→s.heap.get? c=some o→h'.get? c=some o) →
   wpAny (model prog w) A (do if ← isInstance (.ref e) (.type "StopIteration") then pure none else throw (.ref e)) Q E { s with heap:=h' }:=by
  intro h' e ⟨o,he,hc⟩ hk
  refine wpAny_bind (wpAny_isInstance (T:="StopIteration") (b:=true) ⟨o,he,hc⟩ isSubtype_stop ?_)
  exact wpAny_pure (hQ _ hk)
 show wpAny _ _ (field (.ref (b+5)) 2 >>= _) _ _ _
 refine wpAny_bind (wpAny_field z rfl (x:=.bool false) rfl ?_)
 show wpAny _ _ (field (.ref (b+5)) 3 >>= _) _ _ _
 refine wpAny_bind (wpAny_field z rfl (x:=.ref (b+3)) rfl ?_)
 refine wpAny_bind (wpAny_seqItems ti rfl ?_)
 show wpAny _ _ (Builtin.SmallTypes.ownedTupleIsFree (.ref (b+5)) >>= _) _ _ _
 rcases hf with ⟨rfl,rfl⟩ | ⟨t0,ot,rfl,ht⟩
 ·refine wpAny_bind ?_
  unfold Builtin.SmallTypes.ownedTupleIsFree
  refine wpAny_bind (wpAny_field z rfl (x:=.none) rfl (wpAny_pure ?_))
  simp only [if_true]
  refine wpAny_bind (wpAny_rule ?_)
  refine wpAny_bind (wpAny_field z rfl (x:=.ref (b+4)) rfl ?_)
  refine wpAny_bind (wpAny_setField_rec z (by simp) fun h0 z0 s0=>?_)
  replace z0:Zr h0 (b+5) .ellipsis false (b+3) (b+4):=z0
  refine wpAny_bind ?_
  simp only [List.zipIdx_cons,List.zipIdx_nil,List.forIn_cons,List.forIn_nil]
  refine wpAny_bind (wpAny_bind (wpAny_onRaise ?_))
  show wpAny _ _ (Builtin.SmallTypes.nextOf (.ref b) >>= _) _ _ _
  refine wpAny_bind (wpAny_nextOf_list_end hh (i1.at fun o e=>(s0.2 _ (ne (x:=0) (by decide))).trans e) (h1.at fun o e=>(s0.2 _ (lo 5 bl)).trans e) hx fun ha e sa he=>?_)
  obtain ⟨oe,he1,he2⟩:=he
  have za:Zr ha (b+5) .ellipsis false (b+3) (b+4):=sa _ _ (ne (y:=0) (by decide)) z0
  have nez:e≠b+5:=fun q=>by subst q; rw [za] at he1; cases he1; simp at he2
  refine wpAny_setField_rec za (by simp) fun hb zb sb=>?_
  exact fin ⟨oe,(sb.2 _ nez).trans he1,he2⟩ fun c o q e=>(sb.2 _ (far 5 (by decide) q)).trans (sa _ _ (far 0 (by decide) q) ((s0.2 _ (far 5 (by decide) q)).trans e))
 ·refine wpAny_bind (free_held z ht fun h0 z0 k0 e0=>?_)
  simp only [Bool.false_eq_true,if_false]
  rw [←Array.forIn_toList]
  show wpAny _ _ (forIn [Value.ref b,Value.ref (b+1),Value.ref (b+2)] _ _ >>= _) _ _ _
  refine wpAny_bind ?_
  simp only [List.forIn_cons,List.forIn_nil]
  refine wpAny_bind (wpAny_bind (wpAny_holding ?_))
  show wpAny _ _ (Builtin.SmallTypes.nextOf (.ref b) >>= _) _ _ _
  refine wpAny_bind (wpAny_nextOf_list_end hh (i1.at fun o e=>k0 _ o (ne (x:=0) (by decide)) e) (h1.at fun o e=>k0 _ o (lo 5 bl) e) hx fun ha e sa he=>?_)
  exact fin he fun c o q e=>sa _ _ (far 0 (by decide) q) (k0 _ _ (far 5 (by decide) q) e)
theorem zip_no_len:typeLookup (.type "zip") "__len__" = pure none:=by rw [typeLookup_type,builtinLookup_eq_fast]; kernel_rfl
theorem zip_no_hint:typeLookup (.type "zip") "__length_hint__" = pure none:=by rw [typeLookup_type,builtinLookup_eq_fast]; kernel_rfl
theorem zip3_hint {z:Addr} {Q:Bool→Shared→Prop} (ty:s.TypeIs (.ref z) "zip") (k:∀ b tk,Q b { s with toks:=tk }):wpAny (model prog w) A (Builtin.List.listLengthHint (.ref z)) Q E s:=by
 unfold Builtin.List.listLengthHint
 refine wpAny_bind (wpAny_specialOf ty zip_no_len ?_)
 show wpAny _ _ (specialOf (Value.ref z) (Str.ofString "__length_hint__") >>= _) _ _ _
 refine wpAny_bind (wpAny_specialOf ty zip_no_hint ?_)
 exact wpAny_pure (k true s.toks)
theorem zip3_iter {z TI TO:Addr} {f:Value} {g:Bool} {Q:Value→Shared→Prop} (hz:Zr s.heap z f g TI TO) (h:Q (.ref z) s):wpAny (model prog w) A (pyIter (.ref z)) Q E s:=by
 have ty:s.TypeIs (.ref z) "zip":=⟨_,hz,rfl⟩
 refine wpAny_pyIter_slot ty F.slot_zip_iter (wpAny_call_entry F.slot_zip_iter ty F.entry_zip_iter ?_ (F.args_zip_iter_1 _))
 show wpAny _ _ (ret (.ref z)) _ _ s
 exact wpAny_pure ⟨_,rfl,"zip",_,ty,F.slot_zip_next.lookup,h⟩
end
end L2
namespace L2
open PySem PySem.Spec PyProof.Rows
def Hands (b:Nat) (xs ys zs:Array Value) (Ts:List Addr) (h:Heap):Prop :=
 Ts.Nodup∧∀ (j:Nat) (t:Addr),Ts[j]? = some t→b+7≤t∧∃ x y v,xs[j]? = some x∧ys[j]? = some y∧zs[j]? = some v∧Tr h t x y v
def Z3St (h0:Heap) (b:Nat) (l m n:Addr) (xs ys zs:Array Value) (acc:List Value) (h:Heap):Prop :=
 ∃ f g Ts,acc=Ts.map Value.ref∧ZS h b l m n Ts.length f g∧((f=.none∧g=false) ∨ ∃ t0:Addr,f=rawInt t0∧t0 ∈ Ts)∧(∀ c o,h0.get? c=some o→h.get? c=some o)∧Hands b xs ys zs Ts h
def Z3En (h0:Heap) (b:Nat) (xs ys zs:Array Value) (acc:List Value) (h:Heap):Prop :=
 ∃ Ts,acc=Ts.map Value.ref∧(∀ c o,h0.get? c=some o→h.get? c=some o)∧Hands b xs ys zs Ts h
theorem Hands.stay {b:Nat} {xs ys zs:Array Value} {Ts:List Addr} {h h':Heap} (q:Hands b xs ys zs Ts h) (k:∀ c o,b+7≤c→h.get? c=some o→h'.get? c=some o):Hands b xs ys zs Ts h' :=
 ⟨q.1,fun j t e=>by
  obtain ⟨p1,x,y,v,p2,p3,p4,p5⟩:=q.2 j t e
  exact ⟨p1,x,y,v,p2,p3,p4,k _ _ p1 p5⟩⟩
section
variable {prog:Program} {w:World} {A:Around}
theorem zip3_feed {h0:Heap} {l m n:Addr} {xs ys zs:Array Value} (hh:A.handled=none) (h1:h0.IsList l xs) (h2:h0.IsList m ys) (h3:h0.IsList n zs) (e1:ys.size=xs.size) (e2:zs.size=xs.size) :
  Feed prog w A (h0.objs.size+6) (h0.objs.size+5) xs.size (Z3St h0 h0.objs.size l m n xs ys zs) (Z3En h0 h0.objs.size xs ys zs):=by
 have bl:l < h0.objs.size:=by obtain ⟨_,e,_⟩:=h1; exact Heap.lt_size e
 have bm:m < h0.objs.size:=by obtain ⟨_,e,_⟩:=h2; exact Heap.lt_size e
 have bn:n < h0.objs.size:=by obtain ⟨_,e,_⟩:=h3; exact Heap.lt_size e
 generalize hb:h0.objs.size=b at bl bm bn ⊢
 have old6:∀ {c:Nat} {o:Obj},h0.get? c=some o→c < b:=fun e=>hb ▸ Heap.lt_size e
 have neS:∀ {k:Nat},k < 6→(b+k:Nat)≠b+6:=fun q e=>Nat.ne_of_lt q (Nat.add_left_cancel e)
 have lo6:∀ {c:Nat},c < b→c≠b+6:=fun q=>Nat.ne_of_lt (Nat.lt_of_lt_of_le q (Nat.le_add_right b 6))
 have hi6:∀ {c:Nat},b+7≤c→c≠b+6:=fun q=>Nat.ne_of_gt (Nat.lt_of_lt_of_le (Nat.add_lt_add_left (by decide) b) q)
 refine ⟨?_,?_,?_⟩
 ·rintro acc h h' ⟨f,g,Ts,ea,⟨z,ti,⟨q1,q2,q3,to⟩,i1,i2,i3⟩,hf,old,hd⟩ k
  refine ⟨f,g,Ts,ea,⟨k _ _ (neS (by decide)) z,k _ _ (neS (by decide)) ti,⟨q1,q2,q3,k _ _ (neS (by decide)) to⟩,i1.at fun o e=>k _ o (neS (k:=0) (by decide)) e,i2.at fun o e=>k _ o (neS (by decide)) e,i3.at fun o e=>k _ o (neS (by decide)) e⟩,hf,fun c o e=>k c o (lo6 (old6 e)) (old c o e),hd.stay fun c o q e=>k c o (hi6 q) e⟩
 ·rintro s acc Q E lt ⟨oS,eS⟩ ⟨f,g,Ts,ea,hz,hf,old,hd⟩ k
  have el:acc.length=Ts.length:=by rw [ea,List.length_map]
  rw [el] at lt
  have x1:xs[Ts.length]? = some (xs[Ts.length]'lt):=Array.getElem?_eq_getElem lt
  have y1:ys[Ts.length]? = some (ys[Ts.length]'(by omega)):=Array.getElem?_eq_getElem (by omega)
  have v1:zs[Ts.length]? = some (zs[Ts.length]'(by omega)):=Array.getElem?_eq_getElem (by omega)
  have k1:s.heap.IsList l xs:=h1.at fun o e=>old _ o e
  have k2:s.heap.IsList m ys:=h2.at fun o e=>old _ o e
  have k3:s.heap.IsList n zs:=h3.at fun o e=>old _ o e
  have lS:b+6 < s.heap.objs.size:=Heap.lt_size eS
  have tnew:∀ t ∈ Ts,t < s.heap.objs.size:=fun t ht=>by
   obtain ⟨j,hj⟩:=List.mem_iff_getElem?.mp ht
   obtain ⟨_,_,_,_,_,_,_,q⟩:=hd.2 j t hj
   exact Heap.lt_size q
  have next:∀ {h':Heap} {f':Value} {g':Bool} (tk:Nat),ZS h' b l m n (Ts.length+1) f' g'→(∃ t0:Addr,f'=rawInt t0∧t0 ∈ Ts++[s.heap.objs.size])→Tr h' s.heap.objs.size (xs[Ts.length]'lt) (ys[Ts.length]'(by omega)) (zs[Ts.length]'(by omega)) →
    (∀ c o,(c < b ∨ b+6≤c)→s.heap.get? c=some o→h'.get? c=some o)→Q (some (.ref s.heap.objs.size)) { s with heap:=h',toks:=tk }:=by
   intro h' f' g' tk z' f1 tn kk
   refine k _ h' tk ⟨f',g',Ts++[s.heap.objs.size],by rw [ea,List.map_append]; rfl,by rw [List.length_append,List.length_singleton]; exact z',.inr f1,fun c o e=>kk c o (.inl (old6 e)) (old c o e),?_,?_⟩ fun o e=>kk _ o (.inr (Nat.le_refl _)) e
   ·rw [List.nodup_append]
    refine ⟨hd.1,by simp,fun p hp q hq e=>?_⟩
    rw [List.mem_singleton] at hq
    exact Nat.lt_irrefl _ (hq ▸ e ▸ tnew p hp)
   ·intro j t e
    rcases Nat.lt_or_ge j Ts.length with lj | lj
    ·rw [List.getElem?_append_left lj] at e
     obtain ⟨p1,x,y,v,p2,p3,p4,p5⟩:=hd.2 j t e
     exact ⟨p1,x,y,v,p2,p3,p4,kk _ _ (.inr (Nat.le_of_succ_le p1)) p5⟩
    ·rw [List.getElem?_append_right lj] at e
     rcases Nat.lt_or_ge j (Ts.length+1) with lj' | lj'
     ·obtain rfl:j=Ts.length:=by omega
      rw [Nat.sub_self] at e
      cases e
      exact ⟨lS,_,_,_,x1,y1,v1,tn⟩
     ·rw [List.getElem?_eq_none (by rw [List.length_singleton]; omega)] at e
      cases e
  rcases hf with ⟨rfl,rfl⟩ | ⟨t0,rfl,ht0⟩
  ·exact zip3_free hz rfl bl bm bn k1 k2 k3 x1 y1 v1 fun h' z' tn kk=>next s.toks z' ⟨_,rfl,by simp⟩ tn kk
  ·obtain ⟨j,hj⟩:=List.mem_iff_getElem?.mp ht0
   obtain ⟨_,_,_,_,_,_,_,q⟩:=hd.2 j t0 hj
   exact zip3_held hz q bl bm bn k1 k2 k3 x1 y1 v1 fun h' z' tn kk=>next s.toks z' ⟨t0,rfl,List.mem_append_left _ ht0⟩ tn kk
 ·rintro s acc Q E lt ⟨f,g,Ts,ea,hz,hf,old,hd⟩ k
  have el:acc.length=Ts.length:=by rw [ea,List.length_map]
  rw [el] at lt
  refine zip3_end hh hz ?_ bl (h1.at fun o e=>old _ o e) (Array.getElem?_eq_none (by omega)) fun h' kk=>?_
  ·rcases hf with q | ⟨t0,q,ht0⟩
   ·exact .inl q
   ·obtain ⟨j,hj⟩:=List.mem_iff_getElem?.mp ht0
    obtain ⟨_,_,_,_,_,_,_,q'⟩:=hd.2 j t0 hj
    exact .inr ⟨t0,_,q,q'⟩
  ·exact k h' s.toks ⟨Ts,ea,fun c o e=>kk c o (.inl (old6 e)) (old c o e),hd.stay fun c o q e=>kk c o (.inr (Nat.le_of_succ_le q)) e⟩ fun o e=>kk _ o (.inr (Nat.le_refl _)) e
end
end L2
namespace L2
open PySem PySem.Spec PyProof.Rows
section
variable {X:Cx} {pins:List (Addr × Obj)} {σ:St} {H H':Hp} {s:Shared} {h':Heap}
theorem Inv.many {t':Nat} (I:Inv X pins σ H s) (old:∀ b u,s.heap.get? b=some u→h'.get? b=some u) (ag:∀ b,b < s.heap.objs.size→H' b=H b)
  (new:∀ b o,s.heap.objs.size≤b→H' b=some o→ObjOk X.prog X.w H' h' b o):Inv X pins σ H' { s with heap:=h',toks:=t' }:=by
 have ag':∀ b o,H b=some o→H' b=some o:=fun b o e=>(ag b (I.hok.lt e)).trans e
 refine I.un ⟨fun b u q _ _ _=>old b u q,fun b u q _ _ _=>⟨u.slots,old b u q⟩,fun b u q e _=>(ag b (Heap.lt_size q)).trans e,fun b u q _=>⟨u,old b u q⟩,fun b xs q=>ag' b _ q,fun b u v q=>ag' b _ q,fun b ps q=>⟨#[],by rw [ag' b _ q]; simp⟩⟩ ?_
 intro b o e
 rcases Nat.lt_or_ge b s.heap.objs.size with lt | ge
 ·rw [ag b lt] at e
  exact (I.hok b o e).stay (fun c v _ q=>old c v q) (fun c q=>ag' c _ q) fun c xs q=>ag' c _ q
 ·exact new b o ge e
end
structure Rows3 (H H':Hp) (S:Addr) (Ts:List Addr) (rows:List (List V)):Prop where
 s:H' S=some (.lst (Ts.map V.ref))
 len:Ts.length=rows.length
 row:∀ (j:Nat) (t:Addr) (r:List V),Ts[j]? = some t→rows[j]? = some r→H' t=some (.tup r)
 oth:∀ b,b≠S→b ∉ Ts→H' b=H b
 newS:H S=none
 newT:∀ t ∈ Ts,H t=none
 nd:(S :: Ts).Nodup
def rows3:List V→List V→List V→List (List V)
 | x :: xs,y :: ys,z :: zs=>[x,y,z] :: rows3 xs ys zs
 | _,_,_=>[]
theorem rows3_len:∀ (xs ys zs:List V),ys.length=xs.length→zs.length=xs.length→(rows3 xs ys zs).length=xs.length
 | [],_,_,_,_=>rfl
 | _ :: _,[],_,h,_=>by simp at h
 | _ :: _,_ :: _,[],_,h=>by simp at h
 | _ :: xs,_ :: ys,_ :: zs,h,h'=>by
  simp only [List.length_cons,Nat.add_right_cancel_iff] at h h'
  simp only [rows3,List.length_cons,rows3_len xs ys zs h h']
theorem rows3_get:∀ (xs ys zs:List V) (j:Nat) (x y z:V),xs[j]? = some x→ys[j]? = some y→zs[j]? = some z→(rows3 xs ys zs)[j]? = some [x,y,z]
 | x :: xs,y :: ys,z :: zs,0,_,_,_,h1,h2,h3=>by
  cases h1; cases h2; cases h3
  rfl
 | x :: xs,y :: ys,z :: zs,j+1,_,_,_,h1,h2,h3=>by
  simpa [rows3] using rows3_get xs ys zs j _ _ _ (by simpa using h1) (by simpa using h2) (by simpa using h3)
 | [],_,_,_,_,_,_,h,_,_=>by simp at h
 | _ :: _,[],_,_,_,_,_,_,h,_=>by simp at h
 | _ :: _,_ :: _,[],_,_,_,_,_,_,h=>by simp at h
open Classical in
noncomputable def zH (H:Hp) (S:Addr) (Ts:List Addr) (rows:List (List V)):Hp:=fun b =>
 if b=S then some (.lst (Ts.map V.ref)) else if h:∃ (j:Nat) (r:List V),Ts[j]? = some b∧rows[j]? = some r then some (.tup h.choose_spec.choose) else H b
theorem zH_row {H:Hp} {S:Addr} {Ts:List Addr} {rows:List (List V)} (nd:(S :: Ts).Nodup) {j:Nat} {t:Addr} {r:List V} (e:Ts[j]? = some t) (er:rows[j]? = some r):zH H S Ts rows t=some (.tup r):=by
 have nd':=List.nodup_cons.mp nd
 have nS:t≠S:=fun q=>nd'.1 (q ▸ List.mem_of_getElem? e)
 have hex:∃ (j:Nat) (r:List V),Ts[j]? = some t∧rows[j]? = some r:=⟨j,r,e,er⟩
 unfold zH
 rw [if_neg nS,dif_pos hex]
 obtain ⟨p1,p2⟩:=hex.choose_spec.choose_spec
 have:hex.choose=j:=(List.getElem?_inj (List.getElem?_eq_some_iff.mp p1).1 nd'.2).mp (p1.trans e.symm)
 have er':rows[hex.choose]? = some r:=by rw [this]; exact er
 exact congrArg (fun z=>some (HO.tup z)) (Option.some.inj (p2.symm.trans er'))
theorem zH_oth {H:Hp} {S:Addr} {Ts:List Addr} {rows:List (List V)} {b:Addr} (h1:b≠S) (h2:b ∉ Ts):zH H S Ts rows b=H b:=by
 unfold zH
 rw [if_neg h1,dif_neg]
 rintro ⟨j,r,e,_⟩
 exact h2 (List.mem_of_getElem? e)
theorem zH_S {H:Hp} {S:Addr} {Ts:List Addr} {rows:List (List V)}:zH H S Ts rows S=some (.lst (Ts.map V.ref)):=by
 unfold zH
 rw [if_pos rfl]
section
variable {X:Cx}
def tLZ (K:PySem.W.Frag) (ta:TA):TE:=fun σ H Q=>ta σ H fun vs H1=>∃ a b c xs ys zs,vs=[.ref a,.ref b,.ref c]∧SqL K H1 a xs∧SqL K H1 b ys∧SqL K H1 c zs∧ys.length=xs.length∧zs.length=xs.length ∧
 ∀ S Ts H',Rows3 H1 H' S Ts (rows3 xs ys zs)→Q (.ref S) H'
theorem boot_lst:bootBuiltins "list" = some (.type "list"):=by decide +kernel
theorem pe_listZip3 {a b c:Expr} {ta:TA} {p p' pos pos':Pos} (hc:X.calm=true) (hg:Gl X "zip") (hm:X.mg "zip" = none) (hg':Gl X "list") (hm':X.mg "list" = none) (ha:PA X [a,b,c] ta)
  (hs:starEach [a,b,c] X.env=(false,eval a X.env) :: starEach [b,c] X.env:=by rfl) (hpl:(backTo pos (starEach [b,c] X.env)).any (·.1)=false:=by rfl)
  (hs2:starEach [Expr.Call (.Name "zip" p) [a,b,c] [] pos] X.env=[(false,eval (.Call (.Name "zip" p) [a,b,c] [] pos) X.env)]:=by rfl) :
  PE X (.Call (.Name "list" p') [.Call (.Name "zip" p) [a,b,c] [] pos] [] pos') (tLZ X.K ta):=by
 intro pins s σ H Q I h
 refine wpAny_Call_Name_kw (ld_blt I hg' hm' boot_lst ?_)
 refine PyProof.Rows.callWith_type1 ?_ hs2 rfl
 rw [hs2]
 show wpAny _ _ (spliced ((false,eval (.Call (.Name "zip" p) [a,b,c] [] pos) X.env) :: backTo pos' [])) _ _ _
 refine Calls.spliced_cons ?_
 refine wpAny_Call_Name_kw (ld_blt I hg hm boot_zip (PyProof.Rows.callWith_type1 (thn (ha pos pins s σ H _ I h) fun us s1 ⟨vs,H1,I1,r1,q1⟩=>?_) hs hpl))
 obtain ⟨l,m,n,xs,ys,zs,rfl,hx,hy,hz,e1,e2,q⟩:=q1
 cases r1 with
 | cons ru r1 =>
 cases r1 with
 | cons rv r1 =>
 cases r1 with
 | cons rw' r1 =>
 cases r1
 cases ru
 cases rv
 cases rw'
 obtain ⟨ix,rx,px,zx⟩:=I1.list hx
 obtain ⟨iy,ry,py,zy⟩:=I1.list hy
 obtain ⟨iz,rz,pz,zz⟩:=I1.list hz
 refine zip3_new px.isList py.isList pz.isList fun h1 zs1 sz1 k1=>?_
 refine Calls.spliced_nil ?_
 have hh:X.A.handled=none:=I1.ok.hd hc
 have lx:ix.toArray.size=xs.length:=by rw [List.size_toArray,rx.length]
 have ly:iy.toArray.size=ix.toArray.size:=by rw [lx,List.size_toArray,←ry.length,e1]
 have lz:iz.toArray.size=ix.toArray.size:=by rw [lx,List.size_toArray,←rz.length,e2]
 have W:=zip3_feed (prog:=X.prog) (w:=X.w) (A:=X.A.in1.in1) (h0:=s1.heap) hh px.isList py.isList pz.isList ly lz
 have ty:Shared.TypeIs { s1 with heap:=h1 } (.ref (s1.heap.objs.size+5)) "zip":=⟨_,zs1.z,rfl⟩
 have W':Feed X.prog X.w X.A.in1.in1 (Shared.heap { s1 with heap:=h1 }).objs.size (s1.heap.objs.size+5) ix.toArray.size (Z3St s1.heap s1.heap.objs.size l m n ix.toArray iy.toArray iz.toArray) (Z3En s1.heap s1.heap.objs.size ix.toArray iy.toArray iz.toArray):=by
  show Feed _ _ _ h1.objs.size _ _ _ _
  rw [sz1]
  exact W
 refine list_feed W' (by rw [lx]; exact zx) ty (by decide) (by decide) ?_ ?_ ?_
 ·intro s' Q' E' old sz k
  refine zip3_iter (old _ _ zs1.z) (k s'.heap s'.toks ⟨.none,false,[],rfl,⟨old _ _ zs1.z,old _ _ zs1.ti,let ⟨u1,u2,u3,e⟩:=zs1.to; ⟨u1,u2,u3,old _ _ e⟩,zs1.i1.at fun o e=>old _ o e,zs1.i2.at fun o e=>old _ o e,zs1.i3.at fun o e=>old _ o e⟩,.inl ⟨rfl,rfl⟩,fun c o e=>old _ _ (k1 c o e),List.nodup_nil,fun j t e=>by simp at e⟩ fun o e=>e)
 ·intro s' Q' E' st k
  obtain ⟨_,_,_,_,z,_⟩:=st
  exact zip3_hint ⟨_,z.z,rfl⟩ k
 ·intro h' tk acc c' ea en eS
  obtain ⟨Ts,rfl,old,nd,hd⟩:=en
  show EP X pins σ Q (.ref h1.objs.size) _
  replace eS:h'.get? (s1.heap.objs.size+6)=some (lsO (Ts.map Value.ref) c'):=by rw [←sz1]; exact eS
  rw [sz1]
  have lT:Ts.length=xs.length:=by rw [←lx,←ea,List.length_map]
  have lR:=rows3_len xs ys zs e1 e2
  have geT:∀ t ∈ Ts,s1.heap.objs.size+7≤t:=fun t ht=>by
   obtain ⟨j,hj⟩:=List.mem_iff_getElem?.mp ht
   exact (hd j t hj).1
  have ndS:((s1.heap.objs.size+6) :: Ts).Nodup:=List.nodup_cons.mpr ⟨fun m=>Nat.lt_irrefl _ (Nat.lt_of_lt_of_le (Nat.add_lt_add_left (by decide) _) (geT _ m)),nd⟩
  have oth:∀ b,b < s1.heap.objs.size→zH H1 (s1.heap.objs.size+6) Ts (rows3 xs ys zs) b=H1 b:=fun b lt =>
   zH_oth (Nat.ne_of_lt (Nat.lt_of_lt_of_le lt (Nat.le_add_right _ _))) fun m=>Nat.lt_irrefl _ (Nat.lt_of_lt_of_le (Nat.lt_of_lt_of_le lt (Nat.le_add_right _ _)) (geT _ m))
  refine ⟨.ref (s1.heap.objs.size+6),zH H1 (s1.heap.objs.size+6) Ts (rows3 xs ys zs),Inv.many (s:=s1) (t':=tk) I1 old oth ?_,rfl,q _ Ts _ ⟨zH_S,by rw [lT,lR],fun j t r e er=>zH_row ndS e er,fun b n1 n2=>zH_oth n1 n2,I1.hok.fresh (Nat.le_add_right _ _),fun t ht=>I1.hok.fresh (Nat.le_trans (Nat.le_add_right _ 7) (geT t ht)),ndS⟩⟩
  intro b o ge eb
  by_cases hbS:b=s1.heap.objs.size+6
  ·subst hbS
   rw [zH_S] at eb
   cases eb
   refine ⟨by rw [List.length_map,lT]; exact zx,Ts.map Value.ref,c',?_,eS⟩
   have:∀ l:List Addr,Vals (l.map V.ref) (l.map Value.ref):=by
    intro l
    induction l with
    | nil=>exact .nil
    | cons t l ih=>exact .cons rfl ih
   exact this Ts
  ·by_cases hbT:b ∈ Ts
   ·obtain ⟨j,hj⟩:=List.mem_iff_getElem?.mp hbT
    obtain ⟨_,u1,u2,u3,p1,p2,p3,p4⟩:=hd j b hj
    have lj:j < xs.length:=by rw [←lT]; exact (List.getElem?_eq_some_iff.mp hj).1
    have g1:xs[j]? = some (xs[j]'lj):=List.getElem?_eq_getElem lj
    have g2:ys[j]? = some (ys[j]'(by omega)):=List.getElem?_eq_getElem (by omega)
    have g3:zs[j]? = some (zs[j]'(by omega)):=List.getElem?_eq_getElem (by omega)
    obtain ⟨w1,a1,b1⟩:=rx.get g1
    obtain ⟨w2,a2,b2⟩:=ry.get g2
    obtain ⟨w3,a3,b3⟩:=rz.get g3
    rw [List.getElem?_toArray] at p1 p2 p3
    rw [a1] at p1
    rw [a2] at p2
    rw [a3] at p3
    cases p1
    cases p2
    cases p3
    rw [zH_row ndS hj (rows3_get xs ys zs j _ _ _ g1 g2 g3)] at eb
    cases eb
    refine ⟨by simp [sizeLine_eq],[u1,u2,u3],.cons b1 (.cons b2 (.cons b3 .nil)),_,p4,rfl,_,rfl⟩
   ·rw [zH_oth hbS hbT,I1.hok.fresh ge] at eb
    cases eb
end
end L2
namespace L2
open PySem PySem.Spec PyProof.Rows PySem.W
section
variable {prog:Program} {w:World} {A:Around} {E:Value→Shared→Prop} {s:Shared}
end
end L2
namespace L2
open PySem PySem.Spec PyProof.Rows PySem.W
section
variable (key:Nat→Int × Int)
def Kp (p:Array Nat) (k:Nat):Int × Int:=key (p.getD k 0)
def Gd (n:Nat) (p:Array Nat):Prop:=p.toList.Perm (List.range n)
end
end L2
namespace L2
open PySem PySem.Spec PyProof.Rows PySem.W
section
variable {prog:Program} {w:World} {A:Around} {E:Value→Shared→Prop} {s:Shared}
end
end L2
namespace L2
open PySem PySem.Spec PyProof.Rows PySem.W
section
variable {prog:Program} {w:World} {A:Around} {E:Value→Shared→Prop} {s:Shared}
end
end L2
namespace L2
open PySem PySem.Spec PyProof.Rows
section
variable {prog:Program} {w:World} {A:Around} {E:Value→Shared→Prop} {s:Shared}
end
end L2
namespace L2
open PySem PySem.Spec PyProof.Rows
section
variable {prog:Program} {w:World} {A:Around} {E:Value→Shared→Prop} {s:Shared}
end
section
variable {prog:Program} {w:World} {A:Around}
end
end L2
namespace L2
open PySem PySem.Spec PyProof.Rows PySem.W
section
variable {X:Cx}
end
end L2
namespace L2
open PySem PySem.Spec PyProof.Rows PySem.W
section
theorem sortedHeap_old {h:Heap} {a b:Addr} {vs:List Value} {out:Array Value} {o:Obj} (n:b≠a) (e:h.get? b=some o):(sortedHeap h a vs out).get? b=some o :=
 Heap.get?_update_of_ne _ n.symm (Heap.get?_push_of_some _ (Heap.get?_push_of_some _ (Heap.get?_update_of_ne _ n.symm e)))
theorem sortedHeap_at {h:Heap} {a:Addr} {vs:List Value} {out:Array Value} {n:Nat} (e:h.get? a=some (seqObj "list" vs.toArray n)):∃ c,(sortedHeap h a vs out).get? a=some (seqObj "list" out c):=by
 have e1:=get?_update_seq e (fun _=>#[])
 have e2:((h.update a (Obj.mapSeq fun _=>#[])).push (seqObj "tuple" vs.toArray 0)).get? a=_:=Heap.get?_push_of_some _ e1
 have e3:(((h.update a (Obj.mapSeq fun _=>#[])).push (seqObj "tuple" vs.toArray 0)).push (seqObj "list" #[] 0)).get? a=_:=Heap.get?_push_of_some _ e2
 exact ⟨_,get?_update_seq e3 (fun _=>out)⟩
variable {X:Cx}
theorem boot_srt:bootBuiltins "sorted" = some (.builtin "sorted"):=by decide +kernel
theorem int_at:∀ {xs:List Int} {us:List Value},Vals (xs.map V.int) us→∀ (j:Nat) (u:Value),us[j]? = some u→∃ x t,xs[j]? = some x∧u=.int x t
 | [],_,.nil,_,_,h=>by cases h
 | x :: xs,_,.cons r rs,0,u,h=>by
  cases h
  obtain ⟨t,e⟩:=r
  exact ⟨x,t,rfl,e⟩
 | _ :: xs,_,.cons _ rs,j+1,u,h=>int_at rs j u (by simpa using h)
end
end L2
namespace L2
open PySem PySem.Spec PyProof.Rows
structure KM where
 a:Int
 b:Bool
 c:Int
 d:Int
 e:Int
 f:Int
 ws:List (List Int)
 deriving DecidableEq
section
variable {prog:Program} {w:World} {A:Around} {E:Value→Shared→Prop} {s:Shared}
end
end L2
namespace L2
open PySem PySem.Spec PyProof.Rows
section
variable (prog:Program) (w:World)
variable {prog w}
end
end L2
namespace L2
open PySem PySem.Spec PyProof.Rows
section
variable {P:Program} {w:World} {H:Hp} {h:Heap} {a:Addr}
end
def kL (l:List (KM × V × V)):List (KM × Addr × V):=l.map fun x=>(x.1,adr x.2.1,x.2.2)
end L2
namespace L2
open PySem PySem.Spec PyProof.Rows
section
variable {X:Cx}
end
end L2
namespace L2
open PySem PySem.Spec PyProof.Rows
section
variable {X:Cx} {pins:List (Addr × Obj)} {σ:St} {H:Hp} {s:Shared}
theorem Inv.pylong (I:Inv X pins σ H s) (hN:X.base.NoSeer) (ht:X.prog.given.tree=none) {env:Env} {l:List Env} (hst:X.stack=env :: l) (hgen:env.scope.isGenerator=false) (hco:env.scope.isCoroutine=false) (hb:env.builtins=builtinsNs) (hg:env.globals=mainGlobals)
  (hd:X.A.depth+Builtin.pylongFrames < recursionLimit):PylongRoom (model X.prog X.w) X.A s :=
 PylongRoom.of I.nolimit hd (SeerAt.of (hN.keeps I.bk) ht (by rw [I.ok.frames,hst]) hgen hco hb hg)
def CNe (_ j:Int):Prop:=j≠0
theorem op_fdivP (hN:X.base.NoSeer) (ht:X.prog.given.tree=none) {env:Env} {l:List Env} (hst:X.stack=env :: l) (hgen:env.scope.isGenerator=false) (hco:env.scope.isCoroutine=false) (hb:env.builtins=builtinsNs) (hg:env.globals=mainGlobals)
  (hd:X.A.depth+Builtin.pylongFrames < recursionLimit):OpR X (binaryOp .FloorDiv) (rI CNe fun i j=>.int (i.fdiv j)):=by
 intro pins s σ H x y v u Q I rx ry h
 obtain ⟨i,j,rfl,rfl,hc,q⟩:=h
 obtain ⟨t,rfl⟩:=rx
 obtain ⟨t',rfl⟩:=ry
 exact floordiv_int hc ⟨.int (i.fdiv j),H,I.tok _,⟨_,rfl⟩,q⟩ (.inr (I.pylong hN ht hst hgen hco hb hg hd))
end
end L2
namespace L2
open PySem PySem.Spec PySem.Calls PyProof.Rows
def BMn (mg:Str→Option Value) (base:Heap):Prop:=∃ bm ob,mg "__builtins__" = some (.ref bm)∧bm≠builtinsNs∧base.get? bm=some ob∧ob.cls=.type "module"∧ob.dict=some builtinsNs∧ob.data=.plain
def LamO (f:Addr) (fd:FuncData):HO:=.ext fun h=>h.get? f=some { cls:=.type "function",data:=.func fd }
def CodO (c:Addr) (q:Str):HO:=.ext fun h=>h.CodeRec (.ref c) q
theorem lam_ok {P:Program} {w:World} {H:Hp} {h:Heap} {f:Addr} {fd:FuncData} (e:h.get? f=some { cls:=.type "function",data:=.func fd }):ObjOk P w H h f (LamO f fd) :=
 ⟨e,⟨_,e⟩,fun _ _ p k=>k _ p⟩
theorem cod_ok {P:Program} {w:World} {H:Hp} {h:Heap} {c:Addr} {q:Str} (e:h.CodeRec (.ref c) q):ObjOk P w H h c (CodO c q):=by
 refine ⟨e,?_,fun h1 h2 p k=>?_⟩
 ·obtain ⟨c',o,vs,t,e1,e2,_⟩:=e
  cases e1
  exact ⟨o,e2⟩
 ·obtain ⟨c',o,vs,t,e1,e2,e3⟩:=p
  cases e1
  exact ⟨c,o,vs,t,rfl,k _ e2,e3⟩
def TbL (Pt:Addr) (q:Str) (ln cl:Int) (H:Hp):Prop :=
 H Pt=some (.tbl #[]) ∨ ∃ c,H Pt=some (.tbl #[rawInt ln,rawInt cl,.ref c])∧H c=some (CodO c q)
abbrev lamFd (q:Str) (params:Arguments) (body:Expr) (scope:Scope) (pm:Value) (c:Addr) (ct:Value):FuncData:=PySem.W.kla_fn "<lambda>" q params body scope [] pm (.ref c) ct
section
variable {X:Cx}
def tLam (Pt:Addr) (q:Str) (ln cl:Int) (params:Arguments) (body:Expr) (scope:Scope):TE:=fun _ H Q=>TbL Pt q ln cl H ∧
 ∀ (f c:Addr) (pm ct:Value) (H':Hp),H f=none→H' f=some (LamO f (lamFd q params body scope pm c ct))→H' c=some (CodO c q)→(∀ b o,b≠Pt→H b=some o→H' b=some o)→(∀ x,H' x=none→H x=none)→TbL Pt q ln cl H'→Q (.ref f) H'
theorem pe_lam {Pt cc:Addr} {q:Str} {params:Arguments} {body:Expr} {scope:Scope} {pos:Pos} (BM:BMn X.mg X.base) (hdef:defaultsOf params X.env=([],[])) (hcl:closureFor scope X.env=pure []) (hq:X.env.qual++"<lambda>" = q) (hcode:X.env.code=.ref cc) (hcc:PySem.W.codeHdIn X.K cc Pt=true) :
  PE X (.Lambda params body scope pos) (tLam Pt q pos.line pos.col params body scope):=by
 intro pins s σ H Q I h
 obtain ⟨tb,q0⟩:=h
 refine PySem.W.kla_eval hdef ?_
 rw [hq]
 have hg:s.heap.Ns mainGlobals X.mg:=I.mod.glob.keeps I.bk
 have hC:=PySem.W.codeHd_of_K I.kIn hcc
 obtain ⟨bm,ob,m1,m2,m3,m4,m5,m6⟩:=BM
 have m3':=I.bk _ _ m3
 have bG:bm≠mainGlobals:=fun z=>by
  obtain ⟨o,es,ep,e,hd,_⟩:=hg
  rw [z,e] at m3'; cases m3'; rw [hd] at m6; cases m6
 have atP:∀ {ps:Array Value},H Pt=some (.tbl ps)→s.heap.get? Pt=some (PySem.W.tabObj ps)∧mainGlobals≠Pt∧s.heap.BuiltinsAt X.mg Pt:=fun {ps} e=>by
  have e1:s.heap.get? Pt=some (PySem.W.tabObj ps):=I.hok Pt _ e
  refine ⟨e1,fun z=>?_,bm,ob,m1,m2,bG,fun z=>?_,m3',m4,m5,m6⟩
  ·obtain ⟨o,es,ep,e2,hd,_⟩:=hg
   rw [z,e1] at e2; cases e2; cases hd
  ·rw [z,e1] at m3'; cases m3'; cases m4
 rcases tb with e0 | ⟨c,e0,ec⟩
 ·obtain ⟨eP,gP,bP⟩:=atP e0
  refine PySem.W.kla_makeFunction (mg:=X.mg) hcl I.ok.glob hg hcode hC eP (by trivial) rfl gP bP fun c ct h' tk hx hge hlt hrec htb=>?_
  have htb':h'.get? Pt=some (PySem.W.tabObj #[rawInt pos.line,rawInt pos.col,.ref c]):=htb
  have szf:s.heap.objs.size≤h'.objs.size:=Nat.le_of_lt (Nat.lt_of_le_of_lt hge hlt)
  have Ptl:Pt < s.heap.objs.size:=Heap.lt_size eP
  have fP:h'.objs.size≠Pt:=fun z=>by rw [←z] at Ptl; exact absurd Ptl (Nat.not_lt.mpr szf)
  have cP:c≠Pt:=fun z=>by rw [←z] at Ptl; exact absurd Ptl (Nat.not_lt.mpr hge)
  have cf:c≠h'.objs.size:=Nat.ne_of_lt hlt
  have freeF:H h'.objs.size=none:=I.hok.fresh szf
  have freeC:H c=none:=I.hok.fresh hge
  generalize hf:h'.objs.size=f at *
  have old:∀ b,H b≠none→b≠f∧b≠c:=fun b hb=>⟨fun z=>hb (by rw [z]; exact freeF),fun z=>hb (by rw [z]; exact freeC)⟩
  have oldP:∀ b o,H b=some o→(∀ ps,o≠.tbl ps)→b≠Pt:=fun b o e n z=>by rw [z,e0] at e; cases e; exact n _ rfl
  let H':Hp:=upd (upd (upd H Pt (.tbl #[rawInt pos.line,rawInt pos.col,.ref c])) c (CodO c q)) f (LamO f (lamFd q params body scope ((X.mg "__name__").getD .none) c ct))
  have eqB:∀ b,b≠f→b≠c→b≠Pt→H' b=H b:=fun b h1 h2 h3=>by show upd (upd (upd H Pt _) c _) f _ b=_; rw [upd_ne h1,upd_ne h2,upd_ne h3]
  have keepH:∀ b o,H b=some o→b≠Pt→H' b=some o:=fun b o e n=>by
   obtain ⟨h1,h2⟩:=old b (by rw [e]; exact nofun)
   rw [eqB b h1 h2 n]; exact e
  have eF:H' f=some (LamO f (lamFd q params body scope ((X.mg "__name__").getD .none) c ct)):=upd_same
  have eC:H' c=some (CodO c q):=by show upd _ f _ c=_; rw [upd_ne cf,upd_same]
  have eT:H' Pt=some (.tbl #[rawInt pos.line,rawInt pos.col,.ref c]):=by show upd _ f _ Pt=_; rw [upd_ne fP.symm,upd_ne cP.symm,upd_same]
  have kept:∀ b o,b≠Pt→s.heap.get? b=some o→(h'.push (PySem.W.kla_obj "<lambda>" q params body scope [] ((X.mg "__name__").getD .none) c ct)).get? b=some o:=fun b o n e=>Heap.get?_push_of_some _ (hx b o n e)
  have J:Inv X pins σ H' { s with heap:=h'.push (PySem.W.kla_obj "<lambda>" q params body scope [] ((X.mg "__name__").getD .none) c ct),toks:=tk }:=by
   refine I.un ⟨fun b o e n _ _=>kept b o (fun z=>by rw [z,e0] at n; cases n) e,fun b o e n _ _=>⟨o.slots,kept b o (fun z=>by rw [z,e0] at n; cases n) e⟩,fun b o e n _=>?_,fun b o e _=>?_,fun b xs e=>keepH b _ e (oldP b _ e nofun),fun b o u e=>keepH b _ e (oldP b _ e nofun),fun b ps e=>?_⟩ fun b u e=>?_
   ·have lb:=Heap.lt_size e
    rw [eqB b (fun z=>by rw [z] at lb; exact absurd lb (Nat.not_lt.mpr szf)) (fun z=>by rw [z] at lb; exact absurd lb (Nat.not_lt.mpr hge)) (fun z=>by rw [z,e0] at n; cases n)]
    exact n
   ·by_cases z:b=Pt
    ·subst z; exact ⟨_,Heap.get?_push_of_some _ htb'⟩
    ·exact ⟨o,kept b o z e⟩
   ·by_cases z:b=Pt
    ·subst z
     rw [e0] at e; cases e
     exact ⟨_,by rw [eT,Array.empty_append]⟩
    ·exact ⟨#[],by rw [keepH b _ e z]; simp⟩
   ·by_cases zf:b=f
    ·subst zf
     rw [eF] at e; cases e
     exact lam_ok (by rw [←hf]; exact Heap.get?_push_size _ rfl)
    ·by_cases zc:b=c
     ·subst zc
      rw [eC] at e; cases e
      exact cod_ok (hrec.keeps fun b o z=>Heap.get?_push_of_some _ z)
     ·by_cases zP:b=Pt
      ·subst zP
       rw [eT] at e; cases e
       exact Heap.get?_push_of_some _ htb'
      ·rw [eqB b zf zc zP] at e
       refine (I.hok b u e).stay (fun x v hc z=>kept x v ?_ z) (fun x z=>keepH x _ z (oldP x _ z nofun)) fun x xs z=>keepH x _ z (oldP x _ z nofun)
       rcases hc with rfl | hc
       ·exact zP
       ·exact oldP x _ hc nofun
  exact ⟨.ref f,H',J,rfl,q0 f c _ ct H' freeF eF eC (fun b o n e=>keepH b o e n) (fun x e=>by
   by_cases zP:x=Pt
   ·rw [zP,eT] at e; cases e
   ·cases z:H x with
    | none=>rfl
    | some o=>rw [keepH x o z zP] at e; cases e) (.inr ⟨c,eT,eC⟩)⟩
 ·obtain ⟨eP,gP,bP⟩:=atP e0
  refine PySem.W.kla_makeFunctionHit (mg:=X.mg) (cv:=.ref c) hcl I.ok.glob hg hcode hC eP (TriplesOk_snoc _ _ _ [] trivial) ?_ bP fun ct h' tk hk hsz=>?_
  ·show codeAmong pos [rawInt pos.line,rawInt pos.col,.ref c]=some (.ref c)
   simp [codeAmong,rawInt]
  ·have freeF:H h'.objs.size=none:=I.hok.fresh hsz
   have cf:c≠h'.objs.size:=ne_of_none ec freeF
   have Pf:Pt≠h'.objs.size:=ne_of_none e0 freeF
   have J:=I.laid (a:=h'.objs.size) (o:=LamO h'.objs.size (lamFd q params body scope ((X.mg "__name__").getD .none) c ct)) (t':=tk) (h':=h'.push (PySem.W.kla_obj "<lambda>" q params body scope [] ((X.mg "__name__").getD .none) c ct)) (fun b o e=>Heap.get?_push_of_some _ (hk b o e)) hsz (lam_ok (Heap.get?_push_size _ rfl))
   refine ⟨.ref h'.objs.size,_,J,rfl,q0 _ c _ ct _ freeF upd_same (by rw [upd_ne cf]; exact ec) (fun b o n e=>by rw [upd_ne (ne_of_none e freeF)]; exact e) (fun x e=>?_) (.inr ⟨c,by rw [upd_ne Pf]; exact e0,by rw [upd_ne cf]; exact ec⟩)⟩
   by_cases z:x=h'.objs.size
   ·rw [z]; exact freeF
   ·rw [upd_ne z] at e; exact e
end
end L2
namespace L2
open PySem PySem.Spec PySem.Calls PyProof.Rows
theorem refs_of:∀ {as:List Addr} {us:List Value},Vals (as.map V.ref) us→us=as.map Value.ref
 | [],_,.nil=>rfl
 | _ :: _,_,.cons r t=>by rw [List.map_cons,←refs_of t,show _=_ from r]
theorem vals_refs:∀ as:List Addr,Vals (as.map V.ref) (as.map Value.ref)
 | []=>.nil
 | _ :: as=>.cons rfl (vals_refs as)
def refA:Value→Addr
 | .ref a=>a
 | _=>0
theorem perm_refs {vs:List Value} {as:List Addr} (h:vs.Perm (as.map Value.ref)):∃ as':List Addr,as'.Perm as∧vs=as'.map Value.ref:=by
 refine ⟨vs.map refA,?_,?_⟩
 ·have e:=h.map refA
  rw [List.map_map] at e
  have z:refA ∘ Value.ref=id:=rfl
  rw [z,List.map_id] at e
  exact e
 ·rw [List.map_map]
  have z:∀ v ∈ vs,(Value.ref ∘ refA) v=v:=fun v hv=>by
   obtain ⟨a,_,rfl⟩:=List.mem_map.mp (h.mem_iff.mp hv)
   rfl
  rw [List.map_congr_left z,List.map_id']
theorem lm_there {P:Program} {w:World} {H:Hp} {h:Heap} {a:Addr} {o:HO} (x:ObjOk P w H h a o):∃ u,h.get? a=some u:=by
 induction o with
 | lst xs=>obtain ⟨_,_,_,_,e⟩:=x; exact ⟨_,e⟩
 | tup xs=>obtain ⟨_,_,_,ob,e,_⟩:=x; exact ⟨_,e⟩
 | dK kvs=>obtain ⟨_,_,_,_,o,_,_,e,_⟩:=x; exact ⟨_,e⟩
 | dT kvs=>obtain ⟨_,_,_,_,o,_,_,e,_⟩:=x; exact ⟨_,e⟩
 | set S n=>obtain ⟨o,_,_,_,e,_⟩:=x; exact ⟨_,e⟩
 | ins C dx fs=>obtain ⟨_,_,_,e,_⟩:=x; exact ⟨_,e⟩
 | own y=>exact x
 | xd fs=>obtain ⟨_,⟨_,_,_,e,_⟩,_⟩:=x; exact ⟨_,e⟩
 | rng lo hi=>obtain ⟨_,_,_,e⟩:=x; exact ⟨_,e⟩
 | frz ob u ih=>obtain ⟨e,_⟩:=x; exact ⟨_,e⟩
 | tbl ps=>exact ⟨_,(show h.get? a=Option.some _ from x)⟩
 | met f y=>exact ⟨_,(show h.get? a=Option.some _ from x)⟩
 | ext φ=>obtain ⟨_,e,_⟩:=x; exact e
section
variable {X:Cx}
structure LamF (fld par:Str) (q:Str) (params:Arguments) (body:Expr) (scope:Scope):Prop where
 bd:∃ p p',body=.Attribute (.Name par p) fld p'
 bind:∀ (pm ct v:Value) (c:Addr),bindArgs (lamFd q params body scope pm c ct) ⟨[v],[]⟩=pure [(par,v)]
 loc:scope.names.lookup par=some .local
 nocell:∀ x ∈ scope.names,x.2≠.cell
 kind:scope.kind=.function
 co:scope.isCoroutine=false
 gen:scope.isGenerator=false
 db:(par == ("__debug__" : Str))=false
def tSK (K:PySem.W.Frag) (fld:Str) (q:Str) (params:Arguments) (body:Expr) (scope:Scope) (t tk:TA):TE:=fun σ H Q=>t σ H fun vs H1=>tk σ H1 fun ws H2=>∃ (l f c:Addr) (pm ct:Value) (as:List Addr) (ds:List Int),vs=[.ref l]∧ws=[.ref f] ∧
 H2 f=some (LamO f (lamFd q params body scope pm c ct))∧H2 c=some (CodO c q)∧H2 l=some (.lst (as.map V.ref))∧ds.length=as.length∧as.length < 64 ∧
 (∀ (i:Nat) (a:Addr) (d:Int),as[i]? = some a→ds[i]? = some d→∃ C dx fs,H2 a=some (.ins C dx fs)∧Cls K C∧NoAttr K C fld∧fs.lookup fld=some (.int d)) ∧
 ∀ (D:Addr) (as':List Addr),H2 D=none→as'.Perm as→Q (.ref D) (upd H2 D (.lst (as'.map V.ref)))
theorem pe_sortedKey {e ek:Expr} {kp p pos:Pos} {t tk:TA} {fld par q:Str} {params:Arguments} {body:Expr} {scope:Scope} (hd:X.A.depth < recursionLimit) (LF:LamF fld par q params body scope) (hg:Gl X "sorted") (hm:X.mg "sorted" = none) (ha:PA X [e] t) (hk:PK X [⟨some "key",ek,kp⟩] tk)
  (he:∀ pos,backTo pos (starEach [e] X.env)=(false,eval e X.env) :: backTo pos (starEach [] X.env):=by intro _; rfl) (hpl:∀ pos,(backTo pos (starEach [e] X.env)).any (·.1)=false:=by intro _; rfl) :
  PE X (.Call (.Name "sorted" p) [e] [⟨some "key",ek,kp⟩] pos) (tSK X.K fld q params body scope t tk):=by
 intro pins s0 σ H Q I0 h
 refine wpAny_Call_Name_kw (ld_blt I0 hg hm (u:=.builtin "sorted") (by decide +kernel) ?_ (by decide) (by decide))
 refine callWith_kw ?_ (he pos) (hpl pos)
 refine thn (ha pos pins s0 σ H _ I0 h) fun us s1 ⟨vs,H1,I1,r1,q1⟩=>?_
 refine thn (hk pos pins s1 σ H1 _ I1 q1) fun ws s ⟨xs,H2,I,r2,q2⟩=>?_
 obtain ⟨l,f,c,pm,ct,as,ds,rfl,rfl,eF,eC,eL,hl,h64,hin,q3⟩:=q2
 obtain ⟨u,rfl,rx⟩:=vals1 r1
 obtain ⟨u2,rfl,rx2⟩:=vals1 r2
 cases rx
 cases rx2
 obtain ⟨its,rv,pl,hz⟩:=I.list (SqL.of (K:=X.K) eL)
 have ei:=refs_of rv
 subst ei
 obtain ⟨m,F⟩:=I.fr
 have N:=news_all (g:=X.base) (h:=s.heap) (L:=X.env.locals)
 have keepAll:∀ {h':Heap} {more:List (Addr × Obj)},Fr X.base X.env.locals h' m→News X.base X.env.locals h' more→(∀ z ∈ allNews X.base s.heap X.env.locals,z ∈ more)→∀ b o,b≠X.env.locals→s.heap.get? b=some o→h'.get? b=some o:=fun {h' more} F' N' sub b o nb eb=>by
  cases z:X.base.get? b with
  | some v =>
   have:=I.bk b v z
   rw [eb] at this; cases this
   exact F'.keep b _ z
  | none=>exact (N' (b,o) (sub _ (mem_allNews nb z eb))).1
 have neL:∀ {b:Addr} {o:HO},H2 b=some o→b≠X.env.locals:=fun {b o} e z=>by rw [z,I.free] at e; cases e
 refine ksk_sorted (b:=false) (kz:=ds) (f:=.ref f) (kw:=[(Str.ofString "key",.ref f)]) F N pl.isList (by rw [List.length_map]; exact hl) (by rw [List.length_map]; exact h64) (ksk_s1 _ _) (fun x=>ksk_l1 _ _) (fun x=>ksk_t1 _ _) (fun i v k hv hkz h1 tk1 own F1 N1=>?_) fun D h' tk1 out c1 F' N' lD ko=>?_
 ·
  obtain ⟨a,ea,rfl⟩:∃ a,as[i]? = some a∧v=.ref a:=by
   rw [List.getElem?_map] at hv
   cases z:as[i]? with
   | none=>rw [z] at hv; cases hv
   | some a=>rw [z] at hv; cases hv; exact ⟨a,rfl,rfl⟩
  obtain ⟨C,dx,fs,eA,cl,na,lf⟩:=hin i a k ea hkz
  have kp:=keepAll F1 N1 fun z hz=>List.mem_append_left _ hz
  obtain ⟨⟨p1,p2,eB⟩,hbind,hloc,hcell,hkd,hco,hgen,hdb⟩:=LF
  obtain ⟨eF1,_,_⟩:=(show ObjOk X.prog X.w H2 s.heap f (LamO f _) from I.hok f _ eF)
  obtain ⟨eC1,_,_⟩:=(show ObjOk X.prog X.w H2 s.heap c (CodO c q) from I.hok c _ eC)
  obtain ⟨c2,oc,vsc,tc,z1,z2,z3,z4⟩:=eC1
  cases z1
  have eF2:s.heap.get? f=some { cls:=.type "function",data:=.func (lamFd q params body scope pm c ct) }:=eF1
  have eC2:h1.CodeRec (.ref c) q:=⟨c,oc,vsc,tc,rfl,kp c oc (neL eC) z2,z3,z4⟩
  obtain ⟨mA,O,ro,_,_,od⟩:=ins_get I.hok eA
  obtain ⟨u3,hu,ru⟩:=RelO.some_of (v:=.int k) (o:=mA fld) (by rw [←lf]; exact ro fld)
  obtain ⟨tt,rfl⟩:=ru
  have O1:ObjM h1 a dx C mA:=⟨kp _ _ (neL eA) O.obj,let ⟨o,es,ep,g1,g2⟩:=O.ns; ⟨o,es,ep,kp _ _ (neL od) g1,g2⟩,O.ne⟩
  have KX:X.K.In h1:=I.mod.kin.keeps F1.keep
  refine wpAny_call (PySem.W.kla_callFunE (o:={ cls:=.type "function",data:=.func (lamFd q params body scope pm c ct) }) (fd:=lamFd q params body scope pm c ct) (body:=body) hd (kp f _ (neL eF) eF2) rfl hco hgen rfl eC2 ?_)
  rw [hbind]
  refine wpAny_pure (wpAny_newFunctionEnv hcell (fun x hx=>by cases List.mem_singleton.mp hx; exact hloc) (fun h2 hns hsb=>⟨(I.mod.nolimit.keeps F1.keep).fresh _ hsb,?_⟩) hkd)
  have hk2:∀ b o,h1.get? b=some o→h2.get? b=some o:=fun b o e=>hsb.extBut b o (Nat.ne_of_lt (Heap.lt_size e)) (Heap.get?_push_of_some _ e)
  refine PySem.W.kla_codeExpr ?_
  rw [eB]
  refine attr_of (by rfl) ?_
  refine wpAny_Name (wpAny_loadName_local hkd hloc hns (show _=some (Value.ref a) by simp) ?_) hdb
  have O2:ObjM h2 a dx C mA:=⟨hk2 _ _ O1.obj,let ⟨o,es,ep,g1,g2⟩:=O1.ns; ⟨o,es,ep,hk2 _ _ g1,g2⟩,O1.ne⟩
  refine get_map (s:={ s with heap:=h2,toks:=_ }) (KX.keeps hk2) O2 (cl.get fld) cl.hd na hu rfl ?_
  exact ⟨h2,_,tt,rfl,rfl,⟨F1.ns.keeps hk2,fun b o e=>hk2 _ _ (F1.keep b o e),F1.above⟩,fun z hz=>⟨hk2 _ _ (N1 z hz).1,(N1 z hz).2⟩⟩
 ·have kp:=keepAll F' N' fun z hz=>List.mem_cons_of_mem _ hz
  have nD:=N' (D,seqObj "list" out c1) (.head _)
  have frD:∀ b o,s.heap.get? b=some o→b≠D:=fun b o e z=>by
   subst z
   exact Nat.lt_irrefl _ (lD (b,o) (mem_allNews nD.2.1 nD.2.2 e))
  have hD:H2 D=none:=by
   cases z:H2 D with
   | none=>rfl
   | some o =>
    obtain ⟨ob,eo⟩:=lm_there (I.hok D o z)
    exact absurd rfl (frD D ob eo)
  obtain ⟨ps,hp,ho,_⟩:=ko
  have hp2:out.toList.Perm (as.map Value.ref):=by
   rw [ho]
   have e:=hp.map Prod.snd
   rw [List.map_snd_zip (by rw [List.length_map]; omega)] at e
   exact e
  obtain ⟨as',pa,eo⟩:=perm_refs hp2
  refine ⟨.ref D,upd H2 D (.lst (as'.map V.ref)),?_,rfl,q3 D as' hD pa⟩
  refine I.step (g':=s.gens) (d':=s.drawn) (ch:=[]) (fun _ z=>nomatch z) (fun b o nb _ _ e _=>kp b o nb e) (fun b o nb _ _ e _=>⟨o.slots,kp b o nb e⟩) (fun b o _ e n=>by rw [upd_ne (frD b o e)]; exact n) (fun b o _ e=>?_) (fun b xs e=>by rw [upd_ne (ne_of_none e hD)]; exact e) (fun b o u e=>by rw [upd_ne (ne_of_none e hD)]; exact e) (fun b ps e=>⟨#[],by rw [upd_ne (ne_of_none e hD),e]; simp⟩) (fun m' hm=>?_) (fun b u e=>?_) I.bare
  ·by_cases z:b=X.env.locals
   ·subst z
    obtain ⟨o',_,_,g,_⟩:=F'.ns
    exact ⟨o',g⟩
   ·exact ⟨o,kp b o z e⟩
  ·rw [hm.eq_nsMap,←F.ns.eq_nsMap]; exact F'.ns
  ·by_cases z:b=D
   ·subst z
    rw [upd_same] at e; cases e
    refine ⟨by rw [List.length_map,pa.length_eq]; exact Nat.le_of_lt (small1000 (by omega)),out.toList,c1,by rw [eo]; exact vals_refs as',?_⟩
    rw [nD.1,Array.toArray_toList]
   ·rw [upd_ne z] at e
    refine (I.hok b u e).stay (fun x v hc g=>kp x v ?_ g) (fun x g=>by rw [upd_ne (ne_of_none g hD)]; exact g) fun x xs g=>by rw [upd_ne (ne_of_none g hD)]; exact g
    rcases hc with rfl | hc
    ·exact neL e
    ·exact neL hc
end
end L2
namespace My
open PySem L2 PyProof.Rows
def top (i:Nat):Stmt:=PySem.Challenge.pw_evenkin_k41_trees_that_part.main.body.getD i (.Pass ⟨0,0,0,0⟩)
def clsBody (s:Stmt) (i:Nat):Stmt:=match s with
 | .ClassDef _ _ _ b _ _ _ _ _ _ _=>b.getD i (.Pass ⟨0,0,0,0⟩)
 | _=>.Pass ⟨0,0,0,0⟩
abbrev sInitS:Stmt:=clsBody (top 14) 0
abbrev sDot:Stmt:=top 1
abbrev sEach:Stmt:=top 2
abbrev sFirst:Stmt:=top 3
abbrev sSide:Stmt:=top 5
abbrev sNumbered:Stmt:=top 7
abbrev sSums:Stmt:=top 8
abbrev sSplit:Stmt:=top 9
abbrev sCoarsest:Stmt:=top 10
abbrev sTogether:Stmt:=top 11
abbrev sAlike:Stmt:=top 12
abbrev sLeafs:Stmt:=top 15
abbrev sBough:Stmt:=top 16
abbrev sGrown:Stmt:=top 17
abbrev sRest:Stmt:=top 18
abbrev sKeep:Stmt:=top 19
abbrev sUnlike:Stmt:=top 20
abbrev sCopied:Stmt:=top 21
abbrev sPTree:Stmt:=top 22
abbrev sCellAt:Stmt:=top 24
abbrev sDraws:Stmt:=top 25
abbrev sSquare:Stmt:=top 26
abbrev sWebP:Stmt:=top 27
abbrev sOrder:Stmt:=top 28
abbrev sLift:Stmt:=top 29
abbrev sLRen:Stmt:=top 30
abbrev sTwo:Stmt:=top 31
abbrev sDeep:Stmt:=top 32
abbrev sRow:Stmt:=top 33
abbrev sParts:Stmt:=top 34
abbrev sLaw:Stmt:=top 35
section
variable {K:PySem.W.Frag}
def bodyAt (s:Stmt) (i:Nat):Stmt:=(defBody s).getD i (.Pass ⟨0,0,0,0⟩)
def asgVal (s:Stmt):Expr:=match s with
 | .Assign _ v _=>v
 | .Return (some v) _=>v
 | _=>.Constant .none 0 ⟨0,0,0,0⟩
def lcScope (e:Expr):Scope:=match e with
 | .ListComp _ _ sc _=>sc
 | _=>{ kind:=.function,names:=[],isGenerator:=false,isCoroutine:=false }
def tupAt (e:Expr) (i:Nat):Expr:=match e with
 | .Tuple es _ _=>es.getD i (.Constant .none 0 ⟨0,0,0,0⟩)
 | _=>.Constant .none 0 ⟨0,0,0,0⟩
theorem ix_tupK {K:PySem.W.Frag} {X:Cx} (h:X.K=K:=by rfl):IxR X (rIxT K):=by subst h; exact ix_tup
theorem Same.sq {H H':Hp} {a:Addr} {xs:List V} (e:Same H H') (h:SqL K H a xs):SqL K H' a xs:=(Same.keep (ok:=any) e).seq trivial h
theorem take_snoc {α:Type} {xs:List α} {i:Nat} {x:α} (h:xs[i]? = some x):xs.take (i+1)=xs.take i++[x]:=by
 rw [List.take_succ,h]
 rfl
theorem map_get {α β:Type} {f:α→β} {xs:List α} {i:Nat} {y:β} (h:(xs.map f)[i]? = some y):∃ x,xs[i]? = some x∧y=f x:=by
 rw [List.getElem?_map] at h
 obtain ⟨x,h1,h2⟩:=Option.map_eq_some_iff.mp h
 exact ⟨x,h1,h2.symm⟩
def tMid (t u:TS):TS:=fun D σ H=>∃ J:L2.St→Hp→Prop,t { D with nx:=J } σ H∧∀ σ' H',J σ' H'→u D σ' H'
theorem pss_mid {X:Cx} {st:Stmt} {rest:List Stmt} {t u:TS} (h1:PS X st t) (h2:PSs X rest u):PSs X (st :: rest) (tMid t u):=by
 intro pins s σ H D I h
 obtain ⟨J,h,k⟩:=h
 refine wpAny_execs_cons (thn (h1 pins s σ H { D with nx:=J } I h) fun f s1 q=>?_)
 cases f with
 | next =>
  obtain ⟨σ',H',I',q⟩:=q
  exact h2 pins s1 σ' H' D I' (k σ' H' q)
 | ret v=>exact q
 | brk=>exact q
 | cont=>exact q
def dI (ns:List Int):PyData:=.list (ns.map .int)
theorem lay_ints:∀ ns:List Int,PyData.canLayAll0 (ns.map .int)=true∧PyData.depthAll (ns.map .int)=0
 | []=>⟨rfl,rfl⟩
 | n :: ns=>by
  obtain ⟨h1,h2⟩:=lay_ints ns
  refine ⟨?_,?_⟩
  ·rw [List.map_cons]
   simp only [PyData.canLayAll0,PyData.canLay0,h1,Bool.and_self]
  ·rw [List.map_cons]
   simp only [PyData.depthAll,PyData.depth,h2,Nat.max_self]
theorem lay_dI (ns:List Int):(dI ns).canLay0=true∧(dI ns).depth≤1:=by
 obtain ⟨h1,h2⟩:=lay_ints ns
 unfold dI
 exact ⟨by simp only [PyData.canLay0,h1],by simp only [PyData.depth,h2]; exact Nat.le_refl _⟩
theorem das_ints {ok:Addr→Prop} {H:Hp}:∀ ns:List Int,DAs K ok H (ns.map V.int) (ns.map .int)
 | []=>.nil
 | n :: ns=>.cons (.int n) (das_ints ns)
theorem daI {ok:Addr→Prop} {H:Hp} {a:Addr} {ns:List Int} (n:ok a) (h:SqL K H a (ns.map V.int)):DA K ok H (.ref a) (dI ns):=.lst n h (das_ints ns)
theorem eqv_ints:∀ a b:List Int,PyData.eqvAll (a.map .int) (b.map .int)=decide (a=b)
 | [],[]=>rfl
 | [],b :: bs=>rfl
 | a :: as,[]=>rfl
 | a :: as,b :: bs=>by
  rw [List.map_cons,List.map_cons]
  simp only [PyData.eqvAll,PyData.eqv,eqv_ints as bs]
  by_cases h:a=b
  ·subst h
   by_cases h2:as=bs
   ·subst h2; simp
   ·simp [h2]
  ·simp [h]
theorem eqv_dI (a b:List Int):PyData.eqv (dI a) (dI b)=decide (a=b):=by
 unfold dI
 simp only [PyData.eqv]
 exact eqv_ints a b
end
section
variable {P:Program} {w:World} {K:PySem.W.Frag} {mg:Str→Option Value} {base:Heap}
theorem ix_listK {K:PySem.W.Frag} {X:Cx} (h:X.K=K:=by rfl):IxR X (rIxL K):=by subst h; exact ix_list
theorem at_ref {rs:List Addr} {j:Nat} {r:Addr} (h:rs[j]? = some r):atI (rs.map V.ref) (j:Int)=some (.ref r):=atI_nat (by rw [List.getElem?_map,h]; rfl)
theorem getD_some {α:Type} {xs:List α} {j:Nat} {x d:α} (h:xs[j]? = some x):xs.getD j d=x:=by rw [List.getD_eq_getElem?_getD,h]; rfl
theorem snoc_get {α:Type} {xs:List α} {x y:α} {i:Nat} (h:(xs++[x])[i]? = some y):xs[i]? = some y ∨ (i=xs.length∧y=x):=by
 by_cases hi:i < xs.length
 ·rw [List.getElem?_append_left hi] at h
  exact .inl h
 ·rw [List.getElem?_append_right (by omega)] at h
  cases e:i - xs.length with
  | zero=>rw [e] at h; cases h; exact .inr ⟨by omega,rfl⟩
  | succ j=>rw [e] at h; cases h
theorem get_lt {α:Type} {l:List α} {i:Nat} (h:i < l.length):∃ x,l[i]? = some x:=⟨l[i],List.getElem?_eq_getElem h⟩
theorem lt_get {α:Type} {l:List α} {i:Nat} {x:α} (h:l[i]? = some x):i < l.length:=(List.getElem?_eq_some_iff.mp h).1
theorem cmul_l {x y:Int} (h1:-(2 ^ 64) < x) (h2:x < 2 ^ 64):CMul x y:=.inl ⟨h1,h2⟩
end
section
variable {P:Program} {w:World} {K:PySem.W.Frag} {mg:Str→Option Value} {base:Heap}
structure BltR (mg:Str→Option Value):Prop where
 abs:mg "abs" = none
 len:mg "len" = none
 sum:mg "sum" = none
 zip:mg "zip" = none
 range:mg "range" = none
 enum:mg "enumerate" = none
 isi:mg "isinstance" = none
 verr:mg "ValueError" = none
 int:mg "int" = none
 bool:mg "bool" = none
 list:mg "list" = none
 tuple:mg "tuple" = none
def CMulN (i j:Int):Prop:=∃ n,n≤1000000∧M11.Bn n i∧M11.Bn n j
theorem op_mulN {X:Cx}:OpR X (binaryOp .Mult) (rI CMulN fun i j=>.int (i * j)) :=
 opI fun _ _ _ _ _ _ _ hc q=>mul_int q (by
  obtain ⟨n,h,a,b⟩:=hc
  have e:(2:Nat) ^ 20=1048576:=by decide
  exact IntMulOk.of_bits (Nat.le_trans (bits_le a) (by omega)) (Nat.le_trans (bits_le b) (by omega)))
def TM.dot (w r:List Int):Int:=(List.zipWith (fun a b=>a * b) w r).sum
theorem at_hd (x:V) (xs:List V):atI (x :: xs) 0=some x:=atI_nat (xs:=x :: xs) (j:=0) rfl
theorem lc_vals {a:Addr} {xs:List V} {te:TE} {Q:Hp→Prop} {σ:L2.St} {H1:Hp} {D:Addr} (vs:List V) (hlen:vs.length=xs.length) (hm:xs.length≤900) (hD:H1 D=none) (hxs:SqL K H1 a xs)
  (hs:∀ (i:Nat) (x v:V) (H':Hp),xs[i]? = some x→vs[i]? = some v→Same H1 H'→te (σ++[some x]) H' fun u H3=>u=v∧Same H' H3)
  (hd:∀ H',Same H1 H'→H' D=some (.lst vs)→Q H')
  (mono:∀ σ H Q Q',(∀ v H1,Q v H1→Q' v H1)→te σ H Q→te σ H Q') :
  ∃ W:Nat→Nat→List V→Hp→Prop,(∃ m,W 0 m [] (upd H1 D (.lst []))) ∧
   ∀ i m ys H',W i m ys H'→H' D=some (.lst ys)∧(((Itl K a).stop i H'∧Q H') ∨ ((Itl K a).go i H'∧∀ z H2,(Itl K a).yld i H' z H2→te (σ++[some z]) H2 fun v H3=>H3 D=some (.lst ys)∧ys.length < sizeLine∧∃ m',m' < m∧W (i+1) m' (ys++[v]) (upd H3 D (.lst (ys++[v]))))):=by
 refine lc_list (xs:=xs) (fun i ys H'=>ys=vs.take i∧Same H1 H'∧H' D=some (.lst ys)) ⟨by rw [List.take_zero],Same.upd hD,upd_same⟩ (fun i ys H' _ ⟨_,sm,eD⟩=>⟨Same.sq sm hxs,eD⟩) ?_ ?_ mono
 ·rintro i x ys H4 hx ⟨rfl,s4,eD⟩
  have hi:i < vs.length:=by rw [hlen]; exact (List.getElem?_eq_some_iff.mp hx).1
  have hv:vs[i]? = some vs[i]:=List.getElem?_eq_getElem hi
  refine mono _ _ _ _ ?_ (hs i x vs[i] H4 hx hv s4)
  rintro u H5 ⟨rfl,s5⟩
  refine ⟨s5 _ _ eD,small1000 (by rw [List.length_take]; omega),by rw [take_snoc hv],fun b o e=>?_,upd_same⟩
  rw [upd_ne (ne_of_none e hD)]
  exact s5 _ _ (s4 _ _ e)
 ·rintro ys H4 ⟨rfl,s4,eD⟩
  rw [←hlen,List.take_length] at eD
  exact hd H4 s4 eD
theorem set2 (σ:L2.St) (a b:Option V) (x y:V):((σ++[a,b]).set σ.length (some x)).set (σ.length+1) (some y)=σ++[some x,some y]:=by
 rw [List.set_append_right _ _ (Nat.le_refl _),Nat.sub_self,List.set_append_right _ _ (Nat.le_succ _)]
 have:σ.length+1 - σ.length=1:=by omega
 rw [this]
 rfl
theorem lc_zip {a b:Addr} {xs ys:List V} {te:TE} {Q:VK} {σ:L2.St} {n:Nat} {H1:Hp} (vs:List V) (hn:σ.length=n) (hx:SqL K H1 a xs) (hy:SqL K H1 b ys) (hlx:xs.length=vs.length) (hly:ys.length=vs.length) (hm:vs.length≤900)
  (hs:∀ (i:Nat) (x y v:V) (H':Hp),xs[i]? = some x→ys[i]? = some y→vs[i]? = some v→Same H1 H'→te (σ++[some x,some y]) H' fun u H3=>u=v∧Same H' H3)
  (hd:∀ D H',Same H1 H'→H' D=some (.lst vs)→Q (.ref D) H')
  (mono:∀ σ H Q Q',(∀ v H1,Q v H1→Q' v H1)→te σ H Q→te σ H Q'):LcW 2 (Itz K a b) (g2 K n) tYes te σ H1 Q:=by
 subst hn
 intro D hD
 refine ⟨fun i m zs H'=>m=vs.length - i∧i≤vs.length∧zs=vs.take i∧Same H1 H'∧H' D=some (.lst zs),⟨vs.length,by simp,Nat.zero_le _,by rw [List.take_zero],Same.upd hD,upd_same⟩,?_⟩
 rintro i m zs H2 ⟨rfl,hi,rfl,s2,eD⟩
 refine ⟨eD,?_⟩
 by_cases hlt:i < vs.length
 ·have ex:xs[i]? = some xs[i]:=List.getElem?_eq_getElem (by omega)
  have ey:ys[i]? = some ys[i]:=List.getElem?_eq_getElem (by omega)
  have ev:vs[i]? = some vs[i]:=List.getElem?_eq_getElem hlt
  refine .inr ⟨⟨xs,ys,_,_,Same.sq s2 hx,Same.sq s2 hy,ex,ey⟩,?_⟩
  rintro z H3 ⟨t,x,y,rfl,ht,rfl,hx',hy'⟩ os los
  have hx1:=hx' xs (Same.sq s2 hx)
  have hy1:=hy' ys (Same.sq s2 hy)
  match os,los with
  | [o1,o2],_ =>
   have s3:Same H2 (L2.upd H2 t (.tup [x,y])):=Same.upd ht
   refine ⟨t,[x,y],rfl,SqT.of upd_same,rfl,x,[y],rfl,y,[],rfl,rfl,⟨[some x,some y],set2 σ o1 o2 x y,rfl⟩,?_⟩
   dsimp only [tYes]
   rw [if_pos rfl,set2 σ o1 o2 x y]
   refine mono _ _ _ _ ?_ (hs i x y vs[i] _ hx1 hy1 ev (s2.trans s3))
   rintro u H5 ⟨rfl,s5⟩
   refine ⟨s5 _ _ (s3 _ _ eD),small1000 (by rw [List.length_take]; omega),vs.length - (i+1),by omega,rfl,hlt,by rw [take_snoc ev],fun c o e=>?_,upd_same⟩
   rw [upd_ne (ne_of_none e hD)]
   exact s5 _ _ (s3 _ _ (s2 _ _ e))
 ·have:i=vs.length:=by omega
  subst this
  rw [List.take_length] at eD ⊢
  exact .inl ⟨⟨xs,ys,Same.sq s2 hx,Same.sq s2 hy,.inl (by omega)⟩,hd D H2 s2 eD⟩
end
section
variable {P:Program} {w:World} {K:PySem.W.Frag} {mg:Str→Option Value} {base:Heap}
structure GrdV (H:Hp) (rs:List Addr) (X:List (List V)):Prop where
 len:rs.length=X.length
 row:∀ (i:Nat) (r:Addr) (x:List V),rs[i]? = some r→X[i]? = some x→H r=some (.lst x)
theorem GrdV.mono {H H':Hp} {rs:List Addr} {X:List (List V)} (g:GrdV H rs X) (s:Same H H'):GrdV H' rs X:=⟨g.len,fun i r x h1 h2=>s _ _ (g.row i r x h1 h2)⟩
def GrdAt (H:Hp) (a:Addr) (X:List (List V)):Prop:=∃ rs:List Addr,H a=some (.lst (rs.map V.ref))∧GrdV H rs X
theorem GrdAt.mono {H H':Hp} {a:Addr} {X:List (List V)} (g:GrdAt H a X) (s:Same H H'):GrdAt H' a X:=by
 obtain ⟨rs,h,r⟩:=g
 exact ⟨rs,s _ _ h,r.mono s⟩
end
section
variable {P:Program} {w:World} {K:PySem.W.Frag} {mg:Str→Option Value} {base:Heap}
def gI (M:List (List Int)):List (List V):=M.map fun x=>x.map V.int
theorem gI_get {M:List (List Int)} {i:Nat} {x:List Int} (h:M[i]? = some x):(gI M)[i]? = some (x.map V.int):=by unfold gI; rw [List.getElem?_map,h]; rfl
theorem gI_len (M:List (List Int)):(gI M).length=M.length:=by unfold gI; rw [List.length_map]
open TM in
def spDot:Sp:=fun vs H Q _=>∃ (a b:Addr) (ws rs:List Int) (n:Nat),vs=[.ref a,.ref b]∧H a=some (.lst (ws.map V.int))∧H b=some (.lst (rs.map V.int))∧ws.length=rs.length∧ws.length≤900∧n≤1000000∧(∀ x ∈ ws,M11.Bn n x)∧(∀ x ∈ rs,M11.Bn n x)∧∀ H',Same H H'→Q (.int (dot ws rs)) H'
theorem scDot:FnScope ["numbers","others"] ["numbers","others"] (defScope sDot):=by constructor<;>first|rfl|decide +kernel
def argAt (e:Expr) (i:Nat):Expr:=match e with
 | .Call _ es _ _=>es.getD i (.Constant .none 0 ⟨0,0,0,0⟩)
 | .BinOp _ _ b _=>b
 | _=>.Constant .none 0 ⟨0,0,0,0⟩
theorem lcDot:LcScopes (defScope sDot) ["numbers","others"] (lcScope (argAt (asgVal (bodyAt sDot 0)) 0)) ["number","other"]:=by constructor<;>first|rfl|decide +kernel
theorem boot_sum:bootBuiltins "sum" = some (.builtin "sum"):=by decide +kernel
theorem zip_get {f:Int→Int→Int} {a b:List Int} {i:Nat} {x y:Int} (hx:a[i]? = some x) (hy:b[i]? = some y):(List.zipWith f a b)[i]? = some (f x y):=by
 rw [List.getElem?_zipWith,hx,hy]
theorem ok_dot {f:Addr} {fd:FuncData} (B:BltR mg) (F:Fun K "sum_of_products" "sum_of_products" sDot f fd):FnOk P w K mg base CX0 1 f fd ["numbers","others"] spDot:=by
 refine F.ok scDot (fun vs H Q E h=>?_) (fun cdv A outer s H vs Q E hr h=>?_)
 ·obtain ⟨a,b,ws,rs,n,rfl,_⟩:=h
  rfl
 ·obtain ⟨a,b,ws,rs,n,rfl,ha,hb,hl,hm,hn,hw,hr',q⟩:=h
  refine ⟨_,pss_one (ps_ret (pe_callB (call_sum rfl) (by rfl) B.sum boot_sum (pa_cons (pe_lcs rfl lcDot rfl (pi_zip rfl B.zip (pa_cons (pv 0) (pa_cons (pv 1) pa_nil))) (pg_two rfl lcDot) (fun _ _ _=>pts_nil) (fun _ _ _=>pe_op op_mulN (pv 2) (pv 3))) pa_nil))),?_⟩
  refine ⟨_,rfl,_,rfl,a,b,rfl,⟨_,SqL.of ha⟩,⟨_,SqL.of hb⟩,?_⟩
  refine lc_zip ((List.zipWith (fun x y=>x * y) ws rs).map V.int) rfl (SqL.of ha) (SqL.of hb) (by rw [List.length_map,List.length_map,List.length_zipWith]; omega) (by rw [List.length_map,List.length_map,List.length_zipWith]; omega) (by rw [List.length_map,List.length_zipWith]; omega) ?_ ?_ ?_
  ·intro i x y v H' hx hy hv s'
   obtain ⟨x,ex,rfl⟩:=map_get hx
   obtain ⟨y,ey,rfl⟩:=map_get hy
   obtain ⟨z,ez,rfl⟩:=map_get hv
   rw [zip_get ex ey] at ez
   cases ez
   exact ⟨_,rfl,_,rfl,_,_,rfl,rfl,⟨n,hn,hw x (List.mem_of_getElem? ex),hr' y (List.mem_of_getElem? ey)⟩,rfl,Same.refl _⟩
  ·intro D H' s' eD
   exact ⟨D,_,rfl,SqL.of eD,q H' s'⟩
  ·rintro σ H' Q1 Q2 hq ⟨v,e,v',e',i,j,a1,a2,a3,g⟩
   exact ⟨v,e,v',e',i,j,a1,a2,a3,hq _ _ g⟩
theorem dot_comm:∀ a b:List Int,TM.dot a b=TM.dot b a:=by
 intro a b
 unfold TM.dot
 rw [List.zipWith_comm]
 congr 1
 funext
 simp only [Int.mul_comm]
theorem scEach:FnScope ["numbers","rows"] ["numbers","rows"] (defScope sEach):=by constructor<;>first|rfl|decide +kernel
theorem lcEach:LcScopes (defScope sEach) ["numbers","rows"] (lcScope (asgVal (bodyAt sEach 0))) ["row"]:=by constructor<;>first|rfl|decide +kernel
open TM in
def spEachG:Sp:=fun vs H Q _=>∃ (a l:Addr) (M:List (List Int)) (r:List Int) (n:Nat),vs=[.ref l,.ref a]∧GrdAt H a (gI M)∧H l=some (.lst (r.map V.int))∧M.length≤900∧r.length≤900∧n≤1000000∧(∀ x ∈ M,x.length=r.length∧∀ z ∈ x,M11.Bn n z)∧(∀ x ∈ r,M11.Bn n x) ∧
 ∀ D H',Same H H'→H D=none→H' D=some (.lst ((M.map fun w=>dot w r).map V.int))→Q (.ref D) H'
theorem ok_eachG {f fD:Addr} {fd fdD:FuncData} (F:Fun K "sums_with_each" "sums_with_each" sEach f fd) (DD:Dn K mg "sum_of_products" sDot ["numbers","others"] fD fdD) (GD:FnOk P w K mg base CX0 1 fD fdD ["numbers","others"] spDot):FnOk P w K mg base CX0 2 f fd ["numbers","rows"] spEachG:=by
 refine F.ok scEach (fun vs H Q E h=>?_) (fun cdv A outer s H vs Q E hr h=>?_)
 ·obtain ⟨a,l,M,r,n,rfl,_⟩:=h
  rfl
 ·obtain ⟨a,l,M,r,n,rfl,⟨rs,ha,R⟩,hl,hM,hrl,hn,hw,hr',q⟩:=h
  have lr:rs.length=M.length:=by rw [R.len,gI_len]
  refine ⟨_,pss_one (ps_ret (pe_lc1 rfl lcEach rfl (pi_list (pv 1)) (fun _ _ _=>pe_fn DD GD hr rfl (pa_cons (pv 0) (pa_cons (pv 2) pa_nil))))),?_⟩
  refine ⟨_,rfl,a,rfl,⟨_,SqL.of ha⟩,fun D hD=>?_⟩
  refine lc_vals ((M.map fun w=>TM.dot w r).map V.int) (by rw [List.length_map,List.length_map,List.length_map,lr]) (by rw [List.length_map,lr]; omega) hD (SqL.of ha) ?_ ?_ ?_
  ·intro i x v H' hx hv s'
   obtain ⟨ra,hra,rfl⟩:=map_get hx
   obtain ⟨z,hz,rfl⟩:=map_get hv
   obtain ⟨row,hrow,rfl⟩:=map_get hz
   have er:=R.row i ra _ hra (gI_get hrow)
   obtain ⟨w1,w2⟩:=hw row (List.mem_of_getElem? hrow)
   rw [dot_comm row r]
   exact ⟨_,rfl,_,rfl,l,ra,r,row,n,rfl,s' _ _ hl,s' _ _ er,w1.symm,hrl,hn,hr',w2,fun H3 s3=>⟨rfl,s3⟩⟩
  ·intro H' s' eD
   exact q D H' s' hD eD
  ·rintro σ H' Q1 Q2 hq ⟨v,e,v',e',a1,a2,a3,a4,a5,a6,a7,a8,a9,a10,a11,a12,a13,g⟩
   exact ⟨v,e,v',e',a1,a2,a3,a4,a5,a6,a7,a8,a9,a10,a11,a12,a13,fun H3 s3=>hq _ _ (g H3 s3)⟩
end
section
variable {K:PySem.W.Frag}
end
section
variable {P:Program} {w:World} {K:PySem.W.Frag} {mg:Str→Option Value} {base:Heap}
structure BltL (mg:Str→Option Value):Prop where
 len:mg "len" = none
 range:mg "range" = none
 int:mg "int" = none
 sorted:mg "sorted" = none
 enum:mg "enumerate" = none
 sum:mg "sum" = none
 zip:mg "zip" = none
 list:mg "list" = none
 isi:mg "isinstance" = none
 bool:mg "bool" = none
 max:mg "max" = none
def cellV (ns:List Int) (z:Int):Int:=(ns[z.toNat]?).getD 0
def spCell (K:PySem.W.Frag):Sp:=fun vs H Q _=>∃ (a:Addr) (ns:List Int) (z:Int),vs=[.ref a,.int z]∧SqL K H a (ns.map V.int)∧0≤z∧∀ x,x=cellV ns z→Q (.int x) H
theorem scCell:FnScope ["_law_script","_law_k"] ["_law_script","_law_k"] (defScope sCellAt):=by constructor<;>first|rfl|decide +kernel
theorem ok_cell {f:Addr} {fd:FuncData} (B:BltL mg) (F:Fun K "_law_cell_at" "_law_cell_at" sCellAt f fd):FnOk P w K mg base CX0 1 f fd ["_law_script","_law_k"] (spCell K):=by
 refine F.ok scCell (fun vs H Q E h=>?_) (fun cdv A outer s H vs Q E hr h=>?_)
 ·obtain ⟨a,ns,k,rfl,_⟩:=h
  rfl
 ·obtain ⟨a,ns,z,rfl,hS,h0,k⟩:=h
  refine ⟨_,pss_cons (ps_if (pt_cmpR op_lt (pv 1) (pe_callB call_len_seq (by rfl) B.len PySem.boot_len (pa_cons (pv 0) pa_nil)) (nomark _)) (pss_one (ps_ret (pe_ix ix_list (pv 0) (pv 1) (fun _ _=>rfl)))) pss_nil)
   (pss_one (ps_ret pe_int)),?_⟩
  refine ⟨_,rfl,_,rfl,a,_,rfl,.inl hS,_,_,rfl,rfl,_,rfl,?_⟩
  by_cases hz:z < ((ns.map V.int).length:Int)
  ·refine itDP hz ?_
   obtain ⟨j,rfl⟩:=Int.eq_ofNat_of_zero_le h0
   have hj:j < ns.length:=by rw [List.length_map] at hz; omega
   refine ⟨_,rfl,_,rfl,a,_,_,.int ns[j],rfl,rfl,hS,atI_nat (by simp [hj]),k _ (by unfold cellV; rw [Int.toNat_natCast,List.getElem?_eq_getElem hj]; rfl)⟩
  ·refine itDN hz (k _ ?_)
   unfold cellV
   rw [List.length_map] at hz
   rw [List.getElem?_eq_none (by omega)]
   rfl
def Drawn (b:Int) (n:Nat) (ds:List Int):Prop:=ds.length=n∧∀ d ∈ ds,0≤d∧d < b
def spDraws:Sp:=fun vs H Q _=>∃ (c:Int) (n:Nat) (b:Int) (fr:Bool),vs=[.int c,.int (n:Int),.int b,.bl fr]∧n≤100∧b < 10000∧(0 < b ∨ n=0)∧∀ p ds H',Drawn b n ds→Same H H'→H p=none→H' p=some (.lst (ds.map V.int))→Q (.ref p) H'
abbrev nDraws:List Str:=["_law_cell","_law_many","_law_base","_law_free","_law_found","_law_rest","_law_k","_law_number"]
theorem scDraws:FnScope nDraws ["_law_cell","_law_many","_law_base","_law_free"] (defScope sDraws):=by constructor<;>first|rfl|decide +kernel
theorem ok_draws {f:Addr} {fd:FuncData} (B:BltL mg) (F:Fun K "_law_draws" "_law_draws" sDraws f fd):FnOk P w K mg base CX0 1 f fd ["_law_cell","_law_many","_law_base","_law_free"] spDraws:=by
 refine F.ok scDraws (fun vs H Q E h=>?_) (fun cdv A outer s H vs Q E hr h=>?_)
 ·obtain ⟨c,n,b,fr,rfl,_⟩:=h
  rfl
 ·obtain ⟨c,n,b,fr,rfl,hn,hb1,hb0,q⟩:=h
  refine ⟨_,pss_cons (ps_set (i:=4) scDraws.nd rfl (Or.inl rfl) (pe_lst pa_nil))
   (pss_cons (ps_set (i:=5) scDraws.nd rfl (Or.inl rfl) (pv 0))
   (pss_cons (ps_for PassesOwn.never rfl (pi_range1 rfl B.range (pa_cons (pv 1) pa_nil)) (pg_name (i:=6) scDraws.nd rfl (Or.inl rfl))
    (pss_one (ps_if (PW.pt (pw_and (pt_val (pv 3)) (pw_and (pt_cmpR op_ne (pv 5) pe_int (nomark _)) (pw_and1 (pt_cmpR op_ne (pv 5) (pe_un un_neg pe_int) (nomark _))))))
     (pss_cons (ps_expr (pe_bm PySem.F.plainAttrs_list PySem.F.slot_list_append PySem.F.type_list_append mt_append (pv 4) (pa_cons (pe_op op_mod (pv 5) (pv 2)) pa_nil)))
     (pss_one (ps_set (i:=5) scDraws.nd rfl (Or.inl rfl) (pe_op op_fdiv (pv 5) (pv 2)))))
     (pss_cons (ps_set (i:=7) scDraws.nd rfl (Or.inl rfl) (pe_op op_mod (pe_op op_add (pv 0) (pe_op op_mul pe_int (pv 6))) pe_int))
     (pss_cons (ps_set (i:=7) scDraws.nd rfl (Or.inl rfl) (pe_op op_mod (pe_op op_add (pe_op op_mul (pv 7) (pv 7)) (pv 6)) pe_int))
     (pss_one (ps_expr (pe_bm PySem.F.plainAttrs_list PySem.F.slot_list_append PySem.F.type_list_append mt_append (pv 4) (pa_cons (pe_op op_mod (pe_op op_mod (pe_op op_mul (pv 7) (pv 7)) pe_int) (pv 2)) pa_nil)))))))))
   (pss_one (ps_ret (pv 4))))),?_⟩
  refine ⟨Nat.zero_le _,fun R hR=>?_⟩
  refine ⟨_,rfl,?_⟩
  refine ⟨_,rfl,(n:Int),rfl,by omega,by omega,for_range (n:=n) (fun i σ H'=>∃ (rest:Int) (o6 o7:Option V) (ds:List Int),σ=[some (.int c),some (.int (n:Int)),some (.int b),some (.bl fr),some (.ref R),some (.int rest),o6,o7]∧Same H H'∧H' R=some (.lst (ds.map V.int))∧Drawn b i ds) ?_ ?_ ?_⟩
  ·exact ⟨c,none,none,[],rfl,Same.upd hR,upd_same,rfl,fun d hd=>by cases hd⟩
  ·rintro i σ H' hi ⟨rest,o6,o7,ds,rfl,s1,eR,lD,bD⟩
   have hb:0 < b:=hb0.resolve_right (by omega)
   have app:∀ x:Int,0≤x→x < b→Same H (upd H' R (.lst (ds.map V.int++[.int x])))∧upd H' R (.lst (ds.map V.int++[.int x])) R=some (.lst ((ds++[x]).map V.int))∧Drawn b (i+1) (ds++[x]):=by
    intro x h1 h2
    refine ⟨fun b' o e=>by rw [upd_ne (ne_of_none e hR)]; exact s1 _ _ e,by rw [upd_same,List.map_append]; rfl,by rw [List.length_append,List.length_singleton,lD],fun d hd=>?_⟩
    rcases List.mem_append.mp hd with q' | q'
    ·exact bD d q'
    ·rw [List.mem_singleton] at q'
     subst q'
     exact ⟨h1,h2⟩
   have sm:(ds.map V.int).length < sizeLine:=small1000 (by rw [List.length_map,lD]; omega)
   have z0:(0:Int)≤0+(i:Int):=by omega
   have z1:(0:Int)+(i:Int) < 100:=by omega
   by_cases ht:fr=true∧rest≠0∧rest≠-1
   ·obtain ⟨rfl,hr0,hr1⟩:=ht
    refine ⟨_,rfl,_,rfl,iteT ?_⟩
    refine ⟨_,rfl,rfl,_,rfl,iteNP (fun z=>hr0 (V.int.inj z)) ?_⟩
    refine ⟨_,rfl,_,rfl,rfl,_,rfl,iteNP (fun z=>hr1 (V.int.inj z)) ?_⟩
    obtain ⟨g1,g2,g3⟩:=app (rest % b) (Int.emod_nonneg _ (by omega)) (Int.emod_lt_of_pos _ hb)
    refine ⟨_,rfl,.inl ⟨rfl,_,SqL.of eR⟩,_,rfl,_,rfl,_,_,rfl,rfl,hb,R,_,_,rfl,rfl,eR,sm,?_⟩
    refine ⟨_,rfl,_,rfl,_,_,rfl,rfl,⟨hb,by omega⟩,?_⟩
    exact ⟨_,_,_,_,rfl,g1,g2,g3⟩
   ·have test:∀ k:Bool→Hp→Prop,k false H'→tAnd (tB (tVar 3)) (tAnd (tTest (tOp rNe (tVar 5) (tC (.int 0)))) (tTest (tOp rNe (tVar 5) (tUn (rU fun i=>V.int (-i)) (tC (.int 1)))))) [some (.int c),some (.int (n:Int)),some (.int b),some (.bl fr),some (.ref R),some (.int rest),some (.int (0+(i:Int))),o7] H' k:=by
     intro k hk
     cases fr with
     | false=>exact ⟨_,rfl,_,rfl,iteF hk⟩
     | true =>
      refine ⟨_,rfl,_,rfl,iteT ?_⟩
      by_cases hr0:rest=0
      ·exact ⟨_,rfl,rfl,_,rfl,iteNS (by rw [hr0]) hk⟩
      ·refine ⟨_,rfl,rfl,_,rfl,iteNP (fun z=>hr0 (V.int.inj z)) ?_⟩
       have hr1:rest=-1:=Classical.byContradiction fun z=>ht ⟨rfl,hr0,z⟩
       subst hr1
       exact ⟨_,rfl,_,rfl,rfl,_,rfl,hk⟩
    refine test _ (iteF ?_)
    refine ⟨_,rfl,_,rfl,_,_,rfl,rfl,cmul_l (by decide) (by decide),_,_,rfl,rfl,_,_,rfl,rfl,(by show (0:Int) < 2147483629; decide),?_⟩
    have b1:=Int.emod_nonneg (c+7919 * (0+(i:Int))) (b:=2147483629) (by decide)
    have b2:=Int.emod_lt_of_pos (c+7919 * (0+(i:Int))) (b:=2147483629) (by decide)
    obtain ⟨x,ex⟩:∃ x,x=(c+7919 * (0+(i:Int))) % 2147483629:=⟨_,rfl⟩
    rw [←ex] at b1 b2
    refine ⟨_,rfl,_,rfl,_,_,rfl,rfl,cmul_l (by show _ < (c+7919 * (0+(i:Int))) % 2147483629; rw [←ex]; omega) (by show (c+7919 * (0+(i:Int))) % 2147483629 < _; rw [←ex]; omega),_,rfl,_,_,rfl,rfl,_,_,rfl,rfl,(by show (0:Int) < 2147483629; decide),?_⟩
    have c1:=Int.emod_nonneg (x * x+(0+(i:Int))) (b:=2147483629) (by decide)
    have c2:=Int.emod_lt_of_pos (x * x+(0+(i:Int))) (b:=2147483629) (by decide)
    obtain ⟨y,ey⟩:∃ y,y=(x * x+(0+(i:Int))) % 2147483629:=⟨_,rfl⟩
    rw [←ey] at c1 c2
    rw [ex] at ey
    obtain ⟨g1,g2,g3⟩:=app (y * y % 2147483587 % b) (Int.emod_nonneg _ (by omega)) (Int.emod_lt_of_pos _ hb)
    refine ⟨_,rfl,.inl ⟨rfl,_,SqL.of eR⟩,_,rfl,_,rfl,_,_,rfl,rfl,cmul_l (by rw [←ey]; omega) (by rw [←ey]; omega),_,_,rfl,rfl,(by show (0:Int) < 2147483587; decide),_,rfl,_,_,rfl,rfl,hb,R,_,_,rfl,rfl,eR,sm,?_⟩
    rw [ey] at g1 g2 g3
    exact ⟨_,_,_,_,rfl,g1,g2,g3⟩
  ·rintro σ H' ⟨rest,o6,o7,ds,rfl,s1,eR,dD⟩
   exact ⟨_,rfl,q R ds H' dD s1 hR eR⟩
end
section
variable {P:Program} {w:World} {K:PySem.W.Frag} {mg:Str→Option Value} {base:Heap}
def wMax:Nat:=10 ^ 21
structure RowsAt (H:Hp) (rs:List Addr) (M:List (List Int)):Prop where
 len:rs.length=M.length
 row:∀ (i:Nat) (r:Addr) (x:List Int),rs[i]? = some r→M[i]? = some x→H r=some (.lst (x.map V.int))
 nd:rs.Nodup
def ent (M:List (List Int)) (i j:Nat):Int:=((M[i]?.getD [])[j]?).getD 0
structure Sq (n:Nat) (M:List (List Int)):Prop where
 len:M.length=n
 row:∀ (i:Nat) (x:List Int),M[i]? = some x→x.length=n∧∀ z ∈ x,z.natAbs≤wMax
 sym:∀ i j:Nat,i < n→j < n→ent M i j=ent M j i
def put (M:List (List Int)) (i j:Nat) (z:Int):List (List Int):=M.set i ((M[i]?.getD []).set j z)
theorem ent_put (M:List (List Int)) (n i j a b:Nat) (z:Int) (hl:M.length=n) (hr:∀ (i:Nat) (x:List Int),M[i]? = some x→x.length=n) (hi:i < n) (hj:j < n):ent (put M i j z) a b=if a=i∧b=j then z else ent M a b:=by
 unfold ent put
 by_cases ha:a=i
 ·subst ha
  rw [List.getElem?_set_self (by omega)]
  have hx:∃ x,M[a]? = some x:=⟨M[a]'(by omega),by simp [hl,hi]⟩
  obtain ⟨x,hx⟩:=hx
  have lx:=hr a x hx
  rw [hx]
  simp only [Option.getD_some]
  by_cases hb:b=j
  ·subst hb
   rw [List.getElem?_set_self (by omega)]
   simp
  ·rw [List.getElem?_set_ne (Ne.symm hb),if_neg (fun z=>hb z.2)]
 ·rw [List.getElem?_set_ne (Ne.symm ha),if_neg (fun z=>ha z.1)]
theorem put_row {M:List (List Int)} {n i j:Nat} {z:Int} (hl:M.length=n) (hz:z.natAbs≤wMax) (hr:∀ (i:Nat) (x:List Int),M[i]? = some x→x.length=n∧∀ z ∈ x,z.natAbs≤wMax) :
  (put M i j z).length=n∧∀ (k:Nat) (x:List Int),(put M i j z)[k]? = some x→x.length=n∧∀ z ∈ x,z.natAbs≤wMax:=by
 unfold put
 refine ⟨by rw [List.length_set]; exact hl,fun k x hx=>?_⟩
 by_cases hk:k=i
 ·subst hk
  by_cases hlt:k < M.length
  ·rw [List.getElem?_set_self hlt] at hx
   have hx:=Option.some.inj hx
   have hy:M[k]? = some M[k]:=by simp [hlt]
   have hh:=hr k _ hy
   subst hx
   rw [hy]
   simp only [Option.getD_some,List.length_set]
   refine ⟨hh.1,fun y hy'=>?_⟩
   rcases List.mem_or_eq_of_mem_set hy' with q | q
   ·exact hh.2 y q
   ·rw [q]; exact hz
  ·rw [List.getElem?_eq_none (by rw [List.length_set]; omega)] at hx
   cases hx
 ·rw [List.getElem?_set_ne (Ne.symm hk)] at hx
  exact hr k x hx
theorem Sq.put {n:Nat} {M:List (List Int)} (S:Sq n M) {i j:Nat} {z:Int} (hi:i < n) (hj:j < n) (hz:z.natAbs≤wMax):Sq n (put (put M i j z) j i z):=by
 obtain ⟨l1,r1⟩:=put_row (i:=i) (j:=j) S.len hz S.row
 obtain ⟨l2,r2⟩:=put_row (i:=j) (j:=i) l1 hz r1
 refine ⟨l2,r2,fun a b ha hb=>?_⟩
 have hr:=fun (i:Nat) (x:List Int) h=>(S.row i x h).1
 have hr1:=fun (k:Nat) (x:List Int) h=>(r1 k x h).1
 rw [ent_put _ n j i a b z l1 hr1 hj hi,ent_put _ n j i b a z l1 hr1 hj hi,ent_put _ n i j a b z S.len hr hi hj,ent_put _ n i j b a z S.len hr hi hj]
 have:=S.sym a b ha hb
 by_cases h1:a=j∧b=i
 ·rw [if_pos h1]
  by_cases h2:b=j∧a=i
  ·rw [if_pos h2]
  ·rw [if_neg h2,if_pos ⟨h1.2,h1.1⟩]
 ·rw [if_neg h1]
  by_cases h2:a=i∧b=j
  ·rw [if_pos h2,if_pos ⟨h2.2,h2.1⟩]
  ·rw [if_neg h2,if_neg (fun q=>h2 ⟨q.2,q.1⟩),if_neg (fun q=>h1 ⟨q.2,q.1⟩)]
   exact this
theorem RowsAt.put {H:Hp} {rs:List Addr} {M:List (List Int)} (R:RowsAt H rs M) {i:Nat} {r:Addr} {x:List Int} {j:Nat} {z:Int} (hr:rs[i]? = some r) (hx:M[i]? = some x) :
  RowsAt (upd H r (.lst ((x.set j z).map V.int))) rs (put M i j z):=by
 unfold My.put
 refine ⟨by rw [List.length_set]; exact R.len,fun k r' x' h1 h2=>?_,R.nd⟩
 by_cases hk:k=i
 ·subst hk
  rw [hr] at h1; cases h1
  rw [List.getElem?_set_self (List.getElem?_eq_some_iff.mp hx).1,hx] at h2
  cases h2
  exact upd_same
 ·rw [List.getElem?_set_ne (Ne.symm hk)] at h2
  have ne:r'≠r:=fun e=>by
   subst e
   obtain ⟨p1,q1⟩:=List.getElem?_eq_some_iff.mp h1
   obtain ⟨p2,q2⟩:=List.getElem?_eq_some_iff.mp hr
   exact hk ((List.getElem_inj R.nd).mp (q1.trans q2.symm))
  rw [upd_ne ne]
  exact R.row k r' x' h1 h2
theorem RowsAt.keep {H H':Hp} {rs:List Addr} {M:List (List Int)} (R:RowsAt H rs M) (k:∀ r ∈ rs,∀ o,H r=some o→H' r=some o):RowsAt H' rs M :=
 ⟨R.len,fun i r x h1 h2=>k r (List.mem_of_getElem? h1) _ (R.row i r x h1 h2),R.nd⟩
theorem RowsAt.snoc {H H':Hp} {rs:List Addr} {M:List (List Int)} {l:Addr} {x:List Int} (R:RowsAt H rs M) (k:∀ r ∈ rs,∀ o,H r=some o→H' r=some o) (hl:H' l=some (.lst (x.map V.int))) (hn:l ∉ rs):RowsAt H' (rs++[l]) (M++[x]):=by
 refine ⟨by rw [List.length_append,List.length_append,R.len]; rfl,fun i r y h1 h2=>?_,?_⟩
 ·by_cases hi:i < rs.length
  ·rw [List.getElem?_append_left hi] at h1
   rw [List.getElem?_append_left (by rw [←R.len]; exact hi)] at h2
   exact k r (List.mem_of_getElem? h1) _ (R.row i r y h1 h2)
  ·rw [List.getElem?_append_right (by omega)] at h1
   rw [List.getElem?_append_right (by rw [←R.len]; omega),←R.len] at h2
   cases e:i - rs.length with
   | zero=>rw [e] at h1 h2; cases h1; cases h2; exact hl
   | succ j=>rw [e] at h1; cases h1
 ·rw [List.nodup_append]
  refine ⟨R.nd,by simp,fun a ha b hb e=>?_⟩
  rw [List.mem_singleton.mp hb] at e
  exact hn (e ▸ ha)
theorem RowsAt.get {H:Hp} {rs:List Addr} {M:List (List Int)} (R:RowsAt H rs M) {i:Nat} (h:i < rs.length):∃ r x,rs[i]? = some r∧M[i]? = some x∧H r=some (.lst (x.map V.int)):=by
 have h1:rs[i]? = some rs[i]:=by simp [h]
 have h':i < M.length:=by rw [←R.len]; exact h
 have h2:M[i]? = some M[i]:=by simp [h']
 exact ⟨_,_,h1,h2,R.row i _ _ h1 h2⟩
theorem ixN_nat {n j:Nat} (h:j < n):ixN n (j:Int)=some j:=by
 unfold ixN
 rw [if_pos (by omega),if_pos (by omega)]
 simp
theorem zeros_map (k:Nat):(List.replicate k [V.int 0]).flatten=(List.replicate k (0:Int)).map V.int:=by
 induction k with
 | zero=>rfl
 | succ k ih=>rw [List.replicate_succ,List.flatten_cons,ih,List.replicate_succ,List.map_cons]; rfl
theorem sq_zero (n:Nat):Sq n (List.replicate n (List.replicate n 0)):=by
 refine ⟨List.length_replicate,fun i x hx=>?_,fun i j hi hj=>?_⟩
 ·rw [List.getElem?_replicate] at hx
  split at hx
  ·cases hx
   refine ⟨List.length_replicate,fun z hz=>?_⟩
   rw [List.eq_of_mem_replicate hz]
   exact Nat.zero_le _
  ·cases hx
 ·unfold ent
  rw [List.getElem?_replicate,List.getElem?_replicate,if_pos hi,if_pos hj]
  simp only [Option.getD_some,List.getElem?_replicate,if_pos hi,if_pos hj]
def triAt (n u:Nat):Nat:=u * (2 * n+1 - u) / 2
theorem tri_step:∀ n,n < 9→∀ u,u < n→triAt n u+(n - u)=triAt n (u+1)∧triAt n u+(n - u)≤n * (n+1) / 2:=by decide
def spSquare (K:PySem.W.Frag):Sp:=fun vs H Q _=>∃ (n:Nat) (d:Addr) (y:Int) (ds:List Int),vs=[.int (n:Int),.ref d,.int y]∧n≤8∧SqL K H d (ds.map V.int)∧Drawn 210 (n * (n+1) / 2) ds ∧
 ∀ (p:Addr) (rs:List Addr) (M:List (List Int)) (H':Hp),Same H H'→H p=none→(∀ r ∈ rs,H r=none∧r≠p)→H' p=some (.lst (rs.map V.ref))→RowsAt H' rs M→Sq n M→Q (.ref p) H'
abbrev nSquare:List Str:=["_law_many","_law_draws_here","_law_way","_law_rows","_law_u","_law_at","_law_v","_law_weight"]
theorem scSquare:FnScope nSquare ["_law_many","_law_draws_here","_law_way"] (defScope sSquare):=by constructor<;>first|rfl|decide +kernel
theorem pw20:(10:Int) ^ (20:Int).toNat=100000000000000000000:=by decide
theorem ok_square {f:Addr} {fd:FuncData} (B:BltL mg) (F:Fun K "_law_square" "_law_square" sSquare f fd):FnOk P w K mg base CX0 1 f fd ["_law_many","_law_draws_here","_law_way"] (spSquare K):=by
 refine F.ok scSquare (fun vs H Q E h=>?_) (fun cdv A outer s H vs Q E hr h=>?_)
 ·obtain ⟨n,d,y,ds,rfl,_⟩:=h
  rfl
 ·obtain ⟨k,d,y,ds,rfl,hk,hS,⟨lD,bD⟩,q⟩:=h
  refine ⟨_,pss_cons (ps_set (i:=3) scSquare.nd rfl (Or.inl rfl) (pe_lst pa_nil))
   (pss_cons (ps_for PassesOwn.never rfl (pi_range1 rfl B.range (pa_cons (pv 0) pa_nil)) (pg_name (i:=4) scSquare.nd rfl (Or.inl rfl))
    (pss_one (ps_expr (pe_bm PySem.F.plainAttrs_list PySem.F.slot_list_append PySem.F.type_list_append mt_append (pv 3) (pa_cons (pe_op op_rep (pe_lst (pa_cons pe_int pa_nil)) (pv 0)) pa_nil)))))
   (pss_cons (ps_set (i:=5) scSquare.nd rfl (Or.inl rfl) pe_int)
   (pss_cons (ps_for PassesOwn.never rfl (pi_range1 rfl B.range (pa_cons (pv 0) pa_nil)) (pg_name (i:=4) scSquare.nd rfl (Or.inl rfl))
    (pss_one (ps_for PassesOwn.never rfl (pi_range2 rfl B.range (pa_cons (pv 4) (pa_cons (pv 0) pa_nil))) (pg_name (i:=6) scSquare.nd rfl (Or.inl rfl))
     (pss_cons (ps_set (i:=7) scSquare.nd rfl (Or.inl rfl) (pe_op op_mul (pe_op op_mod (pe_ix ix_list (pv 1) (pv 5) (fun _ _=>rfl)) pe_int) (pe_callTy call_int1 (by rfl) B.int boot_int (pa_cons (pe_cmpR op_lt (pv 4) (pv 6) (nomark _)) pa_nil))))
     (pss_mid (ps_if (pt_cmpR op_eq (pv 2) pe_int (nomark _)) (pss_one (ps_set (i:=7) scSquare.nd rfl (Or.inl rfl) (pe_op op_sub (pe_op op_mod (pe_ix ix_list (pv 1) (pv 5) (fun _ _=>rfl)) pe_int) pe_int))) pss_nil)
     (pss_mid (ps_if (pt_cmpR op_eq (pv 2) pe_int (nomark _)) (pss_one (ps_set (i:=7) scSquare.nd rfl (Or.inl rfl) (pe_op op_add (pe_op op_mul (pe_op op_sub (pe_op op_mod (pe_ix ix_list (pv 1) (pv 5) (fun _ _=>rfl)) pe_int) pe_int) (pe_op op_pow pe_int pe_int)) (pe_op op_mod (pe_ix ix_list (pv 1) (pv 5) (fun _ _=>rfl)) pe_int)))) pss_nil)
     (pss_cons (ps_asg (pv 7) (pg_sub (pe_ix ix_list (pv 3) (pv 4) (fun _ _=>rfl)) (pv 6) set_list))
     (pss_cons (ps_asg (pv 7) (pg_sub (pe_ix ix_list (pv 3) (pv 6) (fun _ _=>rfl)) (pv 4) set_list))
     (pss_one (ps_set (i:=5) scSquare.nd rfl (Or.inl rfl) (pe_op op_add (pv 5) pe_int)))))))))))
   (pss_one (ps_ret (pv 3)))))),?_⟩
  refine ⟨Nat.zero_le _,fun D hD=>?_⟩
  refine ⟨_,rfl,(k:Int),rfl,by omega,by omega,for_range (n:=k) (fun i σ H'=>∃ (o4:Option V) (rs:List Addr),σ=[some (.int (k:Int)),some (.ref d),some (.int y),some (.ref D),o4,none,none,none]∧rs.length=i∧Same H H'∧H' D=some (.lst (rs.map V.ref)) ∧
   RowsAt H' rs (List.replicate i (List.replicate k 0))∧∀ r ∈ rs,H r=none∧r≠D) ⟨none,[],rfl,rfl,Same.upd hD,upd_same,⟨rfl,(fun i r x h _=>by cases h),List.nodup_nil⟩,(fun r hr=>by cases hr)⟩ ?_ ?_⟩
  ·rintro i σ H4 hlt ⟨o4,rs,rfl,l4,c4,eD,R4,o4⟩
   refine ⟨_,rfl,.inl ⟨rfl,_,SqL.of eD⟩,(by show 1≤sizeLine; decide),fun l1 hl1=>?_⟩
   refine ⟨_,rfl,l1,(k:Int),_,rfl,rfl,upd_same,by omega,by omega,Nat.le_of_lt (small1000 (by show 1 * (k:Int).toNat≤1000; omega)),fun l2 hl2=>?_⟩
   have n21:l2≠l1:=(ne_of_none upd_same hl2).symm
   have hl2':H4 l2=none:=by rw [upd_ne n21] at hl2; exact hl2
   have sm:Same H4 (upd (upd H4 l1 (.lst [.int 0])) l2 (.lst (List.replicate (k:Int).toNat [V.int 0]).flatten)):=(Same.upd hl1).trans (Same.upd hl2)
   have el:upd (upd H4 l1 (.lst [.int 0])) l2 (.lst (List.replicate (k:Int).toNat [V.int 0]).flatten) l2=some (.lst ((List.replicate k (0:Int)).map V.int)):=by
    rw [upd_same,Int.toNat_natCast,zeros_map]
   generalize upd (upd H4 l1 (.lst [.int 0])) l2 (.lst (List.replicate (k:Int).toNat [V.int 0]).flatten)=H5 at sm el ⊢
   have l2D:l2≠D:=(ne_of_none eD hl2').symm
   have l2r:l2 ∉ rs:=fun hm=>by
    obtain ⟨j,hj,e⟩:=List.getElem_of_mem hm
    obtain ⟨r,x,g1,g2,g3⟩:=R4.get hj
    have:rs[j]? = some l2:=by rw [List.getElem?_eq_getElem hj,e]
    rw [g1] at this
    cases this
    rw [g3] at hl2'
    cases hl2'
   refine ⟨D,_,_,rfl,rfl,sm _ _ eD,small1000 (by rw [List.length_map]; omega),?_⟩
   refine ⟨_,rs++[l2],rfl,by rw [List.length_append,l4]; rfl,fun b o e=>?_,by rw [List.map_append]; exact upd_same,?_,?_⟩
   ·rw [upd_ne (ne_of_none e hD)]
    exact sm _ _ (c4 _ _ e)
   ·have R5:RowsAt H5 (rs++[l2]) (List.replicate i (List.replicate k 0)++[List.replicate k 0]):=R4.snoc (fun r _ o e=>sm r o e) el l2r
    rw [←List.replicate_succ'] at R5
    refine R5.keep fun r hr o e=>?_
    have:r≠D:=by
     rcases List.mem_append.mp hr with z | z
     ·exact (o4 r z).2
     ·rw [List.mem_singleton.mp z]; exact l2D
    rw [upd_ne this]
    exact e
   ·intro r hr
    rcases List.mem_append.mp hr with z | z
    ·exact o4 r z
    ·rw [List.mem_singleton.mp z]
     exact ⟨c4.free hl2',l2D⟩
  ·rintro σ H4 ⟨o4,rs,rfl,l4,c4,eD,R4,o4⟩
   refine ⟨_,rfl,(k:Int),rfl,by omega,by omega,for_range (n:=k) (fun u σ H'=>∃ (o4 o6 o7:Option V) (M:List (List Int)),σ=[some (.int (k:Int)),some (.ref d),some (.int y),some (.ref D),o4,some (.int (triAt k u:Nat)),o6,o7]∧Same H H'∧H' D=some (.lst (rs.map V.ref)) ∧
    RowsAt H' rs M∧Sq k M) ⟨_,_,_,_,by rw [show triAt k 0=0 by simp [triAt]]; rfl,c4,eD,R4,sq_zero k⟩ ?_ ?_⟩
   ·rintro u σ H5 hu ⟨o4',o6,o7,M,rfl,c5,eD5,R5,S5⟩
    obtain ⟨tr1,tr2⟩:=tri_step k (by omega) u hu
    refine ⟨_,rfl,_,rfl,(0+(u:Nat):Int),(k:Int),rfl,⟨by omega,by omega,by omega,by omega⟩,?_⟩
    have eu:((k:Int) - (0+(u:Nat):Int)).toNat=k - u:=by omega
    rw [eu]
    refine for_range (lo:=(0+(u:Nat):Int)) (n:=k - u) (fun v σ H'=>∃ (o6 o7:Option V) (M:List (List Int)),σ=[some (.int (k:Int)),some (.ref d),some (.int y),some (.ref D),some (.int (0+(u:Nat):Int)),some (.int ((triAt k u+v:Nat):Int)),o6,o7]∧Same H H'∧H' D=some (.lst (rs.map V.ref)) ∧
     RowsAt H' rs M∧Sq k M) ⟨_,_,M,rfl,c5,eD5,R5,S5⟩ ?_ ?_
    ·rintro v σ H6 hv ⟨o6,o7,M,rfl,c6,eD6,R6,S6⟩
     have lat:triAt k u+v < ds.length:=by rw [lD]; omega
     have hat:atI (ds.map V.int) ((triAt k u+v:Nat):Int)=some (.int (ds[triAt k u+v]'lat)):=atI_nat (by rw [List.getElem?_map,List.getElem?_eq_getElem lat]; rfl)
     obtain ⟨d0,d1⟩:=bD _ (List.getElem_mem lat)
     generalize ds[triAt k u+v]'lat=x at hat d0 d1
     have hS6:=c6.seq hS
     refine ⟨_,rfl,_,rfl,d,_,_,_,rfl,rfl,hS6,hat,_,_,rfl,rfl,(by show (0:Int) < 2; decide),_,rfl,_,rfl,_,_,rfl,rfl,?_⟩
     have wm:wMax=1000000000000000000000:=by decide
     have hu':∀ b:Bool,(x % 2 * (if b=true then 1 else 0)).natAbs≤wMax:=by
      intro b
      rw [wm]
      cases b
      ·rw [if_neg (by decide)]; omega
      ·rw [if_pos rfl]; omega
     refine .inr ⟨_,rfl,_,_,rfl,rfl,cmul_l (by show _ < x % 2; omega) (by show x % 2 < _; omega),?_⟩
     have w0:=hu' (decide ((0+(u:Nat):Int) < (0+(u:Nat)+(v:Nat):Int)))
     refine ⟨fun σ' H'=>∃ z:Int,z.natAbs≤wMax∧σ'=[some (.int (k:Int)),some (.ref d),some (.int y),some (.ref D),some (.int (0+(u:Nat):Int)),some (.int ((triAt k u+v:Nat):Int)),some (.int (0+(u:Nat)+(v:Nat):Int)),some (.int z)]∧H'=H6,?_,?_⟩
     ·by_cases h1:y=1
      ·refine ⟨_,rfl,rfl,_,rfl,itDP (by rw [h1]) ?_⟩
       refine ⟨_,rfl,_,rfl,d,_,_,_,rfl,rfl,hS6,hat,_,_,rfl,rfl,(by show (0:Int) < 7; decide),_,_,rfl,rfl,?_⟩
       exact ⟨x % 7 - 3,by rw [wm]; omega,rfl,rfl⟩
      ·refine ⟨_,rfl,rfl,_,rfl,itDN (fun z=>h1 (V.int.inj z)) ?_⟩
       exact ⟨_,w0,rfl,rfl⟩
     rintro σ' H' ⟨w2,w2b,rfl,rfl⟩
     refine ⟨fun σ' H''=>∃ z:Int,z.natAbs≤wMax∧σ'=[some (.int (k:Int)),some (.ref d),some (.int y),some (.ref D),some (.int (0+(u:Nat):Int)),some (.int ((triAt k u+v:Nat):Int)),some (.int (0+(u:Nat)+(v:Nat):Int)),some (.int z)]∧H''=H',?_,?_⟩
     ·by_cases h1:y=2
      ·refine ⟨_,rfl,rfl,_,rfl,itDP (by rw [h1]) ?_⟩
       refine ⟨_,rfl,_,rfl,d,_,_,_,rfl,rfl,hS6,hat,_,_,rfl,rfl,(by show (0:Int) < 5; decide),_,_,rfl,rfl,_,_,rfl,rfl,⟨by decide,by decide,by decide⟩,_,_,rfl,rfl,cmul_l (by show _ < x % 5 - 2; omega) (by show x % 5 - 2 < _; omega),?_⟩
       refine ⟨_,rfl,_,rfl,d,_,_,_,rfl,rfl,hS6,hat,_,_,rfl,rfl,(by show (0:Int) < 3; decide),_,_,rfl,rfl,?_⟩
       exact ⟨(x % 5 - 2) * 10 ^ (20:Int).toNat+x % 3,by rw [wm,pw20]; omega,rfl,rfl⟩
      ·refine ⟨_,rfl,rfl,_,rfl,itDN (fun z=>h1 (V.int.inj z)) ?_⟩
       exact ⟨w2,w2b,rfl,rfl⟩
     rintro σ' H7 ⟨z,hz,rfl,rfl⟩
     obtain ⟨ru,xu,g1,g2,g3⟩:=R6.get (i:=u) (by omega)
     have hru:=o4 ru (List.mem_of_getElem? g1)
     have lxu:=(S6.row u xu g2).1
     have a1:atI (rs.map V.ref) (0+(u:Nat):Int)=some (.ref ru):=by rw [Int.zero_add]; exact atI_nat (by rw [List.getElem?_map,g1]; rfl)
     have euv:(0+(u:Nat)+(v:Nat):Int)=((u+v:Nat):Int):=by omega
     refine ⟨_,rfl,_,rfl,_,rfl,D,_,_,_,rfl,rfl,SqL.of eD6,a1,_,rfl,ru,_,_,u+v,rfl,rfl,g3,by rw [euv,List.length_map]; exact ixN_nat (by omega),?_⟩
     rw [←List.map_set]
     have R8:=R6.put (j:=u+v) (z:=z) g1 g2
     have c8:Same H (upd H7 ru (.lst ((xu.set (u+v) z).map V.int))):=fun b o e=>by rw [upd_ne (ne_of_none e hru.1)]; exact c6 _ _ e
     have eD8:upd H7 ru (.lst ((xu.set (u+v) z).map V.int)) D=_:=(upd_ne hru.2.symm).trans eD6
     generalize upd H7 ru (.lst ((xu.set (u+v) z).map V.int))=H8 at R8 c8 eD8 ⊢
     obtain ⟨rv,xv,k1,k2,k3⟩:=R8.get (i:=u+v) (by omega)
     have hrv:=o4 rv (List.mem_of_getElem? k1)
     have lxv:=((put_row (i:=u) (j:=u+v) S6.len hz S6.row).2 (u+v) xv k2).1
     have a2:atI (rs.map V.ref) (0+(u:Nat)+(v:Nat):Int)=some (.ref rv):=by rw [euv]; exact atI_nat (by rw [List.getElem?_map,k1]; rfl)
     refine ⟨_,rfl,_,rfl,_,rfl,D,_,_,_,rfl,rfl,SqL.of eD8,a2,_,rfl,rv,_,_,u,rfl,rfl,k3,by rw [Int.zero_add,List.length_map]; exact ixN_nat (by omega),?_⟩
     rw [←List.map_set]
     refine ⟨_,rfl,_,_,rfl,rfl,?_⟩
     refine ⟨some (.int (0+(u:Nat)+(v:Nat):Int)),some (.int z),_,?_,fun b o e=>?_,(upd_ne hrv.2.symm).trans eD8,R8.put (j:=u) (z:=z) k1 k2,S6.put (by omega) (by omega) hz⟩
     ·rfl
     ·rw [upd_ne (ne_of_none e hrv.1)]; exact c8 _ _ e
    ·rintro σ H6 ⟨o6,o7,M,rfl,c6,eD6,R6,S6⟩
     exact ⟨_,_,_,M,by rw [tr1],c6,eD6,R6,S6⟩
   ·rintro σ H5 ⟨o4',o6,o7,M,rfl,c5,eD5,R5,S5⟩
    exact ⟨_,rfl,q D rs M H5 c5 hD o4 eD5 R5 S5⟩
end
section
variable {P:Program} {w:World} {K:PySem.W.Frag} {mg:Str→Option Value} {base:Heap}
theorem pi_listK {X:Cx} {tg l:Expr} {tl:TE} (hl:PE X l tl) (h:X.K=K:=by rfl):PI X tg l (iList K tl):=by subst h; exact pi_list hl
structure WebAt (H:Hp) (p hA rA:Addr) (rs:List Addr) (n:Nat) (hs:List Int) (M:List (List Int)):Prop where
 tup:H p=some (.tup [.ref hA,.ref rA])
 hue:H hA=some (.lst (hs.map V.int))
 rws:H rA=some (.lst (rs.map V.ref))
 row:RowsAt H rs M
 len:hs.length=n
 pos:∀ z ∈ hs,0≤z∧z < 3
 sq:Sq n M
def NewW (H:Hp) (p hA rA:Addr) (rs:List Addr):Prop:=(∀ a ∈ p :: hA :: rA :: rs,H a=none)∧hA≠rA∧hA ∉ rs∧rA ∉ rs
def spWebP (K:PySem.W.Frag):Sp:=fun vs H Q _=>∃ (a:Addr) (ns:List Int) (t:Int) (n:Nat) (fr:Bool),vs=[.ref a,.int t,.int (n:Int),.bl fr]∧SqL K H a (ns.map V.int)∧0≤t∧n≤8 ∧
 ∀ (p hA rA:Addr) (rs:List Addr) (hs:List Int) (M:List (List Int)) (H':Hp),Same H H'→NewW H p hA rA rs→WebAt H' p hA rA rs n hs M→Q (.ref p) H'
abbrev nWebP:List Str:=["_law_script","_law_at","_law_many","_law_free","_law_draws_here","_law_hues","_law_way","_law_square_here"]
abbrev aWebP:List Str:=["_law_script","_law_at","_law_many","_law_free"]
theorem scWebP:FnScope nWebP aWebP (defScope sWebP):=by constructor<;>first|rfl|decide +kernel
theorem lcWebP:LcScope (defScope sWebP) nWebP (lcScope (asgVal (bodyAt sWebP 1))) "_law_draw":=by constructor<;>first|rfl|decide +kernel
theorem cut_take (ns:List Int) (n:Nat) (h:n≤ns.length):cutV (ns.map V.int) none (some (n:Int))=(ns.take n).map V.int:=by
 unfold cutV
 rw [HT.sIx_none,HT.sIx_nat,List.drop_zero,List.length_map,Nat.min_eq_left h,Nat.sub_zero,List.map_take]
theorem ok_webP {f fC fD fS:Addr} {fd fdC fdD fdS:FuncData} (B:BltL mg) (F:Fun K "_law_web" "_law_web" sWebP f fd) (DC:Dn K mg "_law_cell_at" sCellAt ["_law_script","_law_k"] fC fdC) (GC:FnOk P w K mg base CX0 1 fC fdC ["_law_script","_law_k"] (spCell K))
  (DD:Dn K mg "_law_draws" sDraws ["_law_cell","_law_many","_law_base","_law_free"] fD fdD) (GD:FnOk P w K mg base CX0 1 fD fdD ["_law_cell","_law_many","_law_base","_law_free"] spDraws)
  (DS:Dn K mg "_law_square" sSquare ["_law_many","_law_draws_here","_law_way"] fS fdS) (GS:FnOk P w K mg base CX0 1 fS fdS ["_law_many","_law_draws_here","_law_way"] (spSquare K)):FnOk P w K mg base CX0 2 f fd aWebP (spWebP K):=by
 refine F.ok scWebP (fun vs H Q E h=>?_) (fun cdv A outer s H vs Q E hr h=>?_)
 ·obtain ⟨a,ns,t,n,fr,rfl,_⟩:=h
  rfl
 ·obtain ⟨a,ns,t,n,fr,rfl,hS,ht,hn,q⟩:=h
  refine ⟨_,pss_cons (ps_set (i:=4) scWebP.nd rfl (Or.inr rfl) (pe_fn DD GD hr rfl (pa_cons (pe_fn DC GC hr rfl (pa_cons (pv 0) (pa_cons (pv 1) pa_nil))) (pa_cons (pe_op op_add (pv 2) pe_int) (pa_cons pe_int (pa_cons (pv 3) pa_nil))))))
   (pss_cons (ps_setLc (i:=5) scWebP.nd rfl (Or.inl rfl) rfl lcWebP rfl (pi_list (pe_slice sl_list (pv 4) po_none (po_some (pv 2)))) (fun _ _ _=>pe_op op_mul (pv 8) (pe_callTy call_int1 (by rfl) B.int boot_int (pa_cons (pe_cmpR op_gt (pe_ix (ix_listK (K:=K)) (pv 4) (pv 2) (fun _ _=>rfl)) pe_int (nomark _)) pa_nil))))
   (pss_cons (ps_set (i:=6) scWebP.nd rfl (Or.inl rfl) (pe_op op_mod (pe_fn DC GC hr rfl (pa_cons (pv 0) (pa_cons (pe_op op_add (pv 1) pe_int) pa_nil))) pe_int))
   (pss_cons (ps_set (i:=7) scWebP.nd rfl (Or.inl rfl) (pe_fn DS GS hr rfl (pa_cons (pv 2) (pa_cons (pe_fn DD GD hr rfl (pa_cons (pe_fn DC GC hr rfl (pa_cons (pv 0) (pa_cons (pe_op op_add (pv 1) pe_int) pa_nil))) (pa_cons (pe_op op_fdiv (pe_op op_mul (pv 2) (pe_op op_add (pv 2) pe_int)) pe_int) (pa_cons pe_int (pa_cons (pv 3) pa_nil))))) (pa_cons (pv 6) pa_nil)))))
   (pss_one (ps_ret (pe_tup (pa_cons (pv 5) (pa_cons (pv 7) pa_nil)))))))),?_⟩
  refine ⟨_,rfl,_,rfl,a,ns,t,rfl,hS,ht,fun c1 _=>?_⟩
  refine ⟨_,rfl,_,_,rfl,rfl,_,rfl,c1,n+1,3,fr,rfl,by omega,by decide,.inl (by decide),fun d ds H1 hd s1 nd ed=>?_⟩
  obtain ⟨ld,bd⟩:=hd
  refine ⟨_,rfl,_,rfl,_,rfl,d,_,rfl,SqL.of ed,fun p hp=>?_⟩
  rw [cut_take ds n (by omega)]
  have ep:upd H1 p (.lst ((ds.take n).map V.int)) p=some (.lst ((ds.take n).map V.int)):=upd_same
  have s2:Same H (upd H1 p (.lst ((ds.take n).map V.int))):=s1.trans (Same.upd hp)
  have ed2:upd H1 p (.lst ((ds.take n).map V.int)) d=some (.lst (ds.map V.int)):=by rw [upd_ne (ne_of_none ed hp)]; exact ed
  generalize upd H1 p (.lst ((ds.take n).map V.int))=H2 at ep s2 ed2 ⊢
  refine ⟨p,rfl,⟨_,SqL.of ep⟩,fun D hD=>?_⟩
  have hnl:n < ds.length:=by omega
  have hat:atI (ds.map V.int) (n:Int)=some (.int (ds[n]'hnl)):=atI_nat (by rw [List.getElem?_map,List.getElem?_eq_getElem hnl]; rfl)
  generalize ds[n]'hnl=x at hat
  refine lc_list (K:=K) (xs:=(ds.take n).map V.int) (fun i ys H'=>∃ hs:List Int,ys=hs.map V.int∧hs.length=i∧Same H2 H'∧H' D=some (.lst ys)∧∀ z ∈ hs,0≤z∧z < 3) ?_ ?_ ?_ ?_ ?_
  ·exact ⟨[],rfl,rfl,Same.upd hD,upd_same,fun z hz=>by cases hz⟩
  ·rintro i ys H' _ ⟨hs,rfl,lt,s3,eD,_⟩
   exact ⟨s3.seq (SqL.of ep),eD⟩
  ·rintro i v ys H' hv ⟨hs,rfl,lt,s3,eD,hb⟩
   obtain ⟨z,hz,rfl⟩:=map_get hv
   have zb:=bd z (List.mem_of_mem_take (List.mem_of_getElem? hz))
   have li:=(List.getElem?_eq_some_iff.mp hz).1
   rw [List.length_take] at li
   refine ⟨_,rfl,_,rfl,_,rfl,d,_,_,_,rfl,rfl,SqL.of (s3 _ _ ed2),hat,_,_,rfl,rfl,.inr ⟨_,rfl,_,_,rfl,rfl,cmul_l (by omega) (by omega),?_⟩⟩
   refine ⟨eD,small1000 (by rw [List.length_map]; omega),hs++[z * (if decide (0 < x)=true then 1 else 0)],by rw [List.map_append]; rfl,by rw [List.length_append,lt]; rfl,fun b o e=>?_,upd_same,?_⟩
   ·rw [upd_ne (ne_of_none e hD)]
    exact s3 _ _ e
   ·intro y hy
    rcases List.mem_append.mp hy with g | g
    ·exact hb y g
    ·rw [List.mem_singleton.mp g]
     split <;> omega
  ·rintro ys H3 ⟨hs,rfl,lt,s3,eD,hb⟩
   rw [List.length_map,List.length_take,Nat.min_eq_left (by omega)] at lt
   have c3:=s2.trans s3
   have nD:H D=none:=s2.free hD
   refine ⟨_,rfl,_,rfl,_,_,rfl,rfl,a,ns,t+2,rfl,c3.seq hS,by omega,fun c2 _=>⟨_,_,rfl,rfl,(by show (0:Int) < 4; decide),?_⟩⟩
   refine ⟨_,rfl,_,rfl,_,rfl,_,_,rfl,rfl,a,ns,t+1,rfl,c3.seq hS,by omega,fun c4 _=>?_⟩
   have en:(n:Int) * ((n:Int)+1) / 2=((n * (n+1) / 2:Nat):Int):=by
    rw [show (n:Int) * ((n:Int)+1)=((n * (n+1):Nat):Int) by push_cast; rfl]
    rfl
   have nb:n * (n+1) / 2≤100:=by
    have:n * (n+1)≤8 * 9:=Nat.mul_le_mul hn (by omega)
    omega
   refine ⟨_,rfl,_,rfl,_,_,rfl,rfl,_,_,rfl,rfl,cmul_l (by omega) (by omega),_,_,rfl,rfl,⟨by decide,by decide⟩,?_⟩
   refine ⟨_,rfl,c4,n * (n+1) / 2,210,fr,?_,nb,by decide,.inl (by decide),fun d' ds' H4 hd' s4 nd' ed'=>?_⟩
   ·show [V.int c4,V.int ((n:Int) * ((n:Int)+1) / 2),_,_]=_
    rw [en]
   have c5:=c3.trans s4
   refine ⟨_,rfl,n,d',c2 % 4,ds',rfl,hn,SqL.of ed',hd',fun R rs M H5 s5 nR nrs eR RR SR=>?_⟩
   have eD5:=s5 _ _ (s4 _ _ eD)
   refine ⟨_,rfl,_,rfl,(by show 2≤sizeLine; decide),fun p' hp'=>?_⟩
   have c6:=c5.trans s5
   have np:=fun {b:Addr} {o:HO} (e:H5 b=some o)=>ne_of_none e hp'
   have nDR:D≠R:=fun z=>by subst z; rw [s4 _ _ eD] at nR; cases nR
   refine q p' D R rs hs M _ (c6.trans (Same.upd hp')) ⟨?_,nDR,fun z=>?_,fun z=>(nrs _ z).2 rfl⟩ ⟨upd_same,by rw [upd_ne (np eD5)]; exact eD5,by rw [upd_ne (np eR)]; exact eR,RR.keep fun r hr o e=>by rw [upd_ne (np e)]; exact e,lt,hb,SR⟩
   ·intro b hb'
    rcases List.mem_cons.mp hb' with rfl | hb'
    ·exact c6.free hp'
    ·rcases List.mem_cons.mp hb' with rfl | hb'
     ·exact nD
     ·rcases List.mem_cons.mp hb' with rfl | hb'
      ·exact c5.free nR
      ·exact c5.free (nrs b hb').1
   ·have:=(nrs _ z).1
    rw [s4 _ _ eD] at this
    cases this
  ·rintro σ H' Q1 Q2 hq ⟨v1,e1,v2,e2,v3,e3,a1,a2,a3,a4,b1,b2,b3,b4,i1,i2,j1,j2,g⟩
   refine ⟨v1,e1,v2,e2,v3,e3,a1,a2,a3,a4,b1,b2,b3,b4,i1,i2,j1,j2,?_⟩
   rcases g with ⟨i,f1,m1,m2,f2,f3,f4,f5⟩ | ⟨i,f1,m1,m2,f2,f3,f4,f5⟩
   ·exact .inl ⟨i,f1,m1,m2,f2,f3,f4,hq _ _ f5⟩
   ·exact .inr ⟨i,f1,m1,m2,f2,f3,f4,hq _ _ f5⟩
end
section
variable {P:Program} {w:World} {K:PySem.W.Frag} {mg:Str→Option Value} {base:Heap}
structure BltP (mg:Str→Option Value):Prop where
 len:mg "len" = none
 zip:mg "zip" = none
 list:mg "list" = none
 tuple:mg "tuple" = none
section
variable {κ:Type} [DecidableEq κ]
def seenAdd (s:List κ) (k:κ):List κ:=if k ∈ s then s else s++[k]
def numsFrom (s:List κ):List κ→List Nat
 | []=>[]
 | k :: ks=>s.idxOf k :: numsFrom (seenAdd s k) ks
def numb (ks:List κ):List Nat:=numsFrom [] ks
theorem numsFrom_snoc (k:κ):∀ (ks s:List κ),numsFrom s (ks++[k])=numsFrom s ks++[(ks.foldl seenAdd s).idxOf k]
 | [],s=>rfl
 | x :: ks,s=>by
  show s.idxOf x :: numsFrom (seenAdd s x) (ks++[k])=_
  rw [numsFrom_snoc k ks]
  rfl
theorem numsFrom_len:∀ (ks s:List κ),(numsFrom s ks).length=ks.length
 | [],_=>rfl
 | _ :: ks,s=>by simp [numsFrom,numsFrom_len ks]
theorem seen_le:∀ (ks s:List κ),(ks.foldl seenAdd s).length≤s.length+ks.length
 | [],s=>Nat.le_refl _
 | k :: ks,s=>by
  have:=seen_le ks (seenAdd s k)
  have e:(seenAdd s k).length≤s.length+1:=by
   unfold seenAdd
   split
   ·omega
   ·rw [List.length_append,List.length_singleton]; omega
  rw [List.foldl_cons,List.length_cons]
  omega
theorem KL_num (k:κ):∀ (l:List (κ × V × V)) (o:Nat),(∀ (j:Nat) (x:κ × V × V),l[j]? = some x→x.2.2=.int ((o+j:Nat):Int)) →
  KL l k=if k ∈ l.map (·.1) then some (.int ((o+(l.map (·.1)).idxOf k:Nat):Int)) else none
 | [],_,_=>rfl
 | x :: l,o,h=>by
  have ih:=KL_num k l (o+1) fun j y e=>by rw [h (j+1) y (by simpa using e)]; congr 2; omega
  by_cases e:x.1=k
  ·have h0:=h 0 x rfl
   rw [show KL (x :: l) k=some x.2.2 by simp [KL,e],h0]
   simp [List.idxOf_cons,e]
  ·rw [show KL (x :: l) k=KL l k by simp [KL,e],ih]
   by_cases m:k ∈ l.map (·.1)
   ·rw [List.map_cons,if_pos m,if_pos (List.mem_cons_of_mem _ m),List.idxOf_cons,(by simpa using e:(x.1 == k)=false),cond_false]
    congr 3
    omega
   ·rw [List.map_cons,if_neg m,if_neg (by rw [List.mem_cons]; rintro (q | q); exact e q.symm; exact m q)]
end
def spNum (K:PySem.W.Frag) {κ:Type} [DecidableEq κ] (key:Hp→V→κ→Prop):Sp:=fun vs H Q _=>∃ (a:Addr) (ys:List V) (ks:List κ),vs=[.ref a]∧SqL K H a ys∧ys.length=ks.length∧ks.length≤1000 ∧
 (∀ (j:Nat) (y:V) (k:κ),ys[j]? = some y→ks[j]? = some k→key H y k)∧∀ p H',Same H H'→H p=none→H' p=some (.lst ((numb ks).map fun (n:Nat)=>V.int (n:Int)))→Q (.ref p) H'
abbrev nNum:List Str:=["marks","numbers","lots","mark"]
theorem scNum:FnScope nNum ["marks"] (defScope sNumbered):=by constructor<;>first|rfl|decide +kernel
theorem ok_num {κ:Type} [DecidableEq κ] {obj:Addr→List (κ × V × V)→HO} {key:Hp→V→κ→Prop} (kd:∀ X:Cx,X.prog=P→X.w=w→X.A.units+64 < cLine→Kd X κ obj key) (ks':∀ {H H':Hp} {y:V} {k:κ},Same H H'→key H y k→key H' y k)
  {f:Addr} {fd:FuncData} (B:BltP mg) (F:Fun K "numbered" "numbered" sNumbered f fd):FnOk P w K mg base CX0 1 f fd ["marks"] (spNum K key):=by
 refine F.ok scNum (fun vs H Q E h=>?_) (fun cdv A outer s H vs Q E hr h=>?_)
 ·obtain ⟨a,ys,ks,rfl,_⟩:=h
  rfl
 ·obtain ⟨a,ys,ks,rfl,hy,hl,hz,hk,q⟩:=h
  have KD:=fun X e1 e2 e3=>kd X e1 e2 e3
  refine ⟨_,pss_cons (ps_set (i:=1) scNum.nd rfl (Or.inl rfl) ((kd _ rfl rfl hr.units).new _))
   (pss_cons (ps_set (i:=2) scNum.nd rfl (Or.inl rfl) (pe_lst pa_nil))
   (pss_cons (ps_for PassesOwn.never rfl (pi_list (pv 0)) (pg_name (i:=3) scNum.nd rfl (Or.inl rfl))
    (pss_one (ps_expr (pe_bm PySem.F.plainAttrs_list PySem.F.slot_list_append PySem.F.type_list_append mt_append (pv 2)
     (pa_cons (pe_setd (kd _ rfl rfl hr.units) (pv 1) (pv 3) (pe_callB (kd _ rfl rfl hr.units).len (by rfl) B.len PySem.boot_len (pa_cons (pv 1) pa_nil)) ⟨rfl,rfl,rfl,rfl⟩) pa_nil)))))
   (pss_one (ps_ret (pv 2))))),?_⟩
  intro N hN
  refine ⟨Nat.zero_le _,fun R hR=>?_⟩
  have nNR:N≠R:=ne_of_none upd_same hR
  have hR0:H R=none:=by rw [upd_ne nNR.symm] at hR; exact hR
  have sH:Same H (upd (upd H N (obj N [])) R (.lst [])):=(Same.upd hN).trans (Same.upd hR)
  refine ⟨_,rfl,a,rfl,⟨_,sH.seq hy⟩,for_list (K:=K) (a:=a) (xs:=ys) (fun i σ H'=>∃ (o:Option V) (l:List (κ × V × V)),σ=[some (.ref a),some (.ref N),some (.ref R),o]∧Same H H'∧H' N=some (obj N l)∧H' R=some (.lst ((numsFrom [] (ks.take i)).map fun (n:Nat)=>V.int (n:Int))) ∧
   l.map (·.1)=(ks.take i).foldl seenAdd []∧(∀ (j:Nat) (x:κ × V × V),l[j]? = some x→x.2.2=.int (j:Int))∧∀ z ∈ l,key H z.2.1 z.1) ?_ ?_ ?_ ?_⟩
  ·exact ⟨none,[],rfl,sH,by rw [upd_ne nNR]; exact upd_same,upd_same,rfl,fun j x e=>by simp at e,fun z hz=>by cases hz⟩
  ·rintro i σ H' _ ⟨o,l,rfl,s1,_⟩
   exact s1.seq hy
  ·rintro i v σ H' hi ⟨o,l,rfl,s1,eN,eR,el,ev,ek⟩
   have li:i < ks.length:=by rw [←hl]; exact (List.getElem?_eq_some_iff.mp hi).1
   have hki:ks[i]? = some (ks[i]'li):=List.getElem?_eq_getElem li
   have kv:key H' v (ks[i]'li):=ks' s1 (hk i v _ hi hki)
   have kl:∀ z ∈ l,key H' z.2.1 z.1:=fun z hz=>ks' s1 (ek z hz)
   have tk:ks.take (i+1)=ks.take i++[ks[i]'li]:=by rw [List.take_succ,hki]; rfl
   have ll:l.length≤1000:=by
    have:=seen_le (ks.take i) []
    rw [←el,List.length_map,List.length_take] at this
    simp at this
    omega
   have lr:((numsFrom [] (ks.take i)).map fun (n:Nat)=>V.int (n:Int)).length≤1000:=by
    rw [List.length_map,numsFrom_len,List.length_take]
    omega
   have num:=KL_num (ks[i]'li) l 0 fun j x e=>by rw [Nat.zero_add]; exact ev j x e
   rw [Nat.zero_add,el] at num
   refine ⟨_,rfl,.inl ⟨rfl,_,SqL.of eR⟩,_,rfl,N,l,rfl,eN,_,rfl,_,rfl,N,l,rfl,eN,kl,N,l,ks[i]'li,v,_,rfl,rfl,eN,kl,kv,small1000 ll,?_⟩
   by_cases m:(ks[i]'li) ∈ (ks.take i).foldl seenAdd []
   ·rw [if_pos m] at num
    refine .inl ⟨_,num,?_⟩
    refine ⟨R,_,_,rfl,rfl,eR,small1000 lr,?_⟩
    refine ⟨_,l,rfl,fun b ob e=>?_,?_,?_,?_,ev,ek⟩
    ·rw [upd_ne (ne_of_none e hR0)]
     exact s1 _ _ e
    ·rw [upd_ne nNR]
     exact eN
    ·rw [upd_same,tk,numsFrom_snoc,List.map_append]
     rfl
    ·rw [el,tk,List.foldl_append]
     show _=seenAdd _ _
     rw [seenAdd,if_pos m]
   ·rw [if_neg m] at num
    refine .inr ⟨num,?_⟩
    have eR2:upd H' N (obj N (l++[(ks[i]'li,v,.int (l.length:Int))])) R=some (.lst ((numsFrom [] (ks.take i)).map fun (n:Nat)=>V.int (n:Int))):=by rw [upd_ne nNR.symm]; exact eR
    refine ⟨R,_,_,rfl,rfl,eR2,small1000 lr,?_⟩
    refine ⟨_,_,rfl,fun b ob e=>?_,by rw [upd_ne nNR]; exact upd_same,?_,?_,?_,?_⟩
    ·rw [upd_ne (ne_of_none e hR0),upd_ne (ne_of_none e hN)]
     exact s1 _ _ e
    ·have ll':((ks.take i).foldl seenAdd []).length=l.length:=by rw [←el,List.length_map]
     rw [upd_same,tk,numsFrom_snoc,List.map_append,List.idxOf_eq_length m,ll']
     rfl
    ·rw [List.map_append,el,tk,List.foldl_append]
     show _=seenAdd _ _
     rw [seenAdd,if_neg m]
     rfl
    ·intro j x e
     rcases Nat.lt_or_ge j l.length with lj | lj
     ·rw [List.getElem?_append_left lj] at e
      exact ev j x e
     ·rw [List.getElem?_append_right lj] at e
      obtain rfl:j=l.length:=by
       have:=(List.getElem?_eq_some_iff.mp e).1
       rw [List.length_singleton] at this
       omega
      rw [Nat.sub_self] at e
      cases e
      rfl
    ·intro z hz
     rcases List.mem_append.mp hz with q' | q'
     ·exact ek z q'
     ·cases List.mem_singleton.mp q'
      exact hk i v _ hi hki
  ·rintro σ H' ⟨o,l,rfl,s1,eN,eR,_⟩
   refine ⟨_,rfl,q R H' s1 hR0 ?_⟩
   rw [eR,hl,List.take_length]
   rfl
end
section
variable {κ ι:Type} [DecidableEq κ] [DecidableEq ι]
theorem idx_same {k:κ} {l:ι}:∀ (s:List κ) (t:List ι),s.length=t.length→(∀ p ∈ s.zip t,p.1=k↔p.2=l)→s.idxOf k=t.idxOf l∧(k ∈ s↔l ∈ t)
 | [],[],_,_=>⟨rfl,by simp⟩
 | [],_ :: _,h,_=>by simp at h
 | _ :: _,[],h,_=>by simp at h
 | x :: s,y :: t,h,hp=>by
  have h0:=hp (x,y) (by simp)
  obtain ⟨h1,h2⟩:=idx_same s t (by simpa using h) fun p hm=>hp p (by rw [List.zip_cons_cons]; exact List.mem_cons_of_mem _ hm)
  by_cases e:x=k
  ·have e':y=l:=h0.mp e
   subst e e'
   simp [List.idxOf_cons]
  ·have e':¬ y=l:=fun q=>e (h0.mpr q)
   refine ⟨?_,?_⟩
   ·rw [List.idxOf_cons,List.idxOf_cons,(by simpa using e:(x == k)=false),(by simpa using e':(y == l)=false),cond_false,cond_false,h1]
   ·rw [List.mem_cons,List.mem_cons,h2]
    constructor
    ·rintro (q | q)
     ·exact absurd q.symm e
     ·exact .inr q
    ·rintro (q | q)
     ·exact absurd q.symm e'
     ·exact .inr q
theorem nums_same:∀ (ks:List κ) (ls:List ι) (s:List κ) (t:List ι),ks.length=ls.length→s.length=t.length→(∀ p ∈ s.zip t++ks.zip ls,∀ q ∈ s.zip t++ks.zip ls,p.1=q.1↔p.2=q.2)→numsFrom s ks=numsFrom t ls
 | [],[],_,_,_,_,_=>rfl
 | [],_ :: _,_,_,h,_,_=>by simp at h
 | _ :: _,[],_,_,h,_,_=>by simp at h
 | k :: ks,l :: ls,s,t,h,hs,hp=>by
  have hkl:(k,l) ∈ s.zip t++(k :: ks).zip (l :: ls):=by simp
  obtain ⟨h1,h2⟩:=idx_same (k:=k) (l:=l) s t hs fun p hm=>hp p (List.mem_append_left _ hm) (k,l) hkl
  show s.idxOf k :: numsFrom (seenAdd s k) ks=t.idxOf l :: numsFrom (seenAdd t l) ls
  rw [h1]
  congr 1
  have hz:∀ p ∈ (seenAdd s k).zip (seenAdd t l)++ks.zip ls,p ∈ s.zip t++(k :: ks).zip (l :: ls):=by
   intro p hm
   rcases List.mem_append.mp hm with q | q
   ·unfold seenAdd at q
    by_cases m:k ∈ s
    ·rw [if_pos m,if_pos (h2.mp m)] at q
     exact List.mem_append_left _ q
    ·rw [if_neg m,if_neg (fun z=>m (h2.mpr z)),List.zip_append hs] at q
     rcases List.mem_append.mp q with q | q
     ·exact List.mem_append_left _ q
     ·rw [List.zip_cons_cons,List.zip_nil_left,List.mem_singleton] at q
      rw [q]
      exact hkl
   ·refine List.mem_append_right _ ?_
    rw [List.zip_cons_cons]
    exact List.mem_cons_of_mem _ q
  refine nums_same ks ls _ _ (by simpa using h) ?_ fun p hm q hq=>hp p (hz p hm) q (hz q hq)
  unfold seenAdd
  by_cases m:k ∈ s
  ·rw [if_pos m,if_pos (h2.mp m)]
   exact hs
  ·rw [if_neg m,if_neg (fun z=>m (h2.mpr z)),List.length_append,List.length_append,hs]
   rfl
theorem seen_keep {k:κ}:∀ (ks s:List κ),k ∈ s→k ∈ ks.foldl seenAdd s∧(ks.foldl seenAdd s).idxOf k=s.idxOf k
 | [],_,h=>⟨h,rfl⟩
 | x :: ks,s,h=>by
  have m:k ∈ seenAdd s x:=by
   unfold seenAdd
   split
   ·exact h
   ·exact List.mem_append_left _ h
  obtain ⟨h1,h2⟩:=seen_keep ks (seenAdd s x) m
  refine ⟨h1,h2.trans ?_⟩
  unfold seenAdd
  split
  ·rfl
  ·rw [List.idxOf_append,if_pos h]
theorem nums_idx {k:κ}:∀ (ks s:List κ) (i:Nat),ks[i]? = some k→(numsFrom s ks)[i]? = some ((ks.foldl seenAdd s).idxOf k)∧k ∈ ks.foldl seenAdd s
 | [],_,_,h=>by simp at h
 | x :: ks,s,i+1,h=>by
  have:=nums_idx ks (seenAdd s x) i (by simpa using h)
  simpa [numsFrom] using this
 | x :: ks,s,0,h=>by
  cases h
  have m:k ∈ seenAdd s k:=by
   unfold seenAdd
   split
   ·assumption
   ·simp
  obtain ⟨h1,h2⟩:=seen_keep ks _ m
  refine ⟨?_,h1⟩
  show some (s.idxOf k)=some ((ks.foldl seenAdd (seenAdd s k)).idxOf k)
  rw [h2]
  congr 1
  unfold seenAdd
  split
  ·rfl
  ·rename_i m'
   rw [List.idxOf_append,if_neg m',List.idxOf_eq_length m']
   simp
theorem numb_iff {ks:List κ} {ls:List ι} (h:ks.length=ls.length):numb ks=numb ls↔∀ (i j:Nat) (k k':κ) (l l':ι),ks[i]? = some k→ks[j]? = some k'→ls[i]? = some l→ls[j]? = some l'→(k=k'↔l=l'):=by
 constructor
 ·intro e i j k k' l l' h1 h2 h3 h4
  obtain ⟨a1,b1⟩:=nums_idx ks [] i h1
  obtain ⟨a2,b2⟩:=nums_idx ks [] j h2
  obtain ⟨a3,b3⟩:=nums_idx ls [] i h3
  obtain ⟨a4,b4⟩:=nums_idx ls [] j h4
  have e':numsFrom [] ks=numsFrom [] ls:=e
  rw [e',a3] at a1
  rw [e',a4] at a2
  have c1:=Option.some.inj a1
  have c2:=Option.some.inj a2
  have inj:∀ {α:Type} [DecidableEq α] {s:List α} {x y:α},x ∈ s→s.idxOf x=s.idxOf y→x=y:=by
   intro α _ s x y hx q
   have l1:=List.idxOf_lt_length_iff.mpr hx
   have g1:s[s.idxOf x]=x:=List.getElem_idxOf l1
   have g2:s[s.idxOf y]'(q ▸ l1)=y:=List.getElem_idxOf (q ▸ l1)
   rw [←g1,←g2]
   congr 1
  constructor
  ·rintro rfl
   exact inj b3 (c1.trans c2.symm)
  ·rintro rfl
   exact inj b1 (c1.symm.trans c2)
 ·intro hp
  refine nums_same ks ls [] [] h rfl ?_
  intro p hm q hq
  rw [List.zip_nil_left,List.nil_append] at hm hq
  obtain ⟨i,hi⟩:=List.mem_iff_getElem?.mp hm
  obtain ⟨j,hj⟩:=List.mem_iff_getElem?.mp hq
  obtain ⟨i1,i2⟩:=List.getElem?_zip_eq_some.mp hi
  obtain ⟨j1,j2⟩:=List.getElem?_zip_eq_some.mp hj
  exact hp i j _ _ _ _ i1 j1 i2 j2
end
section
variable {P:Program} {w:World} {K:PySem.W.Frag} {mg:Str→Option Value} {base:Heap}
def nI (l:List Nat):List Int:=l.map fun (n:Nat)=>(n:Int)
theorem nI_inj {a b:List Nat} (h:nI a=nI b):a=b:=List.map_inj_right (fun _ _ q=>Int.ofNat.inj q) |>.mp h
theorem nI_get {l:List Nat} {i:Nat}:(nI l)[i]? = (l[i]?).map fun (n:Nat)=>(n:Int):=List.getElem?_map
theorem numb_len {κ:Type} [DecidableEq κ] (ks:List κ):(numb ks).length=ks.length:=numsFrom_len ks []
theorem numb_get {κ:Type} [DecidableEq κ] {ks:List κ} {i j:Nat} {k k':κ} {a b:Nat} (h1:ks[i]? = some k) (h2:ks[j]? = some k') (h3:(numb ks)[i]? = some a) (h4:(numb ks)[j]? = some b):a=b↔k=k':=by
 obtain ⟨a1,b1⟩:=nums_idx ks [] i h1
 obtain ⟨a2,b2⟩:=nums_idx ks [] j h2
 have c1:some ((ks.foldl seenAdd []).idxOf k)=some a:=a1.symm.trans h3
 have c2:some ((ks.foldl seenAdd []).idxOf k')=some b:=a2.symm.trans h4
 cases c1
 cases c2
 constructor
 ·intro q
  have l1:=List.idxOf_lt_length_iff.mpr b1
  have g1:(ks.foldl seenAdd [])[(ks.foldl seenAdd []).idxOf k]=k:=List.getElem_idxOf l1
  have g2:(ks.foldl seenAdd [])[(ks.foldl seenAdd []).idxOf k']'(q ▸ l1)=k':=List.getElem_idxOf (q ▸ l1)
  rw [←g1,←g2]
  congr 1
 ·rintro rfl
  rfl
theorem numb_numb {κ:Type} [DecidableEq κ] (ks:List κ):numb (nI (numb ks))=numb ks:=by
 have ln:(nI (numb ks)).length=ks.length:=by rw [nI,List.length_map,numb_len]
 rw [numb_iff ln]
 intro i j a b k k' h1 h2 h3 h4
 rw [nI_get] at h1 h2
 obtain ⟨x,hx,rfl⟩:=Option.map_eq_some_iff.mp h1
 obtain ⟨y,hy,rfl⟩:=Option.map_eq_some_iff.mp h2
 rw [←numb_get h3 h4 hx hy]
 exact Int.ofNat_inj
def Finer (a b:List Int):Prop:=∀ (i j:Nat) (l x y:Int),a[i]? = some l→a[j]? = some l→b[i]? = some x→b[j]? = some y→x=y
def Norm (ls:List Int):Prop:=ls=nI (numb ls)
theorem norm_numb {κ:Type} [DecidableEq κ] (ks:List κ):Norm (nI (numb ks)):=by unfold Norm; rw [numb_numb]
theorem norm_eq {a b:List Int} (ha:Norm a) (hb:Norm b) (l:a.length=b.length) (f:Finer a b) (g:Finer b a):a=b:=by
 rw [ha,hb]
 congr 1
 rw [numb_iff l]
 intro i j k k' x x' h1 h2 h3 h4
 constructor
 ·rintro rfl
  exact f i j _ _ _ h1 h2 h3 h4
 ·rintro rfl
  exact g i j _ _ _ h3 h4 h1 h2
def prs (n:Nat):List (Nat × Nat):=(List.range n).flatMap fun i=>(List.range n).map fun j=>(i,j)
theorem prs_mem {n i j:Nat}:(i,j) ∈ prs n↔i < n∧j < n:=by
 unfold prs
 simp
def shar (n:Nat) (ls:List Int):Nat:=(prs n).countP fun p=>decide (ls[p.1]? = ls[p.2]?)
theorem count_lt {α:Type} {p q:α→Bool}:∀ {l:List α},(∀ x ∈ l,p x=true→q x=true)→(∃ x ∈ l,q x=true∧p x=false)→l.countP p < l.countP q
 | [],_,⟨x,hx,_⟩=>by cases hx
 | y :: l,h,⟨x,hx,h1,h2⟩=>by
  have hl:∀ x ∈ l,p x=true→q x=true:=fun x hx=>h x (List.mem_cons_of_mem _ hx)
  have le:l.countP p≤l.countP q:=List.countP_mono_left hl
  rw [List.countP_cons,List.countP_cons]
  rcases List.mem_cons.mp hx with rfl | hx
  ·rw [h1,h2]
   simp
   omega
  ·have:=count_lt hl ⟨x,hx,h1,h2⟩
   have hy:=h y List.mem_cons_self
   by_cases e:p y=true
   ·rw [e,hy e]
    simp
    omega
   ·rw [if_neg e]
    split <;> omega
theorem shar_lt {a b:List Int} {n:Nat} (la:a.length=n) (lb:b.length=n) (na:Norm a) (nb:Norm b) (f:Finer a b) (ne:a≠b):shar n a < shar n b:=by
 unfold shar
 refine count_lt (fun p hp e=>?_) ?_
 ·obtain ⟨i,j⟩:=p
  obtain ⟨hi,hj⟩:=prs_mem.mp hp
  have e':a[i]? = a[j]?:=by simpa using e
  obtain ⟨x,hx⟩:=get_lt (l:=a) (i:=i) (by omega)
  obtain ⟨y,hy⟩:=get_lt (l:=b) (i:=i) (by omega)
  obtain ⟨z,hz⟩:=get_lt (l:=b) (i:=j) (by omega)
  have:b[i]? = b[j]?:=by rw [hy,hz,f i j x y z hx (by rw [←e',hx]) hy hz]
  simpa using this
 ·refine Classical.byContradiction fun no=>ne (norm_eq na nb (by omega) f fun i j l x y e1 e2 e3 e4=>?_)
  refine Classical.byContradiction fun nxy=>no ⟨(i,j),prs_mem.mpr ⟨by rw [←lb]; exact lt_get e1,by rw [←lb]; exact lt_get e2⟩,?_,?_⟩
  ·simp [e1,e2]
  ·simp [e3,e4,nxy]
theorem norm_zeros (n:Nat):Norm (List.replicate n 0):=by
 have g:∀ m,numsFrom [(0:Int)] (List.replicate m 0)=List.replicate m 0:=by
  intro m
  induction m with
  | zero=>rfl
  | succ m ih =>
   rw [List.replicate_succ]
   show List.idxOf (0:Int) [0] :: numsFrom (seenAdd [0] 0) (List.replicate m 0)=_
   rw [show seenAdd [(0:Int)] 0=[0] from rfl,ih]
   rfl
 unfold Norm
 cases n with
 | zero=>rfl
 | succ n =>
  have:numb (List.replicate (n+1) (0:Int))=List.replicate (n+1) 0:=by
   rw [List.replicate_succ]
   show List.idxOf (0:Int) [] :: numsFrom (seenAdd [] 0) (List.replicate n 0)=_
   rw [show seenAdd ([]:List Int) 0=[0] from rfl,g]
   rfl
  rw [this,nI,List.map_replicate]
  rfl
theorem finer_zeros {P:List Int} {n:Nat}:Finer P (List.replicate n 0):=by
 intro i j l x y _ _ e1 e2
 rw [List.getElem?_replicate] at e1 e2
 split at e1
 ·split at e2
  ·cases e1; cases e2; rfl
  ·cases e2
 ·cases e1
theorem nI_V (l:List Nat):(l.map fun (n:Nat)=>V.int (n:Int))=(nI l).map V.int:=by rw [nI,List.map_map]; rfl
def WbAt (K:PySem.W.Frag) (H:Hp) (v:V) (us:List Int) (M:List (List Int)):Prop :=
 ∃ (p h r:Addr) (rs:List Addr),v=.ref p∧SqT K H p [.ref h,.ref r]∧SqL K H h (us.map V.int)∧SqL K H r (rs.map V.ref)∧rs.length=M.length∧∀ (j:Nat) (t:Addr) (ws:List Int),rs[j]? = some t→M[j]? = some ws→SqL K H t (ws.map V.int)
theorem WbAt.same {H H':Hp} {v:V} {us:List Int} {M:List (List Int)} (h:WbAt K H v us M) (s:Same H H'):WbAt K H' v us M:=by
 obtain ⟨p,h1,r,rs,e,q1,q2,q3,q4,q5⟩:=h
 exact ⟨p,h1,r,rs,e,s.seqT q1,s.seq q2,s.seq q3,q4,fun j t ws e1 e2=>s.seq (q5 j t ws e1 e2)⟩
def forBody (s:Stmt) (i:Nat):Stmt:=match s with
 | .For _ _ b _ _=>b.getD i (.Pass ⟨0,0,0,0⟩)
 | _=>.Pass ⟨0,0,0,0⟩
theorem for_zip {a b:Addr} {xs ys:List V} {g:TG} {tb:TS} {D:Ends} {σ:L2.St} {H:Hp} (e:ys.length=xs.length) (Pv:Nat→L2.St→Hp→Prop) (h0:Pv 0 σ H) (hl:∀ i σ H,i≤xs.length→Pv i σ H→SqL K H a xs∧SqL K H b ys)
  (hs:∀ (i:Nat) (x y:V) (t:Addr) σ H,xs[i]? = some x→ys[i]? = some y→Pv i σ H→H t=none→g (.ref t) σ (upd H t (.tup [x,y])) fun σ2 H2=>tb { D with nx:=Pv (i+1),ct:=Pv (i+1),bk:=D.nx } σ2 H2) (hd:∀ σ H,Pv xs.length σ H→D.nx σ H) :
  ∃ W:Nat→Nat→L2.St→Hp→Prop,(∃ m,W 0 m σ H)∧∀ i m σ H,W i m σ H →
   ((Itz K a b).stop i H∧D.nx σ H) ∨ ((Itz K a b).go i H∧∃ N:L2.St→Hp→Prop,(∀ σ' H',N σ' H'→∃ m',m' < m∧W (i+1) m' σ' H')∧∀ x H',(Itz K a b).yld i H x H'→g x σ H' fun σ2 H2=>tb { D with nx:=N,ct:=N,bk:=D.nx } σ2 H2):=by
 refine ⟨fun i m σ H=>m=xs.length - i∧i≤xs.length∧Pv i σ H,⟨xs.length,by simp,Nat.zero_le _,h0⟩,?_⟩
 rintro i m σ H ⟨rfl,hi,p⟩
 obtain ⟨q1,q2⟩:=hl i σ H hi p
 by_cases lt:i < xs.length
 ·have lt':i < ys.length:=by omega
  refine .inr ⟨⟨xs,ys,xs[i],ys[i],q1,q2,List.getElem?_eq_getElem lt,List.getElem?_eq_getElem lt'⟩,Pv (i+1),fun σ' H' p'=>⟨xs.length - (i+1),by omega,rfl,lt,p'⟩,fun x H' y=>?_⟩
  obtain ⟨t,x1,y1,rfl,ht,rfl,g1,g2⟩:=y
  exact hs i x1 y1 t σ H (g1 xs q1) (g2 ys q2) p ht
 ·have ei:i=xs.length:=by omega
  subst ei
  exact .inl ⟨⟨xs,ys,q1,q2,.inl (Nat.le_refl _)⟩,hd σ H p⟩
theorem boot_tup:bootBuiltins "tuple" = some (.type "tuple"):=by decide +kernel
end
section
variable {P:Program} {w:World} {K:PySem.W.Frag} {mg:Str→Option Value} {base:Heap}
def valI (l:List (Int × Int)) (k:Int):Int:=((l.find? fun p=>decide (p.1=k)).map (·.2)).getD 0
def putI (l:List (Int × Int)) (k v:Int):List (Int × Int):=if l.any (fun p=>decide (p.1=k)) then l.map (fun p=>if p.1=k then (p.1,v) else p) else l++[(k,v)]
def stepS (l:List (Int × Int)) (p:Int × Int):List (Int × Int):=putI l p.2 (valI l p.2+p.1)
def sumsOf (ws ls:List Int):List (Int × Int):=(ws.zip ls).foldl stepS []
def em (l:List (Int × Int)):List (Key × V):=l.map fun p=>(Sum.inl p.1,V.int p.2)
theorem em_val (k:Int):∀ l,(valV (em l) (Sum.inl k)).getD (.int 0)=.int (valI l k)
 | []=>rfl
 | p :: l=>by
  by_cases e:p.1=k
  ·rw [em,List.map_cons,valV_pos (by rw [e])]
   simp [valI,e]
  ·rw [em,List.map_cons,valV_neg (fun q=>e (Sum.inl.inj q))]
   have ih:=em_val k l
   rw [em] at ih
   rw [ih]
   simp [valI,e]
theorem em_any (k:Int) (l:List (Int × Int)):((em l).any fun kv=>decide (kv.1=(Sum.inl k:Key)))=l.any fun p=>decide (p.1=k):=by
 rw [em,List.any_map]
 congr 1
 funext p
 simp
theorem em_put (l:List (Int × Int)) (k v:Int):putK (em l) (Sum.inl k) (.int v)=em (putI l k v):=by
 unfold putK putI
 rw [em_any]
 split
 ·rw [em,em,List.map_map,List.map_map]
  refine List.map_congr_left fun p _=>?_
  by_cases e:p.1=k
  ·simp [e]
  ·simp [e]
 ·simp [em]
theorem putI_len (l:List (Int × Int)) (k v:Int):(putI l k v).length≤l.length+1:=by
 unfold putI
 split
 ·rw [List.length_map]; omega
 ·simp
theorem sums_len:∀ (ps l:List (Int × Int)),(ps.foldl stepS l).length≤l.length+ps.length
 | [],l=>Nat.le_refl _
 | p :: ps,l=>by
  have h1:=sums_len ps (stepS l p)
  have h2:(stepS l p).length≤l.length+1:=putI_len _ _ _
  rw [List.foldl_cons,List.length_cons]
  omega
def spSums (K:PySem.W.Frag):Sp:=fun vs H Q _=>∃ (a b:Addr) (ws ls:List Int),vs=[.ref a,.ref b]∧SqL K H a (ws.map V.int)∧SqL K H b (ls.map V.int)∧ls.length=ws.length∧ws.length≤1000 ∧
 ∀ p H',Same H H'→H p=none→H' p=some (.tup ((sumsOf ws ls).map fun q=>V.int q.2))→Q (.ref p) H'
abbrev nSums:List Str:=["weights","lots","sums","weight","lot"]
theorem scSums:FnScope nSums ["weights","lots"] (defScope sSums):=by constructor<;>first|rfl|decide +kernel
theorem ok_sums {f:Addr} {fd:FuncData} (B:BltP mg) (F:Fun K "sums_to_lots" "sums_to_lots" sSums f fd):FnOk P w K mg base CX0 1 f fd ["weights","lots"] (spSums K):=by
 refine F.ok scSums (fun vs H Q E h=>?_) (fun cdv A outer s H vs Q E hr h=>?_)
 ·obtain ⟨a,b,ws,ls,rfl,_⟩:=h
  rfl
 ·obtain ⟨a,b,ws,ls,rfl,ha,hb,hl,hz,q⟩:=h
  refine ⟨_,pss_cons (ps_set (i:=2) scSums.nd rfl (Or.inl rfl) pe_dnewK)
   (pss_cons (ps_for PassesOwn.never rfl (pi_zip rfl B.zip (pa_cons (pv 0) (pa_cons (pv 1) pa_nil))) (pg_tup rfl (pgs_cons (pg_name (i:=3) scSums.nd rfl (Or.inl rfl)) (pgs_cons (pg_name (i:=4) scSums.nd rfl (Or.inl rfl)) pgs_nil)))
    (pss_one (ps_dput (hu_of hr) (pv 2) (pv 4) (pe_op op_add (pe_dget2 (hu_of hr) (pv 2) (pv 4) pe_int ⟨rfl,rfl,rfl,rfl⟩) (pv 3)) rfl)))
   (pss_one (ps_ret (pe_callTy (call_tupleV rfl) (by rfl) B.tuple boot_tup (pa_cons (pe_bm0 PySem.F.plainAttrs_dict PySem.F.slot_dict_values PySem.F.type_dict_values mt_values (pv 2)) pa_nil))))),?_⟩
  intro N hN
  have sH:Same H (upd H N (.dK [])):=Same.upd hN
  refine ⟨_,rfl,_,rfl,a,b,rfl,⟨_,sH.seq ha⟩,⟨_,sH.seq hb⟩,?_⟩
  refine for_zip (K:=K) (xs:=ws.map V.int) (ys:=ls.map V.int) (by rw [List.length_map,List.length_map,hl])
   (fun i σ H'=>∃ (o3 o4:Option V),σ=[some (.ref a),some (.ref b),some (.ref N),o3,o4]∧Same H H'∧H' N=some (.dK (em (((ws.zip ls).take i).foldl stepS [])))) ?_ ?_ ?_ ?_
  ·exact ⟨none,none,rfl,sH,upd_same⟩
  ·rintro i σ H' _ ⟨o3,o4,rfl,s1,_⟩
   exact ⟨s1.seq ha,s1.seq hb⟩
  ·rintro i x y t σ H' hx hy ⟨o3,o4,rfl,s1,eN⟩ ht
   rw [List.getElem?_map] at hx hy
   obtain ⟨wi,ewi,rfl⟩:=Option.map_eq_some_iff.mp hx
   obtain ⟨li,eli,rfl⟩:=Option.map_eq_some_iff.mp hy
   have nt:N≠t:=ne_of_none eN ht
   have eN':upd H' t (.tup [.int wi,.int li]) N=some (.dK (em (((ws.zip ls).take i).foldl stepS []))):=by rw [upd_ne nt]; exact eN
   have zi:(ws.zip ls)[i]? = some (wi,li):=List.getElem?_zip_eq_some.mpr ⟨ewi,eli⟩
   have tk:(ws.zip ls).take (i+1)=(ws.zip ls).take i++[(wi,li)]:=by rw [List.take_succ,zi]; rfl
   have sm:(em (((ws.zip ls).take i).foldl stepS [])).length≤1000:=by
    have:=sums_len ((ws.zip ls).take i) []
    rw [em,List.length_map]
    rw [List.length_take,List.length_zip] at this
    simp at this
    omega
   refine ⟨t,_,rfl,SqT.of upd_same,rfl,_,_,rfl,_,_,rfl,rfl,?_⟩
   refine ⟨_,rfl,N,rfl,.inl ⟨_,.inl eN'⟩,_,rfl,_,(show DGet _ N (V.int li) (valV (em (((ws.zip ls).take i).foldl stepS [])) (Sum.inl li)) from DGet.k (k:=Sum.inl li) eN'),_,rfl,_,_,em_val _ _,rfl,?_⟩
   refine ⟨_,rfl,_,rfl,N,_,rfl,(show DPut _ N (V.int li) _ _ from DPut.k (k:=Sum.inl li) eN' (small1000 sm)),?_⟩
   refine ⟨_,_,rfl,fun b' ob e=>?_,?_⟩
   ·rw [upd_ne (ne_of_none e hN),upd_ne (ne_of_none (s1 _ _ e) ht)]
    exact s1 _ _ e
   ·rw [upd_same,em_put,tk,List.foldl_append]
    rfl
  ·rintro σ H' ⟨o3,o4,rfl,s1,eN⟩
   rw [List.length_map] at eN
   have tk:(ws.zip ls).take ws.length=ws.zip ls:=by
    rw [List.take_of_length_le]
    rw [List.length_zip]
    omega
   rw [tk] at eN
   refine ⟨_,rfl,?_,N,_,rfl,rfl,eN,fun p hp=>?_⟩
   ·exact .inr (.inr (.inl ⟨rfl,.inl ⟨_,eN⟩⟩))
   ·have np:N≠p:=ne_of_none eN hp
    refine ⟨p,N,_,rfl,upd_same,by rw [upd_ne np]; exact eN,fun t ht=>?_⟩
    have hp0:H p=none:=s1.free hp
    have ht0:H t=none:=s1.free ((Same.upd hp).free ht)
    refine q t _ (s1.trans ((Same.upd hp).trans (Same.upd ht))) ht0 ?_
    rw [upd_same,em,List.map_map]
    rfl
end
section
variable {P:Program} {w:World} {K:PySem.W.Frag} {mg:Str→Option Value} {base:Heap}
def markOf (ls:List Int) (l u:Int) (ws:List Int):Mark:=(l,u,(sumsOf ws ls).map (·.2))
def marksOf (ls:List Int):List Int→List Int→List (List Int)→List Mark
 | l :: rest,u :: us,ws :: M=>markOf ls l u ws :: marksOf ls rest us M
 | _,_,_=>[]
theorem marksOf_len (ls:List Int):∀ (a us:List Int) (M:List (List Int)),us.length=a.length→M.length=a.length→(marksOf ls a us M).length=a.length
 | [],_,_,_,_=>by simp [marksOf]
 | _ :: _,[],_,h,_=>by simp at h
 | _ :: _,_ :: _,[],_,h=>by simp at h
 | l :: a,u :: us,ws :: M,h,h'=>by
  simp only [List.length_cons,Nat.add_right_cancel_iff] at h h'
  simp only [marksOf,List.length_cons,marksOf_len ls a us M h h']
theorem marksOf_get (ls:List Int):∀ (a us:List Int) (M:List (List Int)) (j:Nat) (k:Mark),(marksOf ls a us M)[j]? = some k→∃ l u ws,a[j]? = some l∧us[j]? = some u∧M[j]? = some ws∧k=markOf ls l u ws
 | l :: a,u :: us,ws :: M,0,k,h=>by
  cases h
  exact ⟨l,u,ws,rfl,rfl,rfl,rfl⟩
 | l :: a,u :: us,ws :: M,j+1,k,h=>by
  have h':(marksOf ls a us M)[j]? = some k:=by simpa [marksOf] using h
  simpa using marksOf_get ls a us M j k h'
 | [],_,_,_,_,h=>by simp [marksOf] at h
 | _ :: _,[],_,_,_,h=>by simp [marksOf] at h
 | _ :: _,_ :: _,[],_,_,h=>by simp [marksOf] at h
def spSplit (K:PySem.W.Frag):Sp:=fun vs H Q _=>∃ (v:V) (b:Addr) (us ls:List Int) (M:List (List Int)),vs=[v,.ref b]∧WbAt K H v us M∧SqL K H b (ls.map V.int)∧us.length=ls.length∧M.length=ls.length∧ls.length≤1000∧(∀ ws ∈ M,ws.length=ls.length) ∧
 ∀ p H',Same H H'→H p=none→H' p=some (.lst ((numb (marksOf ls ls us M)).map fun (n:Nat)=>V.int (n:Int)))→Q (.ref p) H'
abbrev nSplit:List Str:=["web","lots","sums"]
theorem scSplit:FnScope nSplit ["web","lots"] (defScope sSplit):=by constructor<;>first|rfl|decide +kernel
theorem lcSplit:LcScope (defScope sSplit) nSplit (lcScope (asgVal (bodyAt sSplit 0))) "weights":=by constructor<;>first|rfl|decide +kernel
theorem ok_split {f fN fS:Addr} {fd fdN fdS:FuncData} (B:BltP mg) (F:Fun K "split_up" "split_up" sSplit f fd) (DN:Dn K mg "numbered" sNumbered ["marks"] fN fdN) (GN:FnOk P w K mg base CX0 1 fN fdN ["marks"] (spNum K mKey))
  (DS:Dn K mg "sums_to_lots" sSums ["weights","lots"] fS fdS) (GS:FnOk P w K mg base CX0 1 fS fdS ["weights","lots"] (spSums K)):FnOk P w K mg base CX0 2 f fd ["web","lots"] (spSplit K):=by
 refine F.ok scSplit (fun vs H Q E h=>?_) (fun cdv A outer s H vs Q E hr h=>?_)
 ·obtain ⟨v,b,us,ls,M,rfl,_⟩:=h
  rfl
 ·obtain ⟨v,b,us,ls,M,rfl,⟨p,hu,r,rs,rfl,hp,hh,hR,lR,hrow⟩,hb,l1,l2,l3,l4,q⟩:=h
  refine ⟨_,pss_cons (ps_setLc (i:=2) scSplit.nd rfl (Or.inl rfl) rfl lcSplit rfl (pi_list (pe_ix ix_tup (pv 0) pe_int (fun _ _=>rfl))) (fun _ _ _=>pe_fn DS GS hr rfl (pa_cons (pv 3) (pa_cons (pv 1) pa_nil))))
   (pss_one (ps_ret (pe_fn DN GN hr rfl (pa_cons (pe_listZip3 rfl rfl B.zip rfl B.list (pa_cons (pv 1) (pa_cons (pe_ix ix_tup (pv 0) pe_int (fun _ _=>rfl)) (pa_cons (pv 2) pa_nil)))) pa_nil)))),?_⟩
  refine ⟨_,rfl,p,_,_,_,rfl,rfl,hp,rfl,r,rfl,⟨_,hR⟩,fun D hD=>?_⟩
  refine lc_list (K:=K) (xs:=rs.map V.ref) (fun i ys H'=>∃ ts:List Addr,ys=ts.map V.ref∧ts.length=i∧Same H H'∧H' D=some (.lst ys) ∧
   ∀ (j:Nat) (t:Addr) (ws:List Int),ts[j]? = some t→M[j]? = some ws→H' t=some (.tup ((sumsOf ws ls).map fun q=>V.int q.2))∧t≠D) ?_ ?_ ?_ ?_ ?_
  ·exact ⟨[],rfl,rfl,Same.upd hD,upd_same,fun j t ws e=>by simp at e⟩
  ·rintro i ys H' _ ⟨ts,rfl,lt,s1,eD,_⟩
   exact ⟨s1.seq hR,eD⟩
  ·rintro i x ys H' hx ⟨ts,rfl,lt,s1,eD,ht⟩
   obtain ⟨ra,hra,rfl⟩:=map_get hx
   have li:i < M.length:=by rw [←lR]; exact (List.getElem?_eq_some_iff.mp hra).1
   have hM:M[i]? = some (M[i]'li):=List.getElem?_eq_getElem li
   have lw:=l4 _ (List.mem_of_getElem? hM)
   refine ⟨_,rfl,_,rfl,ra,b,M[i]'li,ls,rfl,s1.seq (hrow i ra _ hra hM),s1.seq hb,by omega,by omega,fun t H3 s3 nt et=>?_⟩
   have eD3:=s3 _ _ eD
   have ntD:t≠D:=fun z=>by subst z; rw [eD] at nt; cases nt
   refine ⟨eD3,small1000 (by rw [List.length_map]; omega),ts++[t],by rw [List.map_append]; rfl,by rw [List.length_append,List.length_singleton,lt],fun b' o e=>?_,upd_same,?_⟩
   ·rw [upd_ne (ne_of_none e hD)]
    exact s3 _ _ (s1 _ _ e)
   ·intro j t' ws e1 e2
    rcases Nat.lt_or_ge j ts.length with lj | lj
    ·rw [List.getElem?_append_left lj] at e1
     obtain ⟨g1,g2⟩:=ht j t' ws e1 e2
     rw [upd_ne g2]
     exact ⟨s3 _ _ g1,g2⟩
    ·rw [List.getElem?_append_right lj] at e1
     obtain rfl:j=ts.length:=by
      have:=(List.getElem?_eq_some_iff.mp e1).1
      rw [List.length_singleton] at this
      omega
     rw [Nat.sub_self] at e1
     cases e1
     rw [lt,hM] at e2
     cases e2
     rw [upd_ne ntD]
     exact ⟨et,ntD⟩
  ·rintro ys H' ⟨ts,rfl,lt,s1,eD,ht⟩
   rw [List.length_map] at lt
   refine ⟨_,rfl,_,rfl,p,_,_,_,rfl,rfl,s1.seqT hp,rfl,_,rfl,b,hu,D,_,_,_,rfl,s1.seq hb,s1.seq hh,SqL.of eD,by rw [List.length_map,List.length_map,l1],by rw [List.length_map,List.length_map]; omega,fun S Ts H2 R3=>?_⟩
   have lts:ts.length=ls.length:=by rw [lt,lR,l2]
   have s2:Same H' H2:=fun b' o e=>(R3.oth b' (ne_of_none e R3.newS) fun m=>by rw [R3.newT b' m] at e; cases e).trans e
   have lr:=rows3_len (ls.map V.int) (us.map V.int) (ts.map V.ref) (by rw [List.length_map,List.length_map,l1]) (by rw [List.length_map,List.length_map,lts])
   have lm:=marksOf_len ls ls us M l1 l2
   refine ⟨S,Ts.map V.ref,marksOf ls ls us M,rfl,SqL.of R3.s,by rw [List.length_map,R3.len,lr,List.length_map,lm],by rw [lm]; exact l3,?_,fun p' H4 s4 n4 e4=>q p' H4 (s1.trans (s2.trans s4)) ((s1.trans s2).free n4) e4⟩
   intro j y k hy hk
   obtain ⟨t,et,rfl⟩:=map_get hy
   obtain ⟨l,u,ws,g1,g2,g3,rfl⟩:=marksOf_get ls ls us M j k hk
   have lj:j < ts.length:=by rw [lts]; exact (List.getElem?_eq_some_iff.mp g1).1
   have g4:ts[j]? = some (ts[j]'lj):=List.getElem?_eq_getElem lj
   refine ⟨t,rfl,ts[j]'lj,?_,?_⟩
   ·exact R3.row j t _ et (rows3_get _ _ _ j _ _ _ (by rw [List.getElem?_map,g1]; rfl) (by rw [List.getElem?_map,g2]; rfl) (by rw [List.getElem?_map,g4]; rfl))
   ·rw [s2 _ _ (ht j _ ws g4 g3).1]
    show _=some (HO.tup (((sumsOf ws ls).map (·.2)).map V.int))
    rw [List.map_map]
    rfl
  ·rintro σ H' Q1 Q2 hq ⟨v,e,v',e',a1,a2,a3,a4,a5,a6,a7,a8,a9,g⟩
   exact ⟨v,e,v',e',a1,a2,a3,a4,a5,a6,a7,a8,a9,fun t H3 s3 n3 e3=>hq _ _ (g t H3 s3 n3 e3)⟩
theorem mKey_same {H H':Hp} {y:V} {k:Mark} (s:Same H H') (h:mKey H y k):mKey H' y k:=by
 obtain ⟨a,e,b,h1,h2⟩:=h
 exact ⟨a,e,b,s _ _ h1,s _ _ h2⟩
theorem ok_numM {f:Addr} {fd:FuncData} (B:BltP mg) (F:Fun K "numbered" "numbered" sNumbered f fd):FnOk P w K mg base CX0 1 f fd ["marks"] (spNum K mKey) :=
 ok_num (P:=P) (w:=w) (base:=base) (key:=mKey) (obj:=mObj P w) (fun X e1 e2 e3=>by subst e1 e2; exact kd_mark (by omega)) mKey_same B F
end
section
theorem putI_keys (l:List (Int × Int)) (k v:Int):(putI l k v).map (·.1)=seenAdd (l.map (·.1)) k:=by
 unfold putI seenAdd
 by_cases m:k ∈ l.map (·.1)
 ·rw [if_pos m,if_pos (by
   obtain ⟨p,hp,e⟩:=List.mem_map.mp m
   exact List.any_eq_true.mpr ⟨p,hp,by simpa using e⟩),List.map_map]
  refine List.map_congr_left fun p _=>?_
  by_cases e:p.1=k
  ·simp [e]
  ·simp [e]
 ·rw [if_neg m,if_neg (fun h=>by
   obtain ⟨p,hp,e⟩:=List.any_eq_true.mp h
   exact m (List.mem_map.mpr ⟨p,hp,by simpa using e⟩)),List.map_append]
  rfl
theorem valI_cons (p:Int × Int) (l:List (Int × Int)) (j:Int):valI (p :: l) j=if p.1=j then p.2 else valI l j:=by
 by_cases e:p.1=j
 ·simp [valI,e]
 ·simp [valI,e]
theorem valI_map (k v j:Int):∀ l:List (Int × Int),k ∈ l.map (·.1)→valI (l.map fun p=>if p.1=k then (p.1,v) else p) j=if j=k then v else valI l j
 | [],h=>by simp at h
 | p :: l,h=>by
  rw [List.map_cons,valI_cons,valI_cons]
  by_cases e:p.1=k
  ·rw [if_pos e]
   by_cases e':p.1=j
   ·rw [if_pos (by exact e'),if_pos (e'.symm.trans e)]
   ·rw [if_neg (by exact e'),if_neg (fun q=>e' (e.trans q.symm)),if_neg e']
    by_cases m:k ∈ l.map (·.1)
    ·rw [valI_map k v j l m,if_neg (fun q=>e' (e.trans q.symm))]
    ·have:(l.map fun p=>if p.1=k then (p.1,v) else p)=l:=by
      conv=>rhs; rw [←List.map_id l]
      refine List.map_congr_left fun q hq=>?_
      rw [if_neg (fun z=>m (List.mem_map.mpr ⟨q,hq,z⟩))]
      rfl
     rw [this]
  ·rw [if_neg e]
   have m:k ∈ l.map (·.1):=by
    rw [List.map_cons,List.mem_cons] at h
    exact h.resolve_left fun q=>e q.symm
   rw [valI_map k v j l m]
   by_cases e':p.1=j
   ·rw [if_pos e',if_pos e',if_neg (fun q=>e (e'.trans q))]
   ·rw [if_neg e',if_neg e']
theorem valI_snoc (k v j:Int):∀ l:List (Int × Int),k ∉ l.map (·.1)→valI (l++[(k,v)]) j=if j=k then v else valI l j
 | [],_=>by
  rw [List.nil_append,valI_cons]
  by_cases e:j=k
  ·rw [if_pos e,if_pos e.symm]
  ·rw [if_neg e,if_neg (fun q=>e q.symm)]
 | p :: l,h=>by
  rw [List.map_cons,List.mem_cons,not_or] at h
  rw [List.cons_append,valI_cons,valI_cons,valI_snoc k v j l h.2]
  by_cases e':p.1=j
  ·rw [if_pos e',if_pos e',if_neg (fun q=>h.1 (q.symm.trans e'.symm))]
  ·rw [if_neg e',if_neg e']
theorem putI_val (l:List (Int × Int)) (k v j:Int):valI (putI l k v) j=if j=k then v else valI l j:=by
 unfold putI
 by_cases m:k ∈ l.map (·.1)
 ·rw [if_pos (by
   obtain ⟨p,hp,e⟩:=List.mem_map.mp m
   exact List.any_eq_true.mpr ⟨p,hp,by simpa using e⟩)]
  exact valI_map k v j l m
 ·rw [if_neg (fun h=>by
   obtain ⟨p,hp,e⟩:=List.any_eq_true.mp h
   exact m (List.mem_map.mpr ⟨p,hp,by simpa using e⟩))]
  exact valI_snoc k v j l m
def sumP (ps:List (Int × Int)) (l:Int):Int:=((ps.filter fun p=>decide (p.2=l)).map (·.1)).sum
theorem fold_keys:∀ (ps l:List (Int × Int)),(ps.foldl stepS l).map (·.1)=(ps.map (·.2)).foldl seenAdd (l.map (·.1))
 | [],_=>rfl
 | p :: ps,l=>by
  rw [List.foldl_cons,fold_keys ps,List.map_cons,List.foldl_cons]
  congr 1
  exact putI_keys _ _ _
theorem fold_val (j:Int):∀ (ps l:List (Int × Int)),valI (ps.foldl stepS l) j=valI l j+sumP ps j
 | [],l=>by simp [sumP]
 | p :: ps,l=>by
  rw [List.foldl_cons,fold_val j ps]
  show valI (putI l p.2 (valI l p.2+p.1)) j+_=_
  rw [putI_val]
  by_cases e:p.2=j
  ·rw [if_pos e.symm,sumP,sumP,List.filter_cons_of_pos (by simpa using e),List.map_cons,List.sum_cons,e]
   omega
  ·rw [if_neg (fun q=>e q.symm),sumP,sumP,List.filter_cons_of_neg (by simpa using e)]
theorem seen_nodup {κ:Type} [DecidableEq κ]:∀ (ks s:List κ),s.Nodup→(ks.foldl seenAdd s).Nodup
 | [],_,h=>h
 | k :: ks,s,h=>by
  rw [List.foldl_cons]
  refine seen_nodup ks _ ?_
  unfold seenAdd
  split
  ·exact h
  ·rename_i m
   rw [List.nodup_append]
   refine ⟨h,by simp,fun x hx y hy e=>?_⟩
   rw [List.mem_singleton] at hy
   exact m (hy ▸ e ▸ hx)
theorem seen_mem {κ:Type} [DecidableEq κ] {x:κ}:∀ (ks s:List κ),x ∈ ks.foldl seenAdd s↔x ∈ s ∨ x ∈ ks
 | [],s=>by simp
 | k :: ks,s=>by
  rw [List.foldl_cons,seen_mem ks,List.mem_cons]
  have:x ∈ seenAdd s k↔x ∈ s ∨ x=k:=by
   unfold seenAdd
   split
   ·rename_i m
    constructor
    ·exact .inl
    ·rintro (q | rfl)
     ·exact q
     ·exact m
   ·rw [List.mem_append,List.mem_singleton]
  rw [this,or_assoc]
theorem snd_of:∀ (l:List (Int × Int)),(l.map (·.1)).Nodup→l.map (·.2)=(l.map (·.1)).map (valI l)
 | [],_=>rfl
 | p :: l,h=>by
  rw [List.map_cons,List.nodup_cons] at h
  rw [List.map_cons,List.map_cons,List.map_cons,valI_cons,if_pos rfl,snd_of l h.2]
  congr 1
  refine List.map_congr_left fun k hk=>?_
  have n:¬ p.1=k:=fun q=>h.1 (by rw [q]; exact hk)
  rw [valI_cons,if_neg n]
theorem sums_iff {ws ws' ls:List Int} (h:ls.length=ws.length) (h':ls.length=ws'.length):(sumsOf ws ls).map (·.2)=(sumsOf ws' ls).map (·.2)↔∀ l ∈ ls,sumP (ws.zip ls) l=sumP (ws'.zip ls) l:=by
 have key:∀ {vs:List Int},ls.length=vs.length→(sumsOf vs ls).map (·.1)=ls.foldl seenAdd []:=by
  intro vs hv
  unfold sumsOf
  rw [fold_keys,List.map_snd_zip (by omega)]
  rfl
 have val:∀ (vs:List Int) (l:Int),valI (sumsOf vs ls) l=sumP (vs.zip ls) l:=by
  intro vs l
  unfold sumsOf
  rw [fold_val]
  show 0+_=_
  omega
 have nd:(ls.foldl seenAdd []).Nodup:=seen_nodup ls [] List.nodup_nil
 rw [snd_of _ (by rw [key h]; exact nd),snd_of _ (by rw [key h']; exact nd),key h,key h',List.map_inj_left]
 constructor
 ·intro q l hl
  rw [←val,←val]
  exact q l ((seen_mem ls []).mpr (.inr hl))
 ·intro q l hl
  rw [val,val]
  exact q l (((seen_mem ls []).mp hl).resolve_left (by simp))
theorem even_iff {us ls:List Int} {M:List (List Int)} (h1:us.length=ls.length) (h2:M.length=ls.length) (h3:∀ ws ∈ M,ws.length=ls.length) :
  numb (marksOf ls ls us M)=numb ls↔∀ (i j:Nat) (l u u':Int) (ws ws':List Int),ls[i]? = some l→ls[j]? = some l→us[i]? = some u→us[j]? = some u'→M[i]? = some ws→M[j]? = some ws'→u=u'∧∀ o ∈ ls,sumP (ws.zip ls) o=sumP (ws'.zip ls) o:=by
 have lm:=marksOf_len ls ls us M h1 h2
 have get:∀ {i:Nat} {l u:Int} {ws:List Int},ls[i]? = some l→us[i]? = some u→M[i]? = some ws→(marksOf ls ls us M)[i]? = some (markOf ls l u ws):=by
  intro i l u ws e1 e2 e3
  have lt:i < (marksOf ls ls us M).length:=by rw [lm]; exact (List.getElem?_eq_some_iff.mp e1).1
  obtain ⟨l',u',ws',g1,g2,g3,g4⟩:=marksOf_get ls ls us M i _ (List.getElem?_eq_getElem lt)
  rw [e1] at g1
  rw [e2] at g2
  rw [e3] at g3
  cases g1
  cases g2
  cases g3
  rw [List.getElem?_eq_getElem lt,g4]
 rw [numb_iff lm]
 constructor
 ·intro q i j l u u' ws ws' a1 a2 b1 b2 c1 c2
  have e:=(q i j _ _ l l (get a1 b1 c1) (get a2 b2 c2) a1 a2).mpr rfl
  unfold markOf at e
  injection e with e1 e2
  injection e2 with e2 e3
  exact ⟨e2,(sums_iff (h3 ws (List.mem_of_getElem? c1)).symm (h3 ws' (List.mem_of_getElem? c2)).symm).mp e3⟩
 ·intro q i j k k' l l' a1 a2 b1 b2
  obtain ⟨l1,u1,w1,g1,g2,g3,rfl⟩:=marksOf_get ls ls us M i k a1
  obtain ⟨l2,u2,w2,f1,f2,f3,rfl⟩:=marksOf_get ls ls us M j k' a2
  rw [b1] at g1
  rw [b2] at f1
  cases g1
  cases f1
  constructor
  ·intro e
   unfold markOf at e
   injection e
  ·rintro rfl
   obtain ⟨p1,p2⟩:=q i j l u1 u2 w1 w2 b1 b2 g2 f2 g3 f3
   unfold markOf
   rw [p1,(sums_iff (h3 w1 (List.mem_of_getElem? g3)).symm (h3 w2 (List.mem_of_getElem? f3)).symm).mpr p2]
end
section
def Pr (us ls:List Int) (M:List (List Int)) (i j:Nat):Prop:=∀ (l u u':Int) (ws ws':List Int),ls[i]? = some l→ls[j]? = some l→us[i]? = some u→us[j]? = some u'→M[i]? = some ws→M[j]? = some ws'→u=u'∧∀ o ∈ ls,sumP (ws.zip ls) o=sumP (ws'.zip ls) o
end
section
theorem sumP_cons (w p:Int) (ps:List (Int × Int)) (l:Int):sumP ((w,p) :: ps) l=(if p=l then w else 0)+sumP ps l:=by
 unfold sumP
 by_cases e:p=l
 ·rw [List.filter_cons_of_pos (by simpa using e),if_pos e]
  simp
 ·rw [List.filter_cons_of_neg (by simpa using e),if_neg e]
  simp
theorem sum_add {α:Type} (a b:α→Int):∀ D:List α,(D.map fun q=>a q+b q).sum=(D.map a).sum+(D.map b).sum
 | []=>rfl
 | x :: D=>by
  rw [List.map_cons,List.map_cons,List.map_cons,List.sum_cons,List.sum_cons,List.sum_cons,sum_add a b D]
  omega
theorem sum_one (p w:Int) (g:Int→Bool):∀ D:List Int,D.Nodup→((D.filter g).map fun q=>if p=q then w else 0).sum=if p ∈ D∧g p=true then w else 0
 | [],_=>by simp
 | x :: D,h=>by
  rw [List.nodup_cons] at h
  have ih:=sum_one p w g D h.2
  by_cases gx:g x=true
  ·rw [List.filter_cons_of_pos gx,List.map_cons,List.sum_cons,ih]
   by_cases e:p=x
   ·subst e
    rw [if_pos rfl,if_neg (fun z=>h.1 z.1),if_pos ⟨List.mem_cons_self,gx⟩]
    omega
   ·rw [if_neg e]
    by_cases m:p ∈ D∧g p=true
    ·rw [if_pos m,if_pos ⟨List.mem_cons_of_mem _ m.1,m.2⟩]; omega
    ·rw [if_neg m,if_neg (fun z=>m ⟨(List.mem_cons.mp z.1).resolve_left e,z.2⟩)]; omega
  ·rw [List.filter_cons_of_neg gx,ih]
   by_cases e:p=x
   ·subst e
    rw [if_neg (fun z=>h.1 z.1),if_neg (fun z=>gx z.2)]
   ·by_cases m:p ∈ D∧g p=true
    ·rw [if_pos m,if_pos ⟨List.mem_cons_of_mem _ m.1,m.2⟩]
    ·rw [if_neg m,if_neg (fun z=>m ⟨(List.mem_cons.mp z.1).resolve_left e,z.2⟩)]
theorem sum_lots (f:Int→Int) (o:Int) (D:List Int) (hD:D.Nodup):∀ (ws P:List Int),(∀ p ∈ P,p ∈ D)→sumP (ws.zip (P.map f)) o=((D.filter fun p=>decide (f p=o)).map fun p=>sumP (ws.zip P) p).sum
 | [],P,_=>by
  simp only [List.zip_nil_left,sumP,List.filter_nil,List.map_nil,List.sum_nil]
  induction (D.filter fun p=>decide (f p=o)) with
  | nil=>rfl
  | cons x l ih=>rw [List.map_cons,List.sum_cons,←ih]; rfl
 | _ :: _,[],_=>by
  simp only [List.map_nil,List.zip_nil_right,sumP,List.filter_nil,List.map_nil,List.sum_nil]
  induction (D.filter fun p=>decide (f p=o)) with
  | nil=>rfl
  | cons x l ih=>rw [List.map_cons,List.sum_cons,←ih]; rfl
 | w :: ws,p :: P,h=>by
  rw [List.map_cons,List.zip_cons_cons,List.zip_cons_cons,sumP_cons,sum_lots f o D hD ws P fun q hq=>h q (List.mem_cons_of_mem _ hq)]
  have e:(fun q=>sumP ((w,p) :: ws.zip P) q)=fun q=>(if p=q then w else 0)+sumP (ws.zip P) q:=by
   funext q
   exact sumP_cons _ _ _ _
  rw [e,sum_add,sum_one p w _ D hD]
  congr 1
  have pm:=h p List.mem_cons_self
  by_cases e:f p=o
  ·rw [if_pos e,if_pos ⟨pm,by simpa using e⟩]
  ·rw [if_neg e,if_neg (fun z=>e (by simpa using z.2))]
theorem finer_map {P L:List Int} (l:P.length=L.length) (f:Finer P L):L=P.map fun p=>(L[P.idxOf p]?).getD 0:=by
 apply List.ext_getElem?
 intro i
 rw [List.getElem?_map]
 by_cases hi:i < P.length
 ·obtain ⟨p,hp⟩:=get_lt hi
  obtain ⟨x,hx⟩:=get_lt (l:=L) (i:=i) (by omega)
  have hm:p ∈ P:=List.mem_of_getElem? hp
  have lt:=List.idxOf_lt_length_iff.mpr hm
  have g1:P[P.idxOf p]? = some p:=by rw [List.getElem?_eq_getElem lt,List.getElem_idxOf lt]
  obtain ⟨y,hy⟩:=get_lt (l:=L) (i:=P.idxOf p) (by omega)
  rw [hp,hx,Option.map_some,hy,Option.getD_some,f i (P.idxOf p) p x y hp g1 hx hy]
 ·rw [List.getElem?_eq_none (by omega),List.getElem?_eq_none (by omega)]
  rfl
theorem sums_finer {P L ws ws':List Int} (l:P.length=L.length) (f:Finer P L) (h:∀ p ∈ P,sumP (ws.zip P) p=sumP (ws'.zip P) p) (o:Int):sumP (ws.zip L) o=sumP (ws'.zip L) o:=by
 have nd:(P.foldl seenAdd []).Nodup:=seen_nodup P [] List.nodup_nil
 have mem:∀ p ∈ P,p ∈ P.foldl seenAdd []:=fun p hp=>(seen_mem P []).mpr (.inr hp)
 rw [finer_map l f,sum_lots _ o _ nd ws P mem,sum_lots _ o _ nd ws' P mem]
 congr 1
 refine List.map_congr_left fun p hp=>h p ?_
 exact ((seen_mem P []).mp (List.mem_filter.mp hp).1).resolve_left (by simp)
def stepL (us:List Int) (M:List (List Int)) (ls:List Int):List Int:=nI (numb (marksOf ls ls us M))
theorem marks_at {us ls:List Int} {M:List (List Int)} (h1:us.length=ls.length) (h2:M.length=ls.length) {i:Nat} {l u:Int} {ws:List Int} (e1:ls[i]? = some l) (e2:us[i]? = some u) (e3:M[i]? = some ws):(marksOf ls ls us M)[i]? = some (markOf ls l u ws):=by
 have lm:=marksOf_len ls ls us M h1 h2
 obtain ⟨k,hk⟩:=get_lt (l:=marksOf ls ls us M) (i:=i) (by rw [lm]; exact lt_get e1)
 obtain ⟨l',u',ws',g1,g2,g3,g4⟩:=marksOf_get ls ls us M i k hk
 rw [e1] at g1
 rw [e2] at g2
 rw [e3] at g3
 cases g1
 cases g2
 cases g3
 rw [hk,g4]
theorem step_len {us ls:List Int} {M:List (List Int)} (h1:us.length=ls.length) (h2:M.length=ls.length):(stepL us M ls).length=ls.length:=by
 rw [stepL,nI,List.length_map,numb_len,marksOf_len ls ls us M h1 h2]
theorem step_get {us ls:List Int} {M:List (List Int)} (h1:us.length=ls.length) (h2:M.length=ls.length) (h3:∀ ws ∈ M,ws.length=ls.length) {i j:Nat} {l l' u u' a b:Int} {ws ws':List Int}
  (e1:ls[i]? = some l) (e2:us[i]? = some u) (e3:M[i]? = some ws) (f1:ls[j]? = some l') (f2:us[j]? = some u') (f3:M[j]? = some ws') (g1:(stepL us M ls)[i]? = some a) (g2:(stepL us M ls)[j]? = some b) :
  a=b↔l=l'∧u=u'∧∀ o ∈ ls,sumP (ws.zip ls) o=sumP (ws'.zip ls) o:=by
 rw [stepL,nI_get] at g1 g2
 obtain ⟨x,hx,rfl⟩:=Option.map_eq_some_iff.mp g1
 obtain ⟨y,hy,rfl⟩:=Option.map_eq_some_iff.mp g2
 have:=numb_get (marks_at h1 h2 e1 e2 e3) (marks_at h1 h2 f1 f2 f3) hx hy
 rw [Int.ofNat_inj,this,←sums_iff (h3 ws (List.mem_of_getElem? e3)).symm (h3 ws' (List.mem_of_getElem? f3)).symm]
 unfold markOf
 constructor
 ·intro q
  injection q with q1 q2
  injection q2 with q2 q3
  exact ⟨q1,q2,q3⟩
 ·rintro ⟨rfl,rfl,q⟩
  rw [q]
theorem step_finer {us ls P:List Int} {M:List (List Int)} (h1:us.length=ls.length) (h2:M.length=ls.length) (h3:∀ ws ∈ M,ws.length=ls.length) (lP:P.length=ls.length) (ev:∀ i j,Pr us P M i j) (f:Finer P ls):Finer P (stepL us M ls):=by
 intro i j p a b e1 e2 g1 g2
 obtain ⟨l,hl⟩:=get_lt (l:=ls) (i:=i) (by rw [←lP]; exact lt_get e1)
 obtain ⟨l',hl'⟩:=get_lt (l:=ls) (i:=j) (by rw [←lP]; exact lt_get e2)
 obtain ⟨u,hu⟩:=get_lt (l:=us) (i:=i) (by rw [h1]; exact lt_get hl)
 obtain ⟨u',hu'⟩:=get_lt (l:=us) (i:=j) (by rw [h1]; exact lt_get hl')
 obtain ⟨ws,hw⟩:=get_lt (l:=M) (i:=i) (by rw [h2]; exact lt_get hl)
 obtain ⟨ws',hw'⟩:=get_lt (l:=M) (i:=j) (by rw [h2]; exact lt_get hl')
 obtain ⟨q1,q2⟩:=ev i j p u u' ws ws' e1 e2 hu hu' hw hw'
 exact (step_get h1 h2 h3 hl hu hw hl' hu' hw' g1 g2).mpr ⟨f i j p l l' e1 e2 hl hl',q1,fun o _=>sums_finer lP f q2 o⟩
theorem step_within {us ls:List Int} {M:List (List Int)} (h1:us.length=ls.length) (h2:M.length=ls.length) (h3:∀ ws ∈ M,ws.length=ls.length):Finer (stepL us M ls) ls:=by
 intro i j a l l' g1 g2 hl hl'
 obtain ⟨u,hu⟩:=get_lt (l:=us) (i:=i) (by rw [h1]; exact lt_get hl)
 obtain ⟨u',hu'⟩:=get_lt (l:=us) (i:=j) (by rw [h1]; exact lt_get hl')
 obtain ⟨ws,hw⟩:=get_lt (l:=M) (i:=i) (by rw [h2]; exact lt_get hl)
 obtain ⟨ws',hw'⟩:=get_lt (l:=M) (i:=j) (by rw [h2]; exact lt_get hl')
 exact ((step_get h1 h2 h3 hl hu hw hl' hu' hw' g1 g2).mp rfl).1
theorem step_even {us ls:List Int} {M:List (List Int)} (h1:us.length=ls.length) (h2:M.length=ls.length) (h3:∀ ws ∈ M,ws.length=ls.length) (nm:Norm ls) (e:stepL us M ls=ls):∀ i j,Pr us ls M i j:=by
 have q:numb (marksOf ls ls us M)=numb ls:=nI_inj (by rw [show nI (numb (marksOf ls ls us M))=ls from e]; exact nm)
 exact (even_iff h1 h2 h3).mp q
structure Coarse (us:List Int) (M:List (List Int)) (ls:List Int):Prop where
 len:us.length=ls.length
 norm:Norm ls
 even:∀ i j,Pr us ls M i j
 top:∀ P:List Int,P.length=ls.length→(∀ i j,Pr us P M i j)→Finer P ls
theorem Coarse.uniq {us:List Int} {M:List (List Int)} {a b:List Int} (A:Coarse us M a) (B:Coarse us M b):a=b:=by
 have l:a.length=b.length:=A.len.symm.trans B.len
 exact norm_eq A.norm B.norm l (B.top a l A.even) (A.top b l.symm B.even)
end
section
variable {P:Program} {w:World} {K:PySem.W.Frag} {mg:Str→Option Value} {base:Heap}
def spCoarsest (K:PySem.W.Frag):Sp:=fun vs H Q _=>∃ (v:V) (us:List Int) (M:List (List Int)),vs=[v]∧WbAt K H v us M∧M.length=us.length∧us.length≤100∧(∀ ws ∈ M,ws.length=us.length) ∧
 ∀ p ls H',Same H H'→H p=none→H' p=some (.lst (ls.map V.int))→Coarse us M ls→Q (.ref p) H'
abbrev nCoarsest:List Str:=["web","lots","finer"]
theorem scCoarsest:FnScope nCoarsest ["web"] (defScope sCoarsest):=by constructor<;>first|rfl|decide +kernel
theorem ok_coarsest {f fS:Addr} {fd fdS:FuncData} (B:BltP mg) (F:Fun K "coarsest_parting" "coarsest_parting" sCoarsest f fd) (DS:Dn K mg "split_up" sSplit ["web","lots"] fS fdS) (GS:FnOk P w K mg base CX0 2 fS fdS ["web","lots"] (spSplit K)):FnOk P w K mg base CX0 3 f fd ["web"] (spCoarsest K):=by
 refine F.ok scCoarsest (fun vs H Q E h=>?_) (fun cdv A outer s H vs Q E hr h=>?_)
 ·obtain ⟨v,us,M,rfl,_⟩:=h
  rfl
 ·obtain ⟨v,us,M,rfl,hW,lM,lu,l3,q⟩:=h
  have hW0:=hW
  obtain ⟨p,hA,rA,rs,rfl,hp,hh,hR,lR,hrow⟩:=hW
  refine ⟨_,pss_cons (ps_set (i:=1) scCoarsest.nd rfl (Or.inl rfl) (pe_op op_rep (pe_lst (pa_cons pe_int pa_nil)) (pe_callB call_len_seq (by rfl) B.len PySem.boot_len (pa_cons (pe_ix ix_tup (pv 0) pe_int (fun _ _=>rfl)) pa_nil))))
   (pss_cons (ps_set (i:=2) scCoarsest.nd rfl (Or.inl rfl) (pe_fn DS GS hr rfl (pa_cons (pv 0) (pa_cons (pv 1) pa_nil))))
   (pss_cons (ps_while PassesOwn.never (pt_cmpR (op_neD hr.units) (pv 2) (pv 1) (nomark _))
    (pss_cons (ps_set (i:=1) scCoarsest.nd rfl (Or.inl rfl) (pv 2))
    (pss_one (ps_set (i:=2) scCoarsest.nd rfl (Or.inl rfl) (pe_fn DS GS hr rfl (pa_cons (pv 0) (pa_cons (pv 1) pa_nil)))))))
   (pss_one (ps_ret (pv 1))))),?_⟩
  refine ⟨(by show 1≤sizeLine; decide),fun l1 hl1=>?_⟩
  have s0:Same H (L2.upd H l1 (.lst [.int 0])):=Same.upd hl1
  have e0:L2.upd H l1 (.lst [.int 0]) l1=some (.lst [.int 0]):=upd_same
  generalize L2.upd H l1 (.lst [.int 0])=H0 at s0 e0 ⊢
  refine ⟨_,rfl,p,_,_,_,rfl,rfl,s0.seqT hp,rfl,hA,_,rfl,.inl (s0.seq hh),?_⟩
  rw [List.length_map]
  refine ⟨l1,(us.length:Int),_,rfl,rfl,e0,by omega,by omega,Nat.le_of_lt (small1000 (by show 1 * (us.length:Int).toNat≤1000; omega)),fun L hL=>?_⟩
  rw [Int.toNat_natCast,zeros_map]
  have s1:Same H (L2.upd H0 L (.lst ((List.replicate us.length (0:Int)).map V.int))):=s0.trans (Same.upd hL)
  have e1:L2.upd H0 L (.lst ((List.replicate us.length (0:Int)).map V.int)) L=some (.lst ((List.replicate us.length (0:Int)).map V.int)):=upd_same
  generalize L2.upd H0 L (.lst ((List.replicate us.length (0:Int)).map V.int))=H1 at s1 e1 ⊢
  have nL:H L=none:=s0.free hL
  have l0:(List.replicate us.length (0:Int)).length=us.length:=List.length_replicate
  refine ⟨_,rfl,_,rfl,.ref p,L,us,_,M,rfl,hW0.same s1,SqL.of e1,by rw [l0],by rw [l0,lM],by rw [l0]; omega,fun ws hws=>by rw [l3 ws hws,l0],fun F H2 s2 n2 e2=>?_⟩
  rw [nI_V] at e2
  refine ⟨fun m σ H'=>∃ (L F:Addr) (ls:List Int),σ=[some (.ref p),some (.ref L),some (.ref F)]∧Same H H'∧H L=none∧H F=none∧H' L=some (.lst (ls.map V.int))∧H' F=some (.lst ((stepL us M ls).map V.int))∧ls.length=us.length∧Norm ls ∧
   (∀ P:List Int,P.length=us.length→(∀ i j,Pr us P M i j)→Finer P ls)∧m=shar us.length ls,⟨_,L,F,_,rfl,s1.trans s2,nL,s1.free n2,s2 _ _ e1,e2,l0,norm_zeros _,fun P _ _=>finer_zeros,rfl⟩,?_⟩
  rintro m σ H3 ⟨L',F',ls,rfl,s3,nL',nF',eL,eF,ll,nm,tp,rfl⟩
  have h1:us.length=ls.length:=ll.symm
  have h2:M.length=ls.length:=by omega
  have h3:∀ ws ∈ M,ws.length=ls.length:=fun ws hws=>by rw [l3 ws hws,ll]
  refine ⟨_,rfl,_,rfl,_,_,daI (K:=K) (ok:=any) trivial (SqL.of eF),daI (K:=K) (ok:=any) trivial (SqL.of eL),⟨(lay_dI _).1,(lay_dI _).1,Nat.le_trans (lay_dI _).2 (by decide)⟩,_,rfl,?_⟩
  rw [eqv_dI]
  by_cases e:stepL us M ls=ls
  ·refine iteNS e ?_
   refine ⟨_,rfl,q L' ls H3 s3 nL' eL ⟨h1,nm,step_even h1 h2 h3 nm e,fun P lP ev=>tp P (by omega) ev⟩⟩
  ·refine iteNP e ?_
   have ls1:(stepL us M ls).length=us.length:=by rw [step_len h1 h2,ll]
   refine ⟨_,fun σ' H' z=>z,?_⟩
   refine ⟨_,rfl,_,rfl,_,rfl,.ref p,F',us,_,M,rfl,hW0.same s3,SqL.of eF,by rw [ls1],by rw [ls1,lM],by rw [ls1]; omega,fun ws hws=>by rw [l3 ws hws,ls1],fun F2 H4 s4 n4 e4=>?_⟩
   rw [nI_V] at e4
   refine ⟨_,shar_lt ls1 ll (norm_numb _) nm (step_within h1 h2 h3) e,F',F2,_,rfl,s3.trans s4,nF',s3.free n4,s4 _ _ eF,e4,ls1,norm_numb _,fun P lP ev=>step_finer h1 h2 h3 (by omega) ev (tp P lP ev),rfl⟩
end
section
variable {P:Program} {w:World} {K:PySem.W.Frag} {mg:Str→Option Value} {base:Heap}
def rI (k:Nat):List Int:=(List.range k).map fun (i:Nat)=>(i:Int)
theorem rI_len (k:Nat):(rI k).length=k:=by unfold rI; rw [List.length_map,List.length_range]
structure WR (H:Hp) (p:Addr) (hs:List Int) (M:List (List Int)):Prop where
 ex:∃ hA rA rs,H p=some (.tup [.ref hA,.ref rA])∧H hA=some (.lst (hs.map V.int))∧H rA=some (.lst (rs.map V.ref))∧RowsAt H rs M
theorem WR.mono {H H':Hp} {p:Addr} {hs:List Int} {M:List (List Int)} (W:WR H p hs M) (e:Same H H'):WR H' p hs M:=by
 obtain ⟨hA,rA,rs,h1,h2,h3,R⟩:=W.ex
 exact ⟨hA,rA,rs,e _ _ h1,e _ _ h2,e _ _ h3,R.keep fun r _ o z=>e r o z⟩
def renH (hs:List Int) (os:List Int):List Int:=os.map fun o=>hs.getD o.toNat 0
def renM (M:List (List Int)) (os:List Int):List (List Int):=os.map fun u=>renH (M.getD u.toNat []) os
theorem at_int {xs:List Int} {o:Int} (h0:0≤o) (h1:o < (xs.length:Int)):atI (xs.map V.int) o=some (.int (xs.getD o.toNat 0)):=by
 obtain ⟨j,rfl⟩:=Int.eq_ofNat_of_zero_le h0
 have hj:j < xs.length:=by omega
 refine atI_nat ?_
 rw [List.getElem?_map,List.getElem?_eq_getElem hj]
 show some (V.int xs[j])=some (V.int (xs.getD (Int.toNat (j:Int)) 0))
 rw [Int.toNat_natCast,List.getD_eq_getElem?_getD,List.getElem?_eq_getElem hj]
 rfl
theorem rI_mem {k:Nat} {o:Int} (h:o ∈ rI k):0≤o∧o < (k:Int):=by
 unfold rI at h
 obtain ⟨i,hi,rfl⟩:=List.mem_map.mp h
 have:=List.mem_range.mp hi
 omega
end
section
variable {P:Program} {w:World} {K:PySem.W.Frag} {mg:Str→Option Value} {base:Heap}
def spOrder:Sp:=fun vs H Q _=>∃ (c:Int) (n:Nat) (fr:Bool),vs=[.int c,.int (n:Int),.bl fr]∧n≤8∧∀ (p:Addr) (os:List Int) (H':Hp),Same H H'→H p=none→H' p=some (.lst (os.map V.int))→os.Perm (rI n)→Q (.ref p) H'
abbrev nOrder:List Str:=["_law_cell","_law_many","_law_free","_law_draws_here","_law_found","_law_k"]
abbrev aOrder:List Str:=["_law_cell","_law_many","_law_free"]
theorem scOrder:FnScope nOrder aOrder (defScope sOrder):=by constructor<;>first|rfl|decide +kernel
theorem rI_succ (i:Nat):rI (i+1)=rI i++[(i:Int)]:=by unfold rI; rw [List.range_succ,List.map_append]; rfl
theorem ok_order {f fD:Addr} {fd fdD:FuncData} (B:BltL mg) (F:Fun K "_law_order" "_law_order" sOrder f fd) (DD:Dn K mg "_law_draws" sDraws ["_law_cell","_law_many","_law_base","_law_free"] fD fdD) (GD:FnOk P w K mg base CX0 1 fD fdD ["_law_cell","_law_many","_law_base","_law_free"] spDraws):FnOk P w K mg base CX0 2 f fd aOrder spOrder:=by
 refine F.ok scOrder (fun vs H Q E h=>?_) (fun cdv A outer s H vs Q E hr h=>?_)
 ·obtain ⟨c,n,fr,rfl,_⟩:=h
  rfl
 ·obtain ⟨c,n,fr,rfl,hn,q⟩:=h
  refine ⟨_,pss_cons (ps_set (i:=3) scOrder.nd rfl (Or.inl rfl) (pe_fn DD GD hr rfl (pa_cons (pv 0) (pa_cons (pv 1) (pa_cons pe_int (pa_cons (pv 2) pa_nil))))))
   (pss_cons (ps_set (i:=4) scOrder.nd rfl (Or.inl rfl) (pe_lst pa_nil))
   (pss_cons (ps_for PassesOwn.never rfl (pi_range1 rfl B.range (pa_cons (pv 1) pa_nil)) (pg_name (i:=5) scOrder.nd rfl (Or.inl rfl))
    (pss_one (ps_expr (pe_bm PySem.F.plainAttrs_list PySem.F.slot_list_insert PySem.F.type_list_insert mt_insert (pv 4) (pa_cons (pe_op op_mod (pe_ix ix_list (pv 3) (pv 5) (fun _ _=>rfl)) (pe_op op_add (pv 5) pe_int)) (pa_cons (pv 5) pa_nil))))))
   (pss_one (ps_ret (pv 4))))),?_⟩
  refine ⟨_,rfl,_,rfl,_,rfl,c,n,5040,fr,rfl,by omega,by decide,.inl (by decide),fun d ds H1 hd s1 nd ed=>?_⟩
  obtain ⟨ld,bd⟩:=hd
  refine ⟨Nat.zero_le _,fun R hR=>?_⟩
  have nR:H R=none:=s1.free hR
  refine ⟨_,rfl,(n:Int),rfl,by omega,by omega,for_range (n:=n) (fun i σ H'=>∃ (o5:Option V) (os:List Int),σ=[some (.int c),some (.int (n:Int)),some (.bl fr),some (.ref d),some (.ref R),o5]∧Same H1 H'∧H' R=some (.lst (os.map V.int))∧os.Perm (rI i)) ⟨none,[],rfl,Same.upd hR,upd_same,List.Perm.refl _⟩ ?_ ?_⟩
  ·rintro i σ H2 hi ⟨o5,os,rfl,s2,eR,pm⟩
   have li:i < ds.length:=by omega
   have hat:atI (ds.map V.int) (0+(i:Nat):Int)=some (.int (ds[i]'li)):=by rw [Int.zero_add]; exact atI_nat (by rw [List.getElem?_map,List.getElem?_eq_getElem li]; rfl)
   have lo:os.length=i:=by rw [pm.length_eq,rI_len]
   generalize ds[i]'li=x at hat
   obtain ⟨k,ek⟩:=Int.eq_ofNat_of_zero_le (Int.emod_nonneg x (by omega:(0+(i:Nat)+1:Int)≠0))
   have hk:k≤i:=by
    have:=Int.emod_lt_of_pos x (by omega:(0:Int) < (0+(i:Nat)+1:Int))
    omega
   refine ⟨_,rfl,.inl ⟨rfl,_,SqL.of eR⟩,_,rfl,_,rfl,d,_,_,_,rfl,rfl,SqL.of (s2 _ _ ed),hat,_,rfl,_,_,rfl,rfl,_,_,rfl,rfl,(by show (0:Int) < 0+(i:Nat)+1; omega),_,rfl,?_⟩
   refine ⟨R,_,k,.int (0+(i:Nat):Int),rfl,?_,eR,by rw [List.length_map]; omega,small1000 (by rw [List.length_map]; omega),?_⟩
   ·show [V.int (x % (0+(i:Nat)+1)),V.int _]=_
    rw [ek]
   ·refine ⟨_,os.take k++(i:Int) :: os.drop k,rfl,fun b o e=>by rw [upd_ne (ne_of_none e hR)]; exact s2 _ _ e,?_,?_⟩
    ·rw [upd_same,List.map_append,List.map_cons,List.map_take,List.map_drop,Int.zero_add]
    ·rw [rI_succ]
     refine List.perm_middle.trans ?_
     rw [List.take_append_drop]
     exact (List.Perm.cons _ pm).trans (List.perm_append_singleton _ _).symm
  ·rintro σ H2 ⟨o5,os,rfl,s2,eR,pm⟩
   exact ⟨_,rfl,q R os H2 (s1.trans s2) nR eR pm⟩
end
section
theorem rI_nodup (n:Nat):(rI n).Nodup:=by
 unfold rI
 rw [List.nodup_iff_pairwise_ne,List.pairwise_map]
 exact List.Pairwise.imp (fun h=>by intro z; have:=Int.ofNat.inj z; omega) List.pairwise_lt_range
theorem rI_get {n k:Nat} (h:k < n):(rI n)[k]? = some (k:Int):=by
 unfold rI
 rw [List.getElem?_map,List.getElem?_range h]
 rfl
theorem map_rI {α:Type} (xs:List α) (d:α):(rI xs.length).map (fun o=>xs.getD o.toNat d)=xs:=by
 apply List.ext_getElem?
 intro i
 rw [List.getElem?_map]
 by_cases hi:i < xs.length
 ·rw [rI_get hi,Option.map_some,Int.toNat_natCast,List.getD_eq_getElem?_getD,List.getElem?_eq_getElem hi]
  rfl
 ·rw [List.getElem?_eq_none (by rw [rI_len]; omega),List.getElem?_eq_none (by omega)]
  rfl
end
section
variable {n:Nat} {os:List Int} (hp:os.Perm (rI n))
theorem ren_len (xs os:List Int):(renH xs os).length=os.length:=by unfold renH; rw [List.length_map]
theorem ren_at {xs:List Int} {i a:Nat} (e:os[i]? = some (a:Int)) {x:Int} (hx:xs[a]? = some x):(renH xs os)[i]? = some x:=by
 unfold renH
 rw [List.getElem?_map,e,Option.map_some,Int.toNat_natCast,List.getD_eq_getElem?_getD,hx]
 rfl
theorem renM_at {M:List (List Int)} {i a:Nat} (e:os[i]? = some (a:Int)) {W:List Int} (hW:M[a]? = some W):(renM M os)[i]? = some (renH W os):=by
 unfold renM
 rw [List.getElem?_map,e,Option.map_some,Int.toNat_natCast,List.getD_eq_getElem?_getD,hW]
 rfl
include hp
theorem os_at {i:Nat} {o:Int} (e:os[i]? = some o):∃ a:Nat,o=(a:Int)∧a < n:=by
 have:=rI_mem (hp.mem_iff.mp (List.mem_of_getElem? e))
 obtain ⟨a,rfl⟩:=Int.eq_ofNat_of_zero_le this.1
 exact ⟨a,rfl,by omega⟩
theorem os_len:os.length=n:=by rw [hp.length_eq,rI_len]
theorem os_of {a:Nat} (h:a < n):∃ i:Nat,os[i]? = some (a:Int):=by
 have:(a:Int) ∈ os:=hp.mem_iff.mpr (by rw [List.mem_iff_getElem?]; exact ⟨a,rI_get h⟩)
 exact List.mem_iff_getElem?.mp this
theorem os_inj {i j:Nat} {o:Int} (e1:os[i]? = some o) (e2:os[j]? = some o):i=j:=by
 have nd:os.Nodup:=hp.nodup_iff.mpr (rI_nodup n)
 obtain ⟨p1,q1⟩:=List.getElem?_eq_some_iff.mp e1
 obtain ⟨p2,q2⟩:=List.getElem?_eq_some_iff.mp e2
 exact (List.getElem_inj nd).mp (q1.trans q2.symm)
theorem ren_perm {xs:List Int} (h:xs.length=n):(renH xs os).Perm xs:=by
 subst h
 have:=hp.map fun o=>xs.getD o.toNat 0
 rw [map_rI] at this
 exact this
end
section
variable {P:Program} {w:World} {K:PySem.W.Frag} {mg:Str→Option Value} {base:Heap}
theorem rows_some {H:Hp} {rs:List Addr} {M:List (List Int)} (R:RowsAt H rs M) {r:Addr} (h:r ∈ rs):∃ o,H r=some o:=by
 obtain ⟨j,hj,e⟩:=List.getElem_of_mem h
 obtain ⟨r',x',h1,h2,h3⟩:=R.get hj
 have:rs[j]? = some r:=by rw [List.getElem?_eq_getElem hj,e]
 rw [h1] at this
 cases this
 exact ⟨_,h3⟩
theorem rows_out {H:Hp} {rs:List Addr} {M:List (List Int)} (R:RowsAt H rs M) {a:Addr} (h:H a=none):a ∉ rs:=fun hm=>by
 obtain ⟨o,e⟩:=rows_some R hm
 rw [h] at e
 cases e
theorem lc_rows {a:Addr} {xs:List V} {te:TE} {Q:Hp→Prop} {σ:L2.St} {H1:Hp} {D:Addr} (M:List (List Int)) (hlen:M.length=xs.length) (hm:xs.length≤900) (hD:H1 D=none) (hxs:SqL K H1 a xs)
  (hs:∀ (i:Nat) (x:V) (row:List Int) (H':Hp),xs[i]? = some x→M[i]? = some row→Same H1 H'→te (σ++[some x]) H' fun v H3=>∃ r,v=.ref r∧Same H' H3∧H' r=none∧H3 r=some (.lst (row.map V.int)))
  (hd:∀ rs H',Same H1 H'→H' D=some (.lst (rs.map V.ref))→RowsAt H' rs M→(∀ r ∈ rs,H1 r=none∧r≠D)→Q H')
  (mono:∀ σ H Q Q',(∀ v H1,Q v H1→Q' v H1)→te σ H Q→te σ H Q') :
  ∃ W:Nat→Nat→List V→Hp→Prop,(∃ m,W 0 m [] (upd H1 D (.lst []))) ∧
   ∀ i m ys H',W i m ys H'→H' D=some (.lst ys)∧(((Itl K a).stop i H'∧Q H') ∨ ((Itl K a).go i H'∧∀ z H2,(Itl K a).yld i H' z H2→te (σ++[some z]) H2 fun v H3=>H3 D=some (.lst ys)∧ys.length < sizeLine∧∃ m',m' < m∧W (i+1) m' (ys++[v]) (upd H3 D (.lst (ys++[v]))))):=by
 refine lc_list (xs:=xs) (fun i ys H'=>∃ rs':List Addr,ys=rs'.map V.ref∧rs'.length=i∧Same H1 H'∧H' D=some (.lst ys)∧RowsAt H' rs' (M.take i)∧∀ r ∈ rs',H1 r=none∧r≠D) ⟨[],rfl,rfl,Same.upd hD,upd_same,⟨rfl,(fun i r x h _=>by cases h),List.nodup_nil⟩,(fun r hr=>by cases hr)⟩ (fun i ys H' _ ⟨_,_,_,sm,eD,_⟩=>⟨Same.sq sm hxs,eD⟩) ?_ ?_ mono
 ·rintro i x ys H4 hx ⟨rs',rfl,l4,s4,eD,R4,o4⟩
  have hi:i < M.length:=by rw [hlen]; exact (List.getElem?_eq_some_iff.mp hx).1
  have hrow:M[i]? = some M[i]:=List.getElem?_eq_getElem hi
  refine mono _ _ _ _ ?_ (hs i x M[i] H4 hx hrow s4)
  rintro v H5 ⟨r,rfl,s5,hr,er⟩
  have nDr:r≠D:=(ne_of_none eD hr).symm
  have nR:=rows_out R4 hr
  have R5:RowsAt H5 (rs'++[r]) (M.take i++[M[i]]):=R4.snoc (fun r' _ o' z=>s5 r' o' z) er nR
  refine ⟨s5 _ _ eD,small1000 (by rw [List.length_map]; omega),rs'++[r],by rw [List.map_append]; rfl,by rw [List.length_append,l4]; rfl,fun b u e=>?_,upd_same,?_,?_⟩
  ·have:b≠D:=fun z=>by subst z; rw [hD] at e; cases e
   rw [upd_ne this]
   exact s5 _ _ (s4 _ _ e)
  ·rw [take_snoc hrow]
   refine R5.keep fun r' hr' o' e=>?_
   have:r'≠D:=by
    rcases List.mem_append.mp hr' with z | z
    ·exact (o4 r' z).2
    ·rw [List.mem_singleton.mp z]; exact nDr
   rw [upd_ne this]
   exact e
  ·intro r' hr'
   rcases List.mem_append.mp hr' with z | z
   ·exact o4 r' z
   ·rw [List.mem_singleton.mp z]
    exact ⟨s4.free hr,nDr⟩
 ·rintro ys H4 ⟨rs',rfl,l4,s4,eD,R4,o4⟩
  rw [←hlen,List.take_length] at R4
  exact hd rs' H4 s4 eD R4 o4
def dW (hs:List Int) (M:List (List Int)):PyData:=.tuple [dI hs,.list (M.map dI)]
theorem lay_rows:∀ M:List (List Int),PyData.canLayAll0 (M.map dI)=true∧PyData.depthAll (M.map dI)≤1
 | []=>⟨rfl,Nat.zero_le _⟩
 | x :: M=>by
  obtain ⟨h1,h2⟩:=lay_rows M
  obtain ⟨a1,a2⟩:=lay_dI x
  rw [List.map_cons]
  simp only [PyData.canLayAll0,PyData.depthAll,h1,a1,Bool.and_self,true_and]
  omega
theorem lay_dW (hs:List Int) (M:List (List Int)):(dW hs M).canLay0=true∧(dW hs M).depth≤3:=by
 obtain ⟨h1,h2⟩:=lay_rows M
 obtain ⟨a1,a2⟩:=lay_dI hs
 unfold dW
 simp only [PyData.canLay0,PyData.canLayAll0,PyData.depth,PyData.depthAll,h1,a1,Bool.and_self,true_and]
 omega
theorem das_rows {H:Hp}:∀ {rs:List Addr} {M:List (List Int)},rs.length=M.length→(∀ (i:Nat) (r:Addr) (x:List Int),rs[i]? = some r→M[i]? = some x→H r=some (.lst (x.map V.int)))→DAs K any H (rs.map V.ref) (M.map dI)
 | [],[],_,_=>.nil
 | r :: rs,x :: M,l,h=>.cons (daI trivial (SqL.of (h 0 r x rfl rfl))) (das_rows (by simpa using l) fun i r' x' h1 h2=>h (i+1) r' x' h1 h2)
end
section
variable {P:Program} {w:World} {K:PySem.W.Frag} {mg:Str→Option Value} {base:Heap}
structure SqN (n:Nat) (M:List (List Int)):Prop where
 len:M.length=n
 row:∀ (i:Nat) (x:List Int),M[i]? = some x→x.length=n∧∀ z ∈ x,z.natAbs≤2 * wMax
theorem Sq.n {n:Nat} {M:List (List Int)} (S:Sq n M):SqN n M:=⟨S.len,fun i x h=>⟨(S.row i x h).1,fun z hz=>Nat.le_trans ((S.row i x h).2 z hz) (by omega)⟩⟩
structure Wz (H:Hp) (p:Addr) (n:Nat) (hs:List Int) (M:List (List Int)):Prop where
 wr:WR H p hs M
 len:hs.length=n
 sq:SqN n M
 hb:∀ z ∈ hs,0≤z∧z≤3
theorem Wz.same {H H':Hp} {p:Addr} {n:Nat} {hs:List Int} {M:List (List Int)} (W:Wz H p n hs M) (s:Same H H'):Wz H' p n hs M:=⟨W.wr.mono s,W.len,W.sq,W.hb⟩
structure WN (H H':Hp) (p:Addr) (hs:List Int) (M:List (List Int)):Prop where
 ex:∃ hA rA rs,H' p=some (.tup [.ref hA,.ref rA])∧H' hA=some (.lst (hs.map V.int))∧H' rA=some (.lst (rs.map V.ref))∧RowsAt H' rs M∧(∀ a ∈ p :: hA :: rA :: rs,H a=none)∧hA≠rA∧hA ∉ rs∧rA ∉ rs
theorem lc_ints {a:Addr} {xs:List V} {te:TE} {Q:Hp→Prop} {σ:L2.St} {H1:Hp} {D:Addr} (zs:List Int) (hlen:zs.length=xs.length) (hm:xs.length≤900) (hD:H1 D=none) (hxs:SqL K H1 a xs)
  (hs:∀ (i:Nat) (x:V) (z:Int) (H':Hp),xs[i]? = some x→zs[i]? = some z→Same H1 H'→te (σ++[some x]) H' fun v H3=>v=.int z∧H3=H')
  (hd:Q (upd H1 D (.lst (zs.map V.int)))) (mono:∀ σ H Q Q',(∀ v H1,Q v H1→Q' v H1)→te σ H Q→te σ H Q') :
  ∃ W:Nat→Nat→List V→Hp→Prop,(∃ m,W 0 m [] (upd H1 D (.lst []))) ∧
   ∀ i m ys H',W i m ys H'→H' D=some (.lst ys)∧(((Itl K a).stop i H'∧Q H') ∨ ((Itl K a).go i H'∧∀ z H2,(Itl K a).yld i H' z H2→te (σ++[some z]) H2 fun v H3=>H3 D=some (.lst ys)∧ys.length < sizeLine∧∃ m',m' < m∧W (i+1) m' (ys++[v]) (upd H3 D (.lst (ys++[v]))))):=by
 refine lc_list (xs:=xs) (fun i ys H'=>ys=(zs.take i).map V.int∧H'=upd H1 D (.lst ys)) ⟨rfl,rfl⟩ (fun i ys H' _ ⟨_,e⟩=>?_) ?_ ?_ mono
 ·subst e
  exact ⟨Same.sq (Same.upd hD) hxs,upd_same⟩
 ·rintro i x ys H4 hx ⟨rfl,rfl⟩
  have hi:i < zs.length:=by rw [hlen]; exact (List.getElem?_eq_some_iff.mp hx).1
  have hz:zs[i]? = some zs[i]:=List.getElem?_eq_getElem hi
  refine mono _ _ _ _ ?_ (hs i x zs[i] _ hx hz (Same.upd hD))
  rintro v H5 ⟨rfl,rfl⟩
  refine ⟨upd_same,small1000 (by rw [List.length_map,List.length_take]; omega),?_,by rw [upd_upd]⟩
  rw [take_snoc hz,List.map_append]
  rfl
 ·rintro ys H4 ⟨rfl,rfl⟩
  rw [←hlen,List.take_length]
  exact hd
theorem RowsAt.append {H:Hp} {rs ss:List Addr} {M N:List (List Int)} (R:RowsAt H rs M) (S:RowsAt H ss N) (d:∀ r ∈ ss,r ∉ rs):RowsAt H (rs++ss) (M++N):=by
 refine ⟨by rw [List.length_append,List.length_append,R.len,S.len],fun i r y h1 h2=>?_,?_⟩
 ·by_cases hi:i < rs.length
  ·rw [List.getElem?_append_left hi] at h1
   rw [List.getElem?_append_left (by rw [←R.len]; exact hi)] at h2
   exact R.row i r y h1 h2
  ·rw [List.getElem?_append_right (by omega)] at h1
   rw [List.getElem?_append_right (by rw [←R.len]; omega),←R.len] at h2
   exact S.row _ r y h1 h2
 ·rw [List.nodup_append]
  refine ⟨R.nd,S.nd,fun a ha b hb e=>?_⟩
  subst e
  exact d a hb ha
def besM (n m:Nat) (M M':List (List Int)):List (List Int):=M.map (fun x=>x++List.replicate m 0)++M'.map (fun x=>List.replicate n 0++x)
def spSide:Sp:=fun vs H Q _=>∃ (wA oA:Addr) (n m:Nat) (hs hs':List Int) (M M':List (List Int)),vs=[.ref wA,.ref oA]∧WR H wA hs M∧WR H oA hs' M'∧hs.length=n∧hs'.length=m∧SqN n M∧SqN m M'∧n≤8∧m≤8 ∧
 ∀ p H',Same H H'→WN H H' p (hs++hs') (besM n m M M')→Q (.ref p) H'
abbrev nSide:List Str:=["web","other","ahead","behind","rows","rows_there"]
theorem scSide:FnScope nSide ["web","other"] (defScope sSide):=by constructor<;>first|rfl|decide +kernel
theorem lcSide1:LcScope (defScope sSide) nSide (lcScope (asgVal (bodyAt sSide 2))) "row":=by constructor<;>first|rfl|decide +kernel
theorem lcSide2:LcScope (defScope sSide) nSide (lcScope (asgVal (bodyAt sSide 3))) "row":=by constructor<;>first|rfl|decide +kernel
theorem ok_side {f:Addr} {fd:FuncData} (B:BltL mg) (F:Fun K "side_by_side" "side_by_side" sSide f fd):FnOk P w K mg base CX0 1 f fd ["web","other"] spSide:=by
 refine F.ok scSide (fun vs H Q E h=>?_) (fun cdv A outer s H vs Q E hr h=>?_)
 ·obtain ⟨wA,oA,n,m,hs,hs',M,M',rfl,_⟩:=h
  rfl
 ·obtain ⟨wA,oA,n,m,hs,hs',M,M',rfl,hW,hO,hl,hl',hS,hS',hn,hm,q⟩:=h
  obtain ⟨hA,rA,rs,w1,w2,w3,R⟩:=hW.ex
  obtain ⟨hB,rB,ss,o1,o2,o3,S⟩:=hO.ex
  refine ⟨_,pss_cons (ps_set (i:=2) scSide.nd rfl (Or.inr rfl) (pe_callB call_len_seq (by rfl) B.len PySem.boot_len (pa_cons (pe_ix ix_tup (pv 0) pe_int (fun _ _=>rfl)) pa_nil)))
   (pss_cons (ps_set (i:=3) scSide.nd rfl (Or.inr rfl) (pe_callB call_len_seq (by rfl) B.len PySem.boot_len (pa_cons (pe_ix ix_tup (pv 1) pe_int (fun _ _=>rfl)) pa_nil)))
   (pss_cons (ps_setLc (i:=4) scSide.nd rfl (Or.inl rfl) rfl lcSide1 rfl (pi_list (pe_ix ix_tup (pv 0) pe_int (fun _ _=>rfl))) (fun _ _ _=>pe_op op_cat (pv 6) (pe_op op_rep (pe_lst (pa_cons pe_int pa_nil)) (pv 3))))
   (pss_cons (ps_setLc (i:=5) scSide.nd rfl (Or.inl rfl) rfl lcSide2 rfl (pi_list (pe_ix ix_tup (pv 1) pe_int (fun _ _=>rfl))) (fun _ _ _=>pe_op op_cat (pe_op op_rep (pe_lst (pa_cons pe_int pa_nil)) (pv 2)) (pv 6)))
   (pss_one (ps_ret (pe_tup (pa_cons (pe_op op_cat (pe_ix ix_tup (pv 0) pe_int (fun _ _=>rfl)) (pe_ix ix_tup (pv 1) pe_int (fun _ _=>rfl))) (pa_cons (pe_op op_cat (pv 4) (pv 5)) pa_nil)))))))),?_⟩
  refine ⟨_,rfl,wA,_,_,_,rfl,rfl,SqT.of w1,rfl,hA,_,rfl,.inl (SqL.of w2),?_⟩
  refine ⟨_,rfl,oA,_,_,_,rfl,rfl,SqT.of o1,rfl,hB,_,rfl,.inl (SqL.of o2),?_⟩
  rw [List.length_map,List.length_map,hl,hl']
  refine ⟨_,rfl,wA,_,_,_,rfl,rfl,SqT.of w1,rfl,rA,rfl,⟨_,SqL.of w3⟩,fun D hD=>?_⟩
  refine lc_rows (xs:=rs.map V.ref) (M.map fun x=>x++List.replicate m 0) (by rw [List.length_map,List.length_map,R.len]) (by rw [List.length_map,R.len,hS.len]; omega) hD (SqL.of w3) ?_ ?_ ?_
  ·intro i x row H1 hx hrow s1
   obtain ⟨r,hr1,rfl⟩:=map_get hx
   obtain ⟨y,hy,rfl⟩:=map_get hrow
   have er:=s1 _ _ (R.row i r y hr1 hy)
   have ly:=(hS.row i y hy).1
   refine ⟨_,rfl,(by show 1≤sizeLine; decide),fun l1 hl1=>?_⟩
   refine ⟨_,rfl,l1,(m:Int),_,rfl,rfl,upd_same,by omega,by omega,Nat.le_of_lt (small1000 (by show 1 * (m:Int).toNat≤1000; omega)),fun l2 hl2=>?_⟩
   have sm:Same H1 (L2.upd (L2.upd H1 l1 (.lst [.int 0])) l2 (.lst (List.replicate (m:Int).toNat [V.int 0]).flatten)):=(Same.upd hl1).trans (Same.upd hl2)
   have el:L2.upd (L2.upd H1 l1 (.lst [.int 0])) l2 (.lst (List.replicate (m:Int).toNat [V.int 0]).flatten) l2=some (.lst ((List.replicate m (0:Int)).map V.int)):=by rw [upd_same,Int.toNat_natCast,zeros_map]
   generalize L2.upd (L2.upd H1 l1 (.lst [.int 0])) l2 (.lst (List.replicate (m:Int).toNat [V.int 0]).flatten)=H2 at sm el ⊢
   refine ⟨r,l2,_,_,rfl,rfl,sm _ _ er,el,Nat.le_of_lt (small1000 (by rw [List.length_map,List.length_map,List.length_replicate]; omega)),fun l3 hl3=>?_⟩
   exact ⟨l3,rfl,sm.trans (Same.upd hl3),sm.free hl3,by rw [upd_same,List.map_append]⟩
  ·intro rs1 H1 s1 eD1 R1 f1
   refine ⟨_,rfl,oA,_,_,_,rfl,rfl,SqT.of (s1 _ _ o1),rfl,rB,rfl,⟨_,SqL.of (s1 _ _ o3)⟩,fun D2 hD2=>?_⟩
   refine lc_rows (xs:=ss.map V.ref) (M'.map fun x=>List.replicate n 0++x) (by rw [List.length_map,List.length_map,S.len]) (by rw [List.length_map,S.len,hS'.len]; omega) hD2 (SqL.of (s1 _ _ o3)) ?_ ?_ ?_
   ·intro i x row H2 hx hrow s2
    obtain ⟨r,hr1,rfl⟩:=map_get hx
    obtain ⟨y,hy,rfl⟩:=map_get hrow
    have er:=s2 _ _ (s1 _ _ (S.row i r y hr1 hy))
    have ly:=(hS'.row i y hy).1
    refine ⟨(by show 1≤sizeLine; decide),fun l1 hl1=>?_⟩
    refine ⟨_,rfl,l1,(n:Int),_,rfl,rfl,upd_same,by omega,by omega,Nat.le_of_lt (small1000 (by show 1 * (n:Int).toNat≤1000; omega)),fun l2 hl2=>?_⟩
    have sm:Same H2 (L2.upd (L2.upd H2 l1 (.lst [.int 0])) l2 (.lst (List.replicate (n:Int).toNat [V.int 0]).flatten)):=(Same.upd hl1).trans (Same.upd hl2)
    have el:L2.upd (L2.upd H2 l1 (.lst [.int 0])) l2 (.lst (List.replicate (n:Int).toNat [V.int 0]).flatten) l2=some (.lst ((List.replicate n (0:Int)).map V.int)):=by rw [upd_same,Int.toNat_natCast,zeros_map]
    generalize L2.upd (L2.upd H2 l1 (.lst [.int 0])) l2 (.lst (List.replicate (n:Int).toNat [V.int 0]).flatten)=H3 at sm el ⊢
    refine ⟨_,rfl,l2,r,_,_,rfl,rfl,el,sm _ _ er,Nat.le_of_lt (small1000 (by rw [List.length_map,List.length_map,List.length_replicate]; omega)),fun l3 hl3=>?_⟩
    exact ⟨l3,rfl,sm.trans (Same.upd hl3),sm.free hl3,by rw [upd_same,List.map_append]⟩
   ·intro rs2 H2 s2 eD2 R2 f2
    have t2:=s1.trans s2
    refine ⟨_,rfl,wA,_,_,_,rfl,rfl,SqT.of (t2 _ _ w1),rfl,_,rfl,oA,_,_,_,rfl,rfl,SqT.of (t2 _ _ o1),rfl,hA,hB,_,_,rfl,rfl,t2 _ _ w2,t2 _ _ o2,Nat.le_of_lt (small1000 (by rw [List.length_map,List.length_map]; omega)),fun pA hpA=>?_⟩
    have s3:Same H2 (L2.upd H2 pA (.lst (hs.map V.int++hs'.map V.int))):=Same.upd hpA
    have e3:L2.upd H2 pA (.lst (hs.map V.int++hs'.map V.int)) pA=some (.lst ((hs++hs').map V.int)):=by rw [upd_same,List.map_append]
    generalize L2.upd H2 pA (.lst (hs.map V.int++hs'.map V.int))=H3 at s3 e3 ⊢
    have l1:rs1.length=n:=by rw [R1.len,List.length_map,hS.len]
    have l2:rs2.length=m:=by rw [R2.len,List.length_map,hS'.len]
    refine ⟨_,rfl,_,rfl,D,D2,_,_,rfl,rfl,s3 _ _ (s2 _ _ eD1),s3 _ _ eD2,Nat.le_of_lt (small1000 (by rw [List.length_map,List.length_map]; omega)),fun rN hrN=>?_⟩
    have s4:Same H3 (L2.upd H3 rN (.lst (rs1.map V.ref++rs2.map V.ref))):=Same.upd hrN
    have e4:L2.upd H3 rN (.lst (rs1.map V.ref++rs2.map V.ref)) rN=some (.lst ((rs1++rs2).map V.ref)):=by rw [upd_same,List.map_append]
    have nrp:pA≠rN:=ne_of_none e3 hrN
    generalize L2.upd H3 rN (.lst (rs1.map V.ref++rs2.map V.ref))=H4 at s4 e4 ⊢
    refine ⟨(by show 2≤sizeLine; decide),fun tA htA=>?_⟩
    have s5:Same H4 (L2.upd H4 tA (.tup [.ref pA,.ref rN])):=Same.upd htA
    have u2:Same H2 (L2.upd H4 tA (.tup [.ref pA,.ref rN])):=(s3.trans s4).trans s5
    have R6:RowsAt H2 (rs1++rs2) (besM n m M M'):=(R1.keep fun r _ o z=>s2 r o z).append R2 fun r hr2 hr1=>by
     obtain ⟨o,z⟩:=rows_some R1 hr1
     rw [(f2 r hr2).1] at z
     cases z
    have fr:∀ r ∈ rs1++rs2,H r=none∧r≠pA∧r≠rN:=fun r hr=>by
     obtain ⟨o,z⟩:=rows_some R6 hr
     refine ⟨?_,ne_of_none z hpA,ne_of_none (s3 _ _ z) hrN⟩
     rcases List.mem_append.mp hr with y | y
     ·exact (f1 r y).1
     ·exact s1.free (f2 r y).1
    refine q tA _ (t2.trans u2) ⟨pA,rN,rs1++rs2,upd_same,s5 _ _ (s4 _ _ e3),s5 _ _ e4,R6.keep fun r _ o z=>u2 r o z,?_,nrp,fun z=>(fr _ z).2.1 rfl,fun z=>(fr _ z).2.2 rfl⟩
    intro a ha
    rcases List.mem_cons.mp ha with rfl | ha
    ·exact ((t2.trans s3).trans s4).free htA
    ·rcases List.mem_cons.mp ha with rfl | ha
     ·exact t2.free hpA
     ·rcases List.mem_cons.mp ha with rfl | ha
      ·exact (t2.trans s3).free hrN
      ·exact (fr a ha).1
   ·rintro σ H' Q1 Q2 hq ⟨z,fn⟩
    exact ⟨z,fun l1 h1=>let ⟨v,e,l,k,xs,a1,a2,a3,a4,a5,a6,g⟩:=fn l1 h1; ⟨v,e,l,k,xs,a1,a2,a3,a4,a5,a6,fun p hp=>let ⟨v',e',l',b',xs',zs',c1,c2,c3,c4,c5,g'⟩:=g p hp; ⟨v',e',l',b',xs',zs',c1,c2,c3,c4,c5,fun p' hp'=>hq _ _ (g' p' hp')⟩⟩⟩
  ·rintro σ H' Q1 Q2 hq ⟨v',e',z,fn⟩
   exact ⟨v',e',z,fun l1 h1=>let ⟨v,e,l,k,xs,a1,a2,a3,a4,a5,a6,g⟩:=fn l1 h1; ⟨v,e,l,k,xs,a1,a2,a3,a4,a5,a6,fun p hp=>let ⟨l',b',xs',zs',c1,c2,c3,c4,c5,g'⟩:=g p hp; ⟨l',b',xs',zs',c1,c2,c3,c4,c5,fun p' hp'=>hq _ _ (g' p' hp')⟩⟩⟩
end
section
variable {n m:Nat} {M M':List (List Int)}
theorem bes_len (h1:M.length=n) (h2:M'.length=m):(besM n m M M').length=n+m:=by unfold besM; rw [List.length_append,List.length_map,List.length_map,h1,h2]
theorem bes_here (h1:M.length=n) {i:Nat} (hi:i < n) {ws:List Int} (h:(besM n m M M')[i]? = some ws):∃ x,M[i]? = some x∧ws=x++List.replicate m 0:=by
 unfold besM at h
 rw [List.getElem?_append_left (by rw [List.length_map,h1]; exact hi)] at h
 exact map_get h
theorem bes_there (h1:M.length=n) {i:Nat} (hi:n≤i) {ws:List Int} (h:(besM n m M M')[i]? = some ws):∃ x,M'[i - n]? = some x∧ws=List.replicate n 0++x:=by
 unfold besM at h
 rw [List.getElem?_append_right (by rw [List.length_map,h1]; exact hi),List.length_map,h1] at h
 exact map_get h
theorem bes_rows (h1:SqN n M) (h2:SqN m M'):∀ ws ∈ besM n m M M',ws.length=n+m:=by
 intro ws hws
 obtain ⟨i,hi⟩:=List.mem_iff_getElem?.mp hws
 by_cases c:i < n
 ·obtain ⟨x,hx,rfl⟩:=bes_here h1.len c hi
  rw [List.length_append,List.length_replicate,(h1.row i x hx).1]
 ·obtain ⟨x,hx,rfl⟩:=bes_there h1.len (by omega) hi
  rw [List.length_append,List.length_replicate,(h2.row _ x hx).1]
end
section
variable {P:Program} {w:World} {K:PySem.W.Frag} {mg:Str→Option Value} {base:Heap}
theorem cut_drop (ns:List Int) (n:Nat) (h:n≤ns.length):cutV (ns.map V.int) (some (n:Int)) none=(ns.drop n).map V.int:=by
 unfold cutV
 rw [HT.sIx_none,HT.sIx_nat,List.length_map,Nat.min_eq_left h,←List.map_drop,List.take_of_length_le (by rw [List.length_map,List.length_drop]; exact Nat.le_refl _)]
def spTogether:Sp:=fun vs H Q _=>∃ (wA oA:Addr) (n m:Nat) (hs hs':List Int) (M M':List (List Int)),vs=[.ref wA,.ref oA]∧Wz H wA n hs M∧Wz H oA m hs' M'∧n≤8∧m≤8 ∧
 ∀ (p a b:Addr) (ls:List Int) (H':Hp),Same H H'→H' p=some (.tup [.ref a,.ref b])→H' a=some (.lst ((ls.take n).map V.int))→H' b=some (.lst ((ls.drop n).map V.int))→Coarse (hs++hs') (besM n m M M') ls→Q (.ref p) H'
abbrev nTog:List Str:=["web","other","lots","ahead"]
theorem scTog:FnScope nTog ["web","other"] (defScope sTogether):=by constructor<;>first|rfl|decide +kernel
theorem ok_together {f fC fS:Addr} {fd fdC fdS:FuncData} (B:BltL mg) (F:Fun K "coarsest_together" "coarsest_together" sTogether f fd) (DC:Dn K mg "coarsest_parting" sCoarsest ["web"] fC fdC) (GC:FnOk P w K mg base CX0 3 fC fdC ["web"] (spCoarsest K))
  (DS:Dn K mg "side_by_side" sSide ["web","other"] fS fdS) (GS:FnOk P w K mg base CX0 1 fS fdS ["web","other"] spSide):FnOk P w K mg base CX0 4 f fd ["web","other"] spTogether:=by
 refine F.ok scTog (fun vs H Q E h=>?_) (fun cdv A outer s H vs Q E hr h=>?_)
 ·obtain ⟨wA,oA,n,m,hs,hs',M,M',rfl,_⟩:=h
  rfl
 ·obtain ⟨wA,oA,n,m,hs,hs',M,M',rfl,W,O,hn,hm,q⟩:=h
  refine ⟨_,pss_cons (ps_set (i:=2) scTog.nd rfl (Or.inl rfl) (pe_fn DC GC hr rfl (pa_cons (pe_fn DS GS (hr.mono (by decide)) rfl (pa_cons (pv 0) (pa_cons (pv 1) pa_nil))) pa_nil)))
   (pss_cons (ps_set (i:=3) scTog.nd rfl (Or.inl rfl) (pe_callB call_len_seq (by rfl) B.len PySem.boot_len (pa_cons (pe_ix ix_tup (pv 0) pe_int (fun _ _=>rfl)) pa_nil)))
   (pss_one (ps_ret (pe_tup (pa_cons (pe_slice sl_list (pv 2) po_none (po_some (pv 3))) (pa_cons (pe_slice sl_list (pv 2) (po_some (pv 3)) po_none) pa_nil)))))),?_⟩
  refine ⟨_,rfl,_,rfl,wA,oA,n,m,hs,hs',M,M',rfl,W.wr,O.wr,W.len,O.len,W.sq,O.sq,hn,hm,fun pS H1 s1 WN1=>?_⟩
  obtain ⟨hR,rR,rsR,g1,g2,g3,RR,_⟩:=WN1.ex
  have lu:(hs++hs').length=n+m:=by rw [List.length_append,W.len,O.len]
  have lM:=bes_len (n:=n) (m:=m) W.sq.len O.sq.len
  have wbR:WbAt K H1 (.ref pS) (hs++hs') (besM n m M M'):=⟨pS,hR,rR,rsR,rfl,SqT.of g1,SqL.of g2,SqL.of g3,RR.len,fun j t ws e1 e2=>SqL.of (RR.row j t ws e1 e2)⟩
  refine ⟨.ref pS,_,_,rfl,wbR,by rw [lM,lu],by omega,fun ws hws=>by rw [bes_rows W.sq O.sq ws hws,lu],fun T ls H2 s2 nT eT C=>?_⟩
  have ll:ls.length=n+m:=by rw [←C.len,lu]
  have s12:=s1.trans s2
  obtain ⟨hA,rA,rs,w1,w2,w3,R⟩:=(W.same s12).wr.ex
  refine ⟨_,rfl,wA,_,_,_,rfl,rfl,SqT.of w1,rfl,hA,_,rfl,.inl (SqL.of w2),?_⟩
  rw [List.length_map,W.len]
  refine ⟨_,rfl,_,rfl,_,rfl,T,_,rfl,SqL.of eT,fun a ha=>?_⟩
  rw [cut_take ls n (by omega)]
  have s3:Same H2 (L2.upd H2 a (.lst ((ls.take n).map V.int))):=Same.upd ha
  have e3:L2.upd H2 a (.lst ((ls.take n).map V.int)) a=some (.lst ((ls.take n).map V.int)):=upd_same
  generalize L2.upd H2 a (.lst ((ls.take n).map V.int))=H3 at s3 e3 ⊢
  refine ⟨_,rfl,_,rfl,(n:Int),rfl,T,_,rfl,SqL.of (s3 _ _ eT),fun b hb=>?_⟩
  rw [cut_drop ls n (by omega)]
  have s4:Same H3 (L2.upd H3 b (.lst ((ls.drop n).map V.int))):=Same.upd hb
  have e4:L2.upd H3 b (.lst ((ls.drop n).map V.int)) b=some (.lst ((ls.drop n).map V.int)):=upd_same
  generalize L2.upd H3 b (.lst ((ls.drop n).map V.int))=H4 at s4 e4 ⊢
  refine ⟨(by show 2≤sizeLine; decide),fun p hp=>?_⟩
  have s5:Same H4 (L2.upd H4 p (.tup [.ref a,.ref b])):=Same.upd hp
  exact q p a b ls _ (((s12.trans s3).trans s4).trans s5) upd_same (s5 _ _ (s4 _ _ e3)) (s5 _ _ e4) C
def spAlike:Sp:=fun vs H Q _=>∃ (wA oA:Addr) (n m:Nat) (hs hs':List Int) (M M':List (List Int)),vs=[.ref wA,.ref oA]∧Wz H wA n hs M∧Wz H oA m hs' M'∧n≤8∧m≤8 ∧
 ∀ (r:Bool) (ls:List Int) (H':Hp),Same H H'→Coarse (hs++hs') (besM n m M M') ls→(r=true↔(ls.take n).Perm (ls.drop n))→Q (.bl r) H'
abbrev nAlike:List Str:=["web","other","together"]
theorem scAlike:FnScope nAlike ["web","other"] (defScope sAlike):=by constructor<;>first|rfl|decide +kernel
theorem sort_iff {a b a' b':List Int} (pa:a'.Perm a) (sa:a'.Pairwise (·≤·)) (pb:b'.Perm b) (sb:b'.Pairwise (·≤·)):a'=b'↔a.Perm b:=by
 constructor
 ·rintro rfl
  exact pa.symm.trans pb
 ·intro h
  exact PySem.W.ksm_same ((pa.trans h).trans pb.symm) sa sb
theorem ok_alike {f fT:Addr} {fd fdT:FuncData} (B:BltL mg) (F:Fun K "part_alike" "part_alike" sAlike f fd) (DT:Dn K mg "coarsest_together" sTogether ["web","other"] fT fdT) (GT:FnOk P w K mg base CX0 4 fT fdT ["web","other"] spTogether):FnOk P w K mg base CX0 5 f fd ["web","other"] spAlike:=by
 refine F.ok scAlike (fun vs H Q E h=>?_) (fun cdv A outer s H vs Q E hr h=>?_)
 ·obtain ⟨wA,oA,n,m,hs,hs',M,M',rfl,_⟩:=h
  rfl
 ·obtain ⟨wA,oA,n,m,hs,hs',M,M',rfl,W,O,hn,hm,q⟩:=h
  refine ⟨_,pss_cons (ps_set (i:=2) scAlike.nd rfl (Or.inl rfl) (pe_fn DT GT hr rfl (pa_cons (pv 0) (pa_cons (pv 1) pa_nil))))
   (pss_one (ps_ret (pe_cmpR (op_eqD hr.units) (pe_callB call_sorted (by rfl) B.sorted boot_sorted (pa_cons (pe_ix ix_tup (pv 2) pe_int (fun _ _=>rfl)) pa_nil)) (pe_callB call_sorted (by rfl) B.sorted boot_sorted (pa_cons (pe_ix ix_tup (pv 2) pe_int (fun _ _=>rfl)) pa_nil)) (nomark _)))),?_⟩
  refine ⟨_,rfl,_,rfl,wA,oA,n,m,hs,hs',M,M',rfl,W,O,hn,hm,fun p a b ls H1 s1 ep ea eb C=>?_⟩
  have ll:ls.length=n+m:=by rw [←C.len,List.length_append,W.len,O.len]
  refine ⟨_,rfl,p,_,_,_,rfl,rfl,SqT.of ep,rfl,a,_,rfl,SqL.of ea,by rw [List.length_take]; omega,fun l1 ns1 hl1 pm1 so1=>?_⟩
  have s2:Same H1 (L2.upd H1 l1 (.lst (ns1.map V.int))):=Same.upd hl1
  have e2:L2.upd H1 l1 (.lst (ns1.map V.int)) l1=some (.lst (ns1.map V.int)):=upd_same
  generalize L2.upd H1 l1 (.lst (ns1.map V.int))=H2 at s2 e2 ⊢
  refine ⟨_,rfl,p,_,_,_,rfl,rfl,SqT.of (s2 _ _ ep),rfl,b,_,rfl,SqL.of (s2 _ _ eb),by rw [List.length_drop]; omega,fun l2 ns2 hl2 pm2 so2=>?_⟩
  have s3:Same H2 (L2.upd H2 l2 (.lst (ns2.map V.int))):=Same.upd hl2
  have e3:L2.upd H2 l2 (.lst (ns2.map V.int)) l2=some (.lst (ns2.map V.int)):=upd_same
  generalize L2.upd H2 l2 (.lst (ns2.map V.int))=H3 at s3 e3 ⊢
  refine ⟨dI ns1,dI ns2,daI trivial (SqL.of (s3 _ _ e2)),daI trivial (SqL.of e3),⟨(lay_dI _).1,(lay_dI _).1,Nat.le_trans (lay_dI _).2 (by decide)⟩,?_⟩
  rw [eqv_dI]
  refine q _ ls H3 ((s1.trans s2).trans s3) C ?_
  rw [decide_eq_true_iff]
  exact sort_iff pm1 so1 pm2 so2
end
section
variable {P:Program} {w:World} {K:PySem.W.Frag} {mg:Str→Option Value} {base:Heap}
def spLRen:Sp:=fun vs H Q _=>∃ (wA oA:Addr) (n:Nat) (hs:List Int) (M:List (List Int)) (os:List Int),vs=[.ref wA,.ref oA]∧WR H wA hs M∧hs.length=n∧SqN n M∧n≤8∧H oA=some (.lst (os.map V.int))∧os.Perm (rI n) ∧
 ∀ p H',Same H H'→WN H H' p (renH hs os) (renM M os)→Q (.ref p) H'
abbrev nLRen:List Str:=["_law_web_here","_law_order_here","_law_hues","_law_rows"]
def lcElt (e:Expr):Expr:=match e with
 | .ListComp x _ _ _=>x
 | _=>.Constant .none 0 ⟨0,0,0,0⟩
theorem scLRen:FnScope nLRen ["_law_web_here","_law_order_here"] (defScope sLRen):=by constructor<;>first|rfl|decide +kernel
theorem lcLRen0:LcScope (defScope sLRen) nLRen (lcScope (tupAt (asgVal (bodyAt sLRen 1)) 0)) "_law_k":=by constructor<;>first|rfl|decide +kernel
theorem lcLRen1:LcScope (defScope sLRen) nLRen (lcScope (tupAt (asgVal (bodyAt sLRen 1)) 1)) "_law_k":=by constructor<;>first|rfl|decide +kernel
def blkLRen:Scope:=relabel (lcScope (tupAt (asgVal (bodyAt sLRen 1)) 1)) (envOfC "" (defScope sLRen) 0 0 .none)
theorem lcLRen2:LcScope blkLRen (blkN nLRen "_law_k") (lcScope (lcElt (tupAt (asgVal (bodyAt sLRen 1)) 1))) "_law_j":=by constructor<;>first|rfl|decide +kernel
theorem ok_lren {f:Addr} {fd:FuncData} (F:Fun K "_law_renamed" "_law_renamed" sLRen f fd):FnOk P w K mg base CX0 1 f fd ["_law_web_here","_law_order_here"] spLRen:=by
 refine F.ok scLRen (fun vs H Q E h=>?_) (fun cdv A outer s H vs Q E hr h=>?_)
 ·obtain ⟨wA,oA,n,hs,M,os,rfl,_⟩:=h
  rfl
 ·obtain ⟨wA,oA,n,hs,M,os,rfl,hW,hl,hS,hn,ho,hp,q⟩:=h
  obtain ⟨hA,rA,rs,w1,w2,w3,R⟩:=hW.ex
  have hmem:∀ o ∈ os,0≤o∧o < (n:Int):=fun o h=>rI_mem (hp.mem_iff.mp h)
  have hlos:os.length=n:=by rw [hp.length_eq,rI_len]
  refine ⟨_,pss_cons (ps_asg (pv 0) (pg_tup rfl (pgs_cons (pg_name (i:=2) scLRen.nd rfl (Or.inr rfl)) (pgs_cons (pg_name (i:=3) scLRen.nd rfl (Or.inr rfl)) pgs_nil))))
   (pss_one (ps_ret (pe_tup (pa_cons (pe_lc rfl lcLRen0 rfl (pi_list (pv 1)) (fun _ _ _=>pe_ix (ix_listK (K:=K)) (pv 2) (pv 4) (fun _ _=>rfl))) (pa_cons (pe_lc rfl lcLRen1 rfl (pi_list (pv 1))
    (fun _ _ _=>pe_lc rfl lcLRen2 rfl (pi_listK (K:=K) (pv 1)) (fun _ _ _=>pe_ix (ix_listK (K:=K)) (pe_ix (ix_listK (K:=K)) (pv 3) (pv 4) (fun _ _=>rfl)) (pv 5) (fun _ _=>rfl)))) pa_nil))))),?_⟩
  refine ⟨_,rfl,wA,_,rfl,SqT.of w1,rfl,_,_,rfl,_,_,rfl,rfl,?_⟩
  refine ⟨_,rfl,oA,rfl,⟨_,SqL.of ho⟩,fun D hD=>?_⟩
  refine lc_ints (xs:=os.map V.int) (renH hs os) (by unfold renH; rw [List.length_map,List.length_map]) (by rw [List.length_map]; omega) hD (SqL.of ho) ?_ ?_ ?_
  ·intro i x z H1 hx hz s1
   obtain ⟨o,ho',rfl⟩:=map_get hx
   obtain ⟨o2,ho2,rfl⟩:=map_get (show (os.map fun o=>hs.getD o.toNat 0)[i]? = some z from hz)
   rw [ho'] at ho2
   cases ho2
   have hm:=hmem o (List.mem_of_getElem? ho')
   exact ⟨_,rfl,_,rfl,hA,_,_,_,rfl,rfl,SqL.of (s1 _ _ w2),at_int hm.1 (by rw [hl]; exact hm.2),rfl,rfl⟩
  ·have s1:Same H (L2.upd H D (.lst ((renH hs os).map V.int))):=Same.upd hD
   have e1:L2.upd H D (.lst ((renH hs os).map V.int)) D=some (.lst ((renH hs os).map V.int)):=upd_same
   generalize L2.upd H D (.lst ((renH hs os).map V.int))=H1 at s1 e1 ⊢
   refine ⟨_,rfl,oA,rfl,⟨_,SqL.of (s1 _ _ ho)⟩,fun D2 hD2=>?_⟩
   have nDD:D≠D2:=ne_of_none e1 hD2
   refine lc_rows (xs:=os.map V.int) (renM M os) (by unfold renM; rw [List.length_map,List.length_map]) (by rw [List.length_map]; omega) hD2 (SqL.of (s1 _ _ ho)) ?_ ?_ ?_
   ·intro i x row H2 hx hrow s2
    obtain ⟨o,ho',rfl⟩:=map_get hx
    obtain ⟨o2,ho2,rfl⟩:=map_get (show (os.map fun o=>renH (M.getD o.toNat []) os)[i]? = some row from hrow)
    rw [ho'] at ho2
    cases ho2
    have hm:=hmem o (List.mem_of_getElem? ho')
    obtain ⟨j,rfl⟩:=Int.eq_ofNat_of_zero_le hm.1
    have hj:j < rs.length:=by rw [R.len,hS.len]; omega
    obtain ⟨r,xr,g1,g2,g3⟩:=R.get hj
    have t2:=s1.trans s2
    have hlr:=(hS.row j xr g2).1
    have er:M.getD (Int.toNat (j:Int)) []=xr:=by rw [Int.toNat_natCast,getD_some g2]
    rw [er]
    refine ⟨_,rfl,oA,rfl,⟨_,SqL.of (t2 _ _ ho)⟩,fun D3 hD3=>?_⟩
    refine lc_ints (xs:=os.map V.int) (renH xr os) (by unfold renH; rw [List.length_map,List.length_map]) (by rw [List.length_map]; omega) hD3 (SqL.of (t2 _ _ ho)) ?_ ?_ ?_
    ·intro i' x' z H3 hx' hz' s3
     obtain ⟨o',ho1,rfl⟩:=map_get hx'
     obtain ⟨o2,ho2,rfl⟩:=map_get (show (os.map fun o=>xr.getD o.toNat 0)[i']? = some z from hz')
     rw [ho1] at ho2
     cases ho2
     have hm':=hmem o' (List.mem_of_getElem? ho1)
     have t3:=t2.trans s3
     exact ⟨_,rfl,_,rfl,rA,_,_,_,rfl,rfl,SqL.of (t3 _ _ w3),at_ref g1,_,rfl,r,_,_,_,rfl,rfl,SqL.of (t3 _ _ g3),at_int hm'.1 (by rw [hlr]; exact hm'.2),rfl,rfl⟩
    ·exact ⟨D3,rfl,Same.upd hD3,hD3,upd_same⟩
    ·rintro σ H' Q1 Q2 hq ⟨v,x1,v2,x2,p2,y3,i2,z2,y4,y5,y6,y7,v4,y8,p3,u3,i3,z3,u4,u5,u6,u7,u8⟩
     exact ⟨v,x1,v2,x2,p2,y3,i2,z2,y4,y5,y6,y7,v4,y8,p3,u3,i3,z3,u4,u5,u6,u7,hq _ _ u8⟩
   ·intro rs1 H2 s2 eD R2 f2
    refine ⟨(by show 2≤sizeLine; decide),fun tA htA=>?_⟩
    have s3:Same H2 (L2.upd H2 tA (.tup [.ref D,.ref D2])):=Same.upd htA
    refine q tA _ ((s1.trans s2).trans s3) ⟨D,D2,rs1,upd_same,s3 _ _ (s2 _ _ e1),s3 _ _ eD,R2.keep fun r _ o z=>s3 r o z,?_,nDD,fun z=>?_,fun z=>(f2 _ z).2 rfl⟩
    ·intro a ha
     rcases List.mem_cons.mp ha with rfl | ha
     ·exact (s1.trans s2).free htA
     ·rcases List.mem_cons.mp ha with rfl | ha
      ·exact hD
      ·rcases List.mem_cons.mp ha with rfl | ha
       ·exact s1.free hD2
       ·exact s1.free (f2 a ha).1
    ·have:=(f2 _ z).1
     rw [e1] at this
     cases this
   ·rintro σ H' Q1 Q2 hq ⟨v,e,a,e2,e3,g⟩
    exact ⟨v,e,a,e2,e3,fun D hD=>let ⟨W,m0,st⟩:=g D hD; ⟨W,m0,fun i m ys H' hw=>let ⟨a1,a2⟩:=st i m ys H' hw; ⟨a1,a2.imp (fun ⟨b1,b2⟩=>⟨b1,hq _ _ b2⟩) id⟩⟩⟩
  ·rintro σ H' Q1 Q2 hq ⟨v,x1,v2,x2,p2,y3,i2,z2,y4,y5,y6,y7,y8⟩
   exact ⟨v,x1,v2,x2,p2,y3,i2,z2,y4,y5,y6,y7,hq _ _ y8⟩
end
section
theorem put_gen {M:List (List Int)} {n i j:Nat} {z:Int} {Pz:Int→Prop} (hl:M.length=n) (hz:Pz z) (hr:∀ (i:Nat) (x:List Int),M[i]? = some x→x.length=n∧∀ z ∈ x,Pz z) :
  (put M i j z).length=n∧∀ (k:Nat) (x:List Int),(put M i j z)[k]? = some x→x.length=n∧∀ z ∈ x,Pz z:=by
 unfold put
 refine ⟨by rw [List.length_set]; exact hl,fun k x hx=>?_⟩
 by_cases hk:k=i
 ·subst hk
  by_cases hlt:k < M.length
  ·rw [List.getElem?_set_self hlt] at hx
   have hx:=Option.some.inj hx
   have hy:M[k]? = some M[k]:=by simp [hlt]
   have hh:=hr k _ hy
   subst hx
   rw [hy]
   simp only [Option.getD_some,List.length_set]
   refine ⟨hh.1,fun y hy'=>?_⟩
   rcases List.mem_or_eq_of_mem_set hy' with q | q
   ·exact hh.2 y q
   ·rw [q]; exact hz
  ·rw [List.getElem?_eq_none (by rw [List.length_set]; omega)] at hx
   cases hx
 ·rw [List.getElem?_set_ne (Ne.symm hk)] at hx
  exact hr k x hx
theorem SqN.put {n:Nat} {M:List (List Int)} (S:SqN n M) (i j:Nat) {z:Int} (hz:z.natAbs≤2 * wMax):SqN n (put M i j z):=by
 obtain ⟨a,b⟩:=put_gen (i:=i) (j:=j) (Pz:=fun z=>z.natAbs≤2 * wMax) S.len hz S.row
 exact ⟨a,b⟩
theorem SqN.ent {n:Nat} {M:List (List Int)} (S:SqN n M) {i j a b:Nat} {z:Int} (hi:i < n) (hj:j < n):ent (My.put M i j z) a b=if a=i∧b=j then z else My.ent M a b :=
 ent_put M n i j a b z S.len (fun i x h=>(S.row i x h).1) hi hj
theorem cell_eq {m a u s s':Nat} (ha:a < m) (hu:u < m) (hs:s < 2) (hs':s' < 2):a+s * m=u+s' * m↔a=u∧s=s':=by
 have h1:s=0 ∨ s=1:=by omega
 have h2:s'=0 ∨ s'=1:=by omega
 constructor
 ·intro h
  rcases h1 with q | q <;> rcases h2 with q' | q' <;> rw [q,q'] at h ⊢ <;> omega
 ·rintro ⟨rfl,rfl⟩
  rfl
theorem cell_lt {m a s:Nat} (ha:a < m) (hs:s < 2):a+s * m < 2 * m:=by
 have h1:s=0 ∨ s=1:=by omega
 rcases h1 with rfl | rfl <;> simp only [Nat.zero_mul,Nat.one_mul] <;> omega
def liftS (m:Nat) (tw:Nat→Nat→Nat) (R:Nat→Nat→Int) (N:List (List Int)) (u v s:Nat):List (List Int):=put (put N (u+s * m) (v+(s+tw u v) % 2 * m) (R u v)) (v+(s+tw u v) % 2 * m) (u+s * m) (R u v)
def LfD (m:Nat) (tw:Nat→Nat→Nat) (R:Nat→Nat→Int) (dn:Nat→Nat→Prop) (N:List (List Int)):Prop :=
 ∀ a b s t:Nat,a < m→b < m→s < 2→t < 2→(dn (min a b) (max a b)→ent N (a+s * m) (b+t * m)=if (s+t) % 2=tw (min a b) (max a b) then R (min a b) (max a b) else 0)∧(¬ dn (min a b) (max a b)→ent N (a+s * m) (b+t * m)=0)
theorem lift_pair {m:Nat} {tw:Nat→Nat→Nat} {R:Nat→Nat→Int} {dn:Nat→Nat→Prop} {N:List (List Int)} {u v:Nat} (ht:tw u v < 2) (uv:u≤v) (hv:v < m) (S:SqN (2 * m) N) (hR:(R u v).natAbs≤2 * wMax) (nd:¬ dn u v) (L:LfD m tw R dn N) :
  LfD m tw R (fun x y=>dn x y ∨ (x=u∧y=v)) (liftS m tw R (liftS m tw R N u v 0) u v 1):=by
 intro a b s t ha hb hs ht'
 have hu:u < m:=by omega
 have m0:(0+tw u v) % 2 < 2:=Nat.mod_lt _ (by decide)
 have m1:(1+tw u v) % 2 < 2:=Nat.mod_lt _ (by decide)
 have c1:=cell_lt (m:=m) hu (show 0 < 2 by decide)
 have c2:=cell_lt (m:=m) hv m0
 have c3:=cell_lt (m:=m) hu (show 1 < 2 by decide)
 have c4:=cell_lt (m:=m) hv m1
 have S1:=S.put (u+0 * m) (v+(0+tw u v) % 2 * m) hR
 have S2:=S1.put (v+(0+tw u v) % 2 * m) (u+0 * m) hR
 have S3:=S2.put (u+1 * m) (v+(1+tw u v) % 2 * m) hR
 have e:ent (liftS m tw R (liftS m tw R N u v 0) u v 1) (a+s * m) (b+t * m) =
   if (a=v∧s=(1+tw u v) % 2)∧b=u∧t=1 then R u v else if (a=u∧s=1)∧b=v∧t=(1+tw u v) % 2 then R u v else
   if (a=v∧s=(0+tw u v) % 2)∧b=u∧t=0 then R u v else if (a=u∧s=0)∧b=v∧t=(0+tw u v) % 2 then R u v else ent N (a+s * m) (b+t * m):=by
  unfold liftS
  rw [S3.ent c4 c3,S2.ent c3 c4,S1.ent c2 c1,S.ent c1 c2]
  simp only [cell_eq ha hv hs m1,cell_eq hb hu ht' (show 1 < 2 by decide),cell_eq ha hu hs (show 1 < 2 by decide),cell_eq hb hv ht' m1,cell_eq ha hv hs m0,cell_eq hb hu ht' (show 0 < 2 by decide),cell_eq ha hu hs (show 0 < 2 by decide),cell_eq hb hv ht' m0]
 rw [e]
 obtain ⟨l1,l2⟩:=L a b s t ha hb hs ht'
 have hs2:s=0 ∨ s=1:=by omega
 have ht2:t=0 ∨ t=1:=by omega
 have hw2:tw u v=0 ∨ tw u v=1:=by omega
 by_cases cur:min a b=u∧max a b=v
 ·have mm:(a=u∧b=v) ∨ (a=v∧b=u):=by omega
  rw [cur.1,cur.2] at l2 ⊢
  have e0:=l2 nd
  refine ⟨fun _=>?_,fun z=>absurd (Or.inr ⟨rfl,rfl⟩) z⟩
  rw [e0]
  rcases mm with ⟨ra,rb⟩ | ⟨ra,rb⟩ <;> rcases hs2 with rfl | rfl <;> rcases ht2 with rfl | rfl <;> rcases hw2 with hw | hw <;> rw [hw] <;> simp [ra,rb]
 ·have n1:¬ (a=v∧b=u):=fun z=>cur (by omega)
  have n2:¬ (a=u∧b=v):=fun z=>cur (by omega)
  rw [if_neg (fun z=>n1 ⟨z.1.1,z.2.1⟩),if_neg (fun z=>n2 ⟨z.1.1,z.2.1⟩),if_neg (fun z=>n1 ⟨z.1.1,z.2.1⟩),if_neg (fun z=>n2 ⟨z.1.1,z.2.1⟩)]
  exact ⟨fun z=>l1 (z.resolve_right cur),fun z=>l2 fun y=>z (.inl y)⟩
theorem ent_row {M:List (List Int)} {i j:Nat} {W:List Int} (h:M[i]? = some W):ent M i j=W.getD j 0:=by
 unfold ent
 rw [h,List.getD_eq_getElem?_getD]
 rfl
def SymF (n:Nat) (M:Nat→Nat→Int):Prop:=∀ u < n,∀ v < n,M u v=M v u
theorem lf_sym {m:Nat} {tw:Nat→Nat→Nat} {R:Nat→Nat→Int} {dn:Nat→Nat→Prop} {N:List (List Int)} (L:LfD m tw R dn N) (h:∀ x y,x≤y→y < m→dn x y):SymF (2 * m) (ent N):=by
 have key:∀ u,u < 2 * m→∃ a s,a < m∧s < 2∧u=a+s * m:=fun u hu=>by
  by_cases c:u < m
  ·exact ⟨u,0,c,by decide,by omega⟩
  ·exact ⟨u - m,1,by omega,by decide,by omega⟩
 intro u hu v hv
 obtain ⟨a,s,ha,hs,rfl⟩:=key u hu
 obtain ⟨b,t,hb,ht,rfl⟩:=key v hv
 rw [(L a b s t ha hb hs ht).1 (h _ _ (by omega) (by omega)),(L b a t s hb ha ht hs).1 (h _ _ (by omega) (by omega)),Nat.add_comm t s,Nat.min_comm b a,Nat.max_comm b a]
theorem sq_symF {n:Nat} {M:List (List Int)} (S:Sq n M):SymF n (ent M):=fun u hu v hv=>S.sym u v hu hv
def sg (os:List Int) (u:Nat):Nat:=(os[u]?.getD 0).toNat
theorem sg_at {n:Nat} {os:List Int} (h:os.Perm (My.rI n)) {u:Nat} (hu:u < n):os[u]? = some ((sg os u:Nat):Int)∧sg os u < n:=by
 have lo:os.length=n:=by rw [h.length_eq,rI_len]
 obtain ⟨o,ho⟩:=get_lt (l:=os) (i:=u) (by omega)
 have:=rI_mem (h.mem_iff.mp (List.mem_of_getElem? ho))
 unfold sg
 rw [ho]
 show some o=some ((o.toNat:Nat):Int)∧o.toNat < n
 rw [Int.toNat_of_nonneg this.1]
 exact ⟨rfl,by omega⟩
theorem ent_ren {n:Nat} {M:List (List Int)} {os:List Int} (h:os.Perm (My.rI n)) {u v:Nat} (hu:u < n) (hv:v < n):ent (renM M os) u v=ent M (sg os u) (sg os v):=by
 unfold ent renM
 rw [List.getElem?_map,(sg_at h hu).1]
 show ((renH (M.getD (Int.toNat ((sg os u:Nat):Int)) []) os)[v]?).getD 0=_
 unfold renH
 rw [Int.toNat_natCast,List.getD_eq_getElem?_getD,List.getElem?_map,(sg_at h hv).1]
 show List.getD _ (Int.toNat ((sg os v:Nat):Int)) 0=_
 rw [Int.toNat_natCast,List.getD_eq_getElem?_getD]
theorem sym_ren {n:Nat} {M:List (List Int)} {os:List Int} (h:os.Perm (My.rI n)) (y:SymF n (ent M)):SymF n (ent (renM M os)):=fun u hu v hv=>by
 rw [ent_ren h hu hv,ent_ren h hv hu]
 exact y _ (sg_at h hu).2 _ (sg_at h hv).2
theorem sym_put {n:Nat} {M:List (List Int)} {i j:Nat} {z:Int} (S:SqN n M) (hi:i < n) (hj:j < n) (hz:z.natAbs≤2 * wMax) (y:SymF n (ent M)):SymF n (ent (put (put M i j z) j i z)):=fun u hu v hv=>by
 rw [(S.put i j hz).ent hj hi,S.ent hi hj,(S.put i j hz).ent hj hi,S.ent hi hj,y u hu v hv]
 by_cases c1:u=j∧v=i <;> by_cases c2:u=i∧v=j <;> simp [c1,c2,And.comm]
end
section
variable {P:Program} {w:World} {K:PySem.W.Frag} {mg:Str→Option Value} {base:Heap}
def spLift (K:PySem.W.Frag):Sp:=fun vs H Q _=>∃ (wA:Addr) (m:Nat) (hs:List Int) (M:List (List Int)) (c:Int) (fr:Bool),vs=[.ref wA,.int c,.bl fr]∧Wz H wA m hs M∧m≤4 ∧
 ∀ (p:Addr) (N:List (List Int)) (H':Hp),Same H H'→Wz H' p (2 * m) (hs++hs) N→SymF (2 * m) (ent N)→Q (.ref p) H'
abbrev nLift:List Str:=["_law_web_here","_law_cell","_law_free","_law_hues","_law_rows","_law_many","_law_twists","_law_square_here","_law_u","_law_v","_law_side","_law_there","_law_here"]
abbrev aLift:List Str:=["_law_web_here","_law_cell","_law_free"]
theorem scLift:FnScope nLift aLift (defScope sLift):=by constructor<;>first|rfl|decide +kernel
theorem sqN_zero (n:Nat):SqN n (List.replicate n (List.replicate n 0)):=(sq_zero n).n
theorem lf_zero {m:Nat} {tw:Nat→Nat→Nat} {R:Nat→Nat→Int} {dn:Nat→Nat→Prop} (h:∀ x y,¬ dn x y):LfD m tw R dn (List.replicate (2 * m) (List.replicate (2 * m) 0)):=by
 intro a b s t ha hb hs ht
 refine ⟨fun z=>absurd z (h _ _),fun _=>?_⟩
 unfold ent
 rw [List.getElem?_replicate,if_pos (cell_lt ha hs)]
 simp only [Option.getD_some,List.getElem?_replicate,if_pos (cell_lt hb ht)]
theorem LfD.mono {m:Nat} {tw:Nat→Nat→Nat} {R:Nat→Nat→Int} {dn dn':Nat→Nat→Prop} {N:List (List Int)} (L:LfD m tw R dn N) (h:∀ x y,x≤y→y < m→(dn x y↔dn' x y)):LfD m tw R dn' N:=by
 intro a b s t ha hb hs ht
 obtain ⟨l1,l2⟩:=L a b s t ha hb hs ht
 have e:=h (min a b) (max a b) (by omega) (by omega)
 exact ⟨fun z=>l1 (e.mpr z),fun z=>l2 fun y=>z (e.mp y)⟩
theorem ok_lift {f fD:Addr} {fd fdD:FuncData} (B:BltL mg) (F:Fun K "_law_lift" "_law_lift" sLift f fd) (DD:Dn K mg "_law_draws" sDraws ["_law_cell","_law_many","_law_base","_law_free"] fD fdD) (GD:FnOk P w K mg base CX0 1 fD fdD ["_law_cell","_law_many","_law_base","_law_free"] spDraws):FnOk P w K mg base CX0 2 f fd aLift (spLift K):=by
 refine F.ok scLift (fun vs H Q E h=>?_) (fun cdv A outer s H vs Q E hr h=>?_)
 ·obtain ⟨wA,m,hs,M,c,fr,rfl,_⟩:=h
  rfl
 ·obtain ⟨wA,m,hs,M,c,fr,rfl,W,hm,q⟩:=h
  obtain ⟨hA,rA,rs,w1,w2,w3,RM⟩:=W.wr.ex
  refine ⟨_,pss_cons (ps_asg (pv 0) (pg_tup rfl (pgs_cons (pg_name (i:=3) scLift.nd rfl (Or.inl rfl)) (pgs_cons (pg_name (i:=4) scLift.nd rfl (Or.inl rfl)) pgs_nil))))
   (pss_cons (ps_set (i:=5) scLift.nd rfl (Or.inl rfl) (pe_callB call_len_seq (by rfl) B.len PySem.boot_len (pa_cons (pv 3) pa_nil)))
   (pss_cons (ps_set (i:=6) scLift.nd rfl (Or.inl rfl) (pe_fn DD GD hr rfl (pa_cons (pv 1) (pa_cons (pe_op op_mul (pv 5) (pv 5)) (pa_cons pe_int (pa_cons (pv 2) pa_nil))))))
   (pss_cons (ps_set (i:=7) scLift.nd rfl (Or.inl rfl) (pe_lst pa_nil))
   (pss_cons (ps_for PassesOwn.never rfl (pi_range1 rfl B.range (pa_cons (pe_op op_mul pe_int (pv 5)) pa_nil)) (pg_name (i:=8) scLift.nd rfl (Or.inl rfl))
    (pss_one (ps_expr (pe_bm PySem.F.plainAttrs_list PySem.F.slot_list_append PySem.F.type_list_append mt_append (pv 7) (pa_cons (pe_op op_rep (pe_lst (pa_cons pe_int pa_nil)) (pe_op op_mul pe_int (pv 5))) pa_nil)))))
   (pss_cons (ps_for PassesOwn.never rfl (pi_range1 rfl B.range (pa_cons (pv 5) pa_nil)) (pg_name (i:=8) scLift.nd rfl (Or.inl rfl))
    (pss_one (ps_for PassesOwn.never rfl (pi_range2 rfl B.range (pa_cons (pv 8) (pa_cons (pv 5) pa_nil))) (pg_name (i:=9) scLift.nd rfl (Or.inl rfl))
     (pss_one (ps_for PassesOwn.never rfl (pi_range1 rfl B.range (pa_cons pe_int pa_nil)) (pg_name (i:=10) scLift.nd rfl (Or.inl rfl))
      (pss_cons (ps_set (i:=11) scLift.nd rfl (Or.inl rfl) (pe_op op_mod (pe_op op_add (pv 10) (pe_ix ix_list (pv 6) (pe_op op_add (pe_op op_mul (pv 8) (pv 5)) (pv 9)) (fun _ _=>rfl))) pe_int))
      (pss_cons (ps_set (i:=12) scLift.nd rfl (Or.inl rfl) (pe_op op_add (pv 8) (pe_op op_mul (pv 10) (pv 5))))
      (pss_cons (ps_set (i:=11) scLift.nd rfl (Or.inl rfl) (pe_op op_add (pv 9) (pe_op op_mul (pv 11) (pv 5))))
      (pss_cons (ps_asg (pe_ix ix_list (pe_ix ix_list (pv 4) (pv 8) (fun _ _=>rfl)) (pv 9) (fun _ _=>rfl)) (pg_sub (pe_ix ix_list (pv 7) (pv 12) (fun _ _=>rfl)) (pv 11) set_list))
      (pss_one (ps_asg (pe_ix ix_list (pe_ix ix_list (pv 4) (pv 8) (fun _ _=>rfl)) (pv 9) (fun _ _=>rfl)) (pg_sub (pe_ix ix_list (pv 7) (pv 11) (fun _ _=>rfl)) (pv 12) set_list))))))))))))
   (pss_one (ps_ret (pe_tup (pa_cons (pe_op op_cat (pv 3) (pv 3)) (pa_cons (pv 7) pa_nil)))))))))),?_⟩
  refine ⟨_,rfl,wA,_,rfl,SqT.of w1,rfl,_,_,rfl,_,_,rfl,rfl,?_⟩
  refine ⟨_,rfl,hA,_,rfl,.inl (SqL.of w2),?_⟩
  rw [List.length_map,W.len]
  have mm:m * m≤16:=Nat.mul_le_mul hm hm
  refine ⟨_,rfl,_,rfl,_,rfl,_,_,rfl,rfl,cmul_l (by omega) (by omega),_,rfl,c,m * m,2,fr,?_,by omega,by decide,.inl (by decide),fun T ds H1 hd s1 nT eT=>?_⟩
  ·show [V.int c,V.int ((m:Int) * (m:Int)),_,_]=_
   rw [show (m:Int) * (m:Int)=((m * m:Nat):Int) by push_cast; rfl]
  obtain ⟨ld,bd⟩:=hd
  refine ⟨Nat.zero_le _,fun D hD=>?_⟩
  have nD:H D=none:=s1.free hD
  have e2m:(2:Int) * (m:Int)=((2 * m:Nat):Int):=by push_cast; rfl
  refine ⟨_,rfl,_,_,rfl,rfl,cmul_l (by decide) (by decide),_,rfl,by omega,by omega,?_⟩
  have etn:((2:Int) * (m:Int)).toNat=2 * m:=by omega
  rw [etn]
  refine for_range (n:=2 * m) (fun i σ H'=>∃ (o8:Option V) (rs':List Addr),σ=[some (.ref wA),some (.int c),some (.bl fr),some (.ref hA),some (.ref rA),some (.int (m:Int)),some (.ref T),some (.ref D),o8,none,none,none,none]∧rs'.length=i∧Same H1 H'∧H' D=some (.lst (rs'.map V.ref)) ∧
   RowsAt H' rs' (List.replicate i (List.replicate (2 * m) 0))∧∀ r ∈ rs',H1 r=none∧r≠D) ⟨none,[],rfl,rfl,Same.upd hD,upd_same,⟨rfl,(fun i r x h _=>by cases h),List.nodup_nil⟩,(fun r hr=>by cases hr)⟩ ?_ ?_
  ·rintro i σ H4 hlt ⟨o8,rs',rfl,l4,c4,eD,R4,o4⟩
   refine ⟨_,rfl,.inl ⟨rfl,_,SqL.of eD⟩,(by show 1≤sizeLine; decide),fun l1 hl1=>?_⟩
   refine ⟨_,rfl,_,_,rfl,rfl,cmul_l (by decide) (by decide),l1,_,_,rfl,rfl,upd_same,by omega,by omega,Nat.le_of_lt (small1000 (by rw [etn]; show 1 * (2 * m)≤1000; omega)),fun l2 hl2=>?_⟩
   rw [etn,zeros_map] at *
   have n21:l2≠l1:=(ne_of_none upd_same hl2).symm
   have hl2':H4 l2=none:=by rw [upd_ne n21] at hl2; exact hl2
   have sm:Same H4 (upd (upd H4 l1 (.lst [.int 0])) l2 (.lst ((List.replicate (2 * m) (0:Int)).map V.int))):=(Same.upd hl1).trans (Same.upd hl2)
   have el:upd (upd H4 l1 (.lst [.int 0])) l2 (.lst ((List.replicate (2 * m) (0:Int)).map V.int)) l2=some (.lst ((List.replicate (2 * m) (0:Int)).map V.int)):=upd_same
   generalize upd (upd H4 l1 (.lst [.int 0])) l2 (.lst ((List.replicate (2 * m) (0:Int)).map V.int))=H5 at sm el ⊢
   have l2D:l2≠D:=(ne_of_none eD hl2').symm
   have l2r:l2 ∉ rs':=rows_out R4 hl2'
   refine ⟨D,_,_,rfl,rfl,sm _ _ eD,small1000 (by rw [List.length_map]; omega),?_⟩
   refine ⟨_,rs'++[l2],rfl,by rw [List.length_append,l4]; rfl,fun b o e=>?_,by rw [List.map_append]; exact upd_same,?_,?_⟩
   ·rw [upd_ne (ne_of_none e hD)]
    exact sm _ _ (c4 _ _ e)
   ·have R5:RowsAt H5 (rs'++[l2]) (List.replicate i (List.replicate (2 * m) 0)++[List.replicate (2 * m) 0]):=R4.snoc (fun r _ o e=>sm r o e) el l2r
    rw [←List.replicate_succ'] at R5
    refine R5.keep fun r hr o e=>?_
    have:r≠D:=by
     rcases List.mem_append.mp hr with z | z
     ·exact (o4 r z).2
     ·rw [List.mem_singleton.mp z]; exact l2D
    rw [upd_ne this]
    exact e
   ·intro r hr
    rcases List.mem_append.mp hr with z | z
    ·exact o4 r z
    ·rw [List.mem_singleton.mp z]
     exact ⟨c4.free hl2',l2D⟩
  ·rintro σ H4 ⟨o8,rs',rfl,l4,c4,eD,R4,o4⟩
   obtain ⟨tw,htw⟩:∃ tw:Nat→Nat→Nat,tw=fun u v=>((ds[u * m+v]?).getD 0).toNat:=⟨_,rfl⟩
   have ix:∀ {u v:Nat},u < m→v < m→u * m+v < m * m:=fun {u v} hu hv=>by
    have h1:(u+1) * m≤m * m:=Nat.mul_le_mul_right m hu
    rw [Nat.add_mul,Nat.one_mul] at h1
    omega
   have twd:∀ {u v:Nat},u < m→v < m→ds[u * m+v]? = some ((tw u v:Nat):Int)∧tw u v < 2:=fun {u v} hu hv=>by
    obtain ⟨d,ed⟩:=get_lt (l:=ds) (i:=u * m+v) (by rw [ld]; exact ix hu hv)
    obtain ⟨d0,d1⟩:=bd d (List.mem_of_getElem? ed)
    have e:tw u v=d.toNat:=by rw [htw]; show ((ds[u * m+v]?).getD 0).toNat=_; rw [ed]; rfl
    rw [e,ed]
    exact ⟨by congr 1; omega,by omega⟩
   clear htw
   have t4:=s1.trans c4
   refine ⟨_,rfl,(m:Int),rfl,by omega,by omega,for_range (n:=m) (fun u σ H'=>∃ (o8 o9 o10 o11 o12:Option V) (N:List (List Int)),σ=[some (.ref wA),some (.int c),some (.bl fr),some (.ref hA),some (.ref rA),some (.int (m:Int)),some (.ref T),some (.ref D),o8,o9,o10,o11,o12]∧Same H1 H'∧H' D=some (.lst (rs'.map V.ref)) ∧
    RowsAt H' rs' N∧SqN (2 * m) N∧LfD m tw (ent M) (fun x _=>x < u) N) ⟨_,_,_,_,_,_,rfl,c4,eD,R4,sqN_zero _,lf_zero fun x y z=>absurd z (Nat.not_lt_zero _)⟩ ?_ ?_⟩
   ·rintro u σ H5 hu ⟨o8,o9,o10,o11,o12,N,rfl,c5,eD5,R5,S5,L5⟩
    refine ⟨_,rfl,_,rfl,(0+(u:Nat):Int),(m:Int),rfl,⟨by omega,by omega,by omega,by omega⟩,?_⟩
    have eu:((m:Int) - (0+(u:Nat):Int)).toNat=m - u:=by omega
    rw [eu]
    refine for_range (lo:=(0+(u:Nat):Int)) (n:=m - u) (fun i σ H'=>∃ (o9 o10 o11 o12:Option V) (N:List (List Int)),σ=[some (.ref wA),some (.int c),some (.bl fr),some (.ref hA),some (.ref rA),some (.int (m:Int)),some (.ref T),some (.ref D),some (.int (0+(u:Nat):Int)),o9,o10,o11,o12]∧Same H1 H'∧H' D=some (.lst (rs'.map V.ref)) ∧
     RowsAt H' rs' N∧SqN (2 * m) N∧LfD m tw (ent M) (fun x y=>x < u ∨ (x=u∧y < u+i)) N) ⟨_,_,_,_,N,rfl,c5,eD5,R5,S5,L5.mono fun x y h1 h2=>by omega⟩ ?_ ?_
    ·rintro i σ H6 hi ⟨o9,o10,o11,o12,N,rfl,c6,eD6,R6,S6,L6⟩
     have hv:u+i < m:=by omega
     have evi:(0+(u:Nat)+(i:Nat):Int)=((u+i:Nat):Int):=by omega
     obtain ⟨ed,tlt⟩:=twd hu hv
     obtain ⟨ru,xu,gu1,gu2,gu3⟩:=RM.get (i:=u) (by rw [RM.len,W.sq.len]; exact hu)
     have lxu:=(W.sq.row u xu gu2)
     obtain ⟨z,ez⟩:=get_lt (l:=xu) (i:=u+i) (by rw [lxu.1]; exact hv)
     have ezn:ent M u (u+i)=z:=by rw [ent_row gu2,List.getD_eq_getElem?_getD,ez]; rfl
     have hz:z.natAbs≤2 * wMax:=lxu.2 z (List.mem_of_getElem? ez)
     have L7:=lift_pair (u:=u) (v:=u+i) tlt (by omega) hv S6 (by rw [ezn]; exact hz) (by omega) L6
     have aT:atI (ds.map V.int) ((0+(u:Nat):Int) * (m:Int)+(0+(u:Nat)+(i:Nat):Int))=some (.int ((tw u (u+i):Nat):Int)):=by
      rw [show (0+(u:Nat):Int) * (m:Int)+(0+(u:Nat)+(i:Nat):Int)=((u * m+(u+i):Nat):Int) by rw [Int.zero_add]; push_cast; rfl]
      exact atI_nat (by rw [List.getElem?_map,ed]; rfl)
     have aru:atI (rs.map V.ref) (0+(u:Nat):Int)=some (.ref ru):=by rw [Int.zero_add]; exact at_ref gu1
     have axv:atI (xu.map V.int) (0+(u:Nat)+(i:Nat):Int)=some (.int z):=by rw [evi]; exact atI_nat (by rw [List.getElem?_map,ez]; rfl)
     refine ⟨2,rfl,by decide,by decide,for_range (n:=2) (fun sd σ H'=>∃ (o10 o11 o12:Option V),σ=[some (.ref wA),some (.int c),some (.bl fr),some (.ref hA),some (.ref rA),some (.int (m:Int)),some (.ref T),some (.ref D),some (.int (0+(u:Nat):Int)),some (.int (0+(u:Nat)+(i:Nat):Int)),o10,o11,o12]∧Same H1 H'∧H' D=some (.lst (rs'.map V.ref)) ∧
      RowsAt H' rs' ((List.range sd).foldl (fun N s=>liftS m tw (ent M) N u (u+i) s) N)∧SqN (2 * m) ((List.range sd).foldl (fun N s=>liftS m tw (ent M) N u (u+i) s) N)) ⟨_,_,_,rfl,c6,eD6,R6,S6⟩ ?_ ?_⟩
     ·rintro sd σ H7 hsd ⟨o10,o11,o12,rfl,c7,eD7,R7,S7⟩
      rw [List.range_succ,List.foldl_append]
      generalize (List.range sd).foldl (fun N s=>liftS m tw (ent M) N u (u+i) s) N=Nn at R7 S7
      show _
      have t7:=s1.trans c7
      obtain ⟨th,eth⟩:∃ th:Nat,th=(sd+tw u (u+i)) % 2:=⟨_,rfl⟩
      have hth:th < 2:=by rw [eth]; exact Nat.mod_lt _ (by decide)
      have ethI:((0+(sd:Nat):Int)+((tw u (u+i):Nat):Int)) % 2=((th:Nat):Int):=by rw [eth]; omega
      have ehe:(0+(u:Nat):Int)+(0+(sd:Nat):Int) * (m:Int)=((u+sd * m:Nat):Int):=by rw [Int.zero_add,Int.zero_add]; push_cast; rfl
      have eth2:(0+(u:Nat)+(i:Nat):Int)+((th:Nat):Int) * (m:Int)=((u+i+th * m:Nat):Int):=by rw [Int.zero_add]; push_cast; rfl
      have c1:=cell_lt (m:=m) hu hsd
      have c2:=cell_lt (m:=m) hv hth
      refine ⟨_,rfl,_,rfl,_,rfl,_,rfl,_,_,rfl,rfl,cmul_l (by omega) (by omega),_,rfl,_,_,rfl,rfl,T,_,_,_,rfl,rfl,SqL.of (c7 _ _ eT),aT,_,_,rfl,rfl,_,_,rfl,rfl,(by show (0:Int) < 2; decide),?_⟩
      refine ⟨_,rfl,_,rfl,_,rfl,_,_,rfl,rfl,cmul_l (by omega) (by omega),_,_,rfl,rfl,?_⟩
      refine ⟨_,rfl,_,rfl,_,rfl,_,_,rfl,rfl,cmul_l (by show _ < ((0+(sd:Nat):Int)+((tw u (u+i):Nat):Int)) % 2; omega) (by show ((0+(sd:Nat):Int)+((tw u (u+i):Nat):Int)) % 2 < _; omega),_,_,rfl,rfl,?_⟩
      dsimp only
      rw [ethI,ehe,eth2]
      obtain ⟨ra,xa,ga1,ga2,ga3⟩:=R7.get (i:=u+sd * m) (by rw [R7.len,S7.len]; exact c1)
      have hra:=o4 ra (List.mem_of_getElem? ga1)
      have lxa:=(S7.row _ xa ga2).1
      have x7:=t7 _ _ gu3
      refine ⟨_,rfl,_,rfl,rA,_,_,_,rfl,rfl,SqL.of (t7 _ _ w3),aru,_,rfl,ru,_,_,_,rfl,rfl,SqL.of x7,axv,?_⟩
      refine ⟨_,rfl,_,rfl,D,_,_,_,rfl,rfl,SqL.of eD7,at_ref ga1,_,rfl,ra,_,_,u+i+th * m,rfl,rfl,ga3,by rw [List.length_map,lxa]; exact ixN_nat c2,?_⟩
      rw [←List.map_set]
      have R8:=R7.put (j:=u+i+th * m) (z:=z) ga1 ga2
      have c8:Same H1 (L2.upd H7 ra (.lst ((xa.set (u+i+th * m) z).map V.int))):=fun b o e=>by rw [upd_ne (ne_of_none e hra.1)]; exact c7 _ _ e
      have eD8:L2.upd H7 ra (.lst ((xa.set (u+i+th * m) z).map V.int)) D=_:=(upd_ne hra.2.symm).trans eD7
      generalize L2.upd H7 ra (.lst ((xa.set (u+i+th * m) z).map V.int))=H8 at R8 c8 eD8 ⊢
      have S8:=S7.put (u+sd * m) (u+i+th * m) hz
      have t8:=s1.trans c8
      obtain ⟨rb,xb,gb1,gb2,gb3⟩:=R8.get (i:=u+i+th * m) (by rw [R8.len,S8.len]; exact c2)
      have hrb:=o4 rb (List.mem_of_getElem? gb1)
      have lxb:=(S8.row _ xb gb2).1
      refine ⟨_,rfl,_,rfl,rA,_,_,_,rfl,rfl,SqL.of (t8 _ _ w3),aru,_,rfl,ru,_,_,_,rfl,rfl,SqL.of (t8 _ _ gu3),axv,?_⟩
      refine ⟨_,rfl,_,rfl,D,_,_,_,rfl,rfl,SqL.of eD8,at_ref gb1,_,rfl,rb,_,_,u+sd * m,rfl,rfl,gb3,by rw [List.length_map,lxb]; exact ixN_nat c1,?_⟩
      rw [←List.map_set]
      have R9:=R8.put (j:=u+sd * m) (z:=z) gb1 gb2
      have S9:=S8.put (u+i+th * m) (u+sd * m) hz
      refine ⟨_,_,_,rfl,fun b o e=>by rw [upd_ne (ne_of_none e hrb.1)]; exact c8 _ _ e,(upd_ne hrb.2.symm).trans eD8,?_,?_⟩
      ·show RowsAt _ _ (liftS m tw (ent M) Nn u (u+i) sd)
       unfold liftS
       rw [ezn,←eth]
       exact R9
      ·show SqN _ (liftS m tw (ent M) Nn u (u+i) sd)
       unfold liftS
       rw [ezn,←eth]
       exact S9
     ·rintro σ H7 ⟨o10,o11,o12,rfl,c7,eD7,R7,S7⟩
      refine ⟨_,_,_,_,_,rfl,c7,eD7,R7,S7,?_⟩
      exact LfD.mono (dn:=fun x y=>(x < u ∨ (x=u∧y < u+i)) ∨ (x=u∧y=u+i)) L7 fun x y h1 h2=>by omega
    ·rintro σ H6 ⟨o9,o10,o11,o12,N,rfl,c6,eD6,R6,S6,L6⟩
     exact ⟨_,_,_,_,_,N,rfl,c6,eD6,R6,S6,L6.mono fun x y h1 h2=>by omega⟩
   ·rintro σ H5 ⟨o8,o9,o10,o11,o12,N,rfl,c5,eD5,R5,S5,L5⟩
    have t5:=s1.trans c5
    refine ⟨_,rfl,_,rfl,hA,hA,_,_,rfl,rfl,t5 _ _ w2,t5 _ _ w2,Nat.le_of_lt (small1000 (by rw [List.length_map,W.len]; omega)),fun pA hpA=>?_⟩
    have s6:Same H5 (L2.upd H5 pA (.lst (hs.map V.int++hs.map V.int))):=Same.upd hpA
    have e6:L2.upd H5 pA (.lst (hs.map V.int++hs.map V.int)) pA=some (.lst ((hs++hs).map V.int)):=by rw [upd_same,List.map_append]
    generalize L2.upd H5 pA (.lst (hs.map V.int++hs.map V.int))=H6 at s6 e6 ⊢
    refine ⟨_,rfl,(by show 2≤sizeLine; decide),fun tA htA=>?_⟩
    have s7:Same H6 (L2.upd H6 tA (.tup [.ref pA,.ref D])):=Same.upd htA
    refine q tA N _ ((t5.trans s6).trans s7) ⟨⟨pA,D,rs',upd_same,s7 _ _ e6,s7 _ _ (s6 _ _ eD5),R5.keep fun r _ o e=>s7 _ _ (s6 _ _ e)⟩,by rw [List.length_append,W.len]; omega,S5,fun z hz=>W.hb z (by simpa using hz)⟩ (lf_sym L5 fun x y h1 h2=>by show x < m; omega)
end
section
variable {P:Program} {w:World} {K:PySem.W.Frag} {mg:Str→Option Value} {base:Heap}
theorem WebAt.wz {H:Hp} {p hA rA:Addr} {rs:List Addr} {n:Nat} {hs:List Int} {M:List (List Int)} (W:WebAt H p hA rA rs n hs M):Wz H p n hs M :=
 ⟨⟨hA,rA,rs,W.tup,W.hue,W.rws,W.row⟩,W.len,W.sq.n,fun z hz=>by have:=W.pos z hz; omega⟩
theorem renM_sq {n:Nat} {M:List (List Int)} {os:List Int} (S:SqN n M) (hp:os.Perm (rI n)):SqN n (renM M os):=by
 have lo:=os_len hp
 refine ⟨by unfold renM; rw [List.length_map,lo],fun i x hx=>?_⟩
 unfold renM at hx
 obtain ⟨o,ho,rfl⟩:=map_get hx
 refine ⟨by rw [ren_len,lo],fun z hz=>?_⟩
 obtain ⟨a,rfl,ha⟩:=os_at hp ho
 obtain ⟨W,hW⟩:=get_lt (l:=M) (i:=a) (by rw [S.len]; exact ha)
 rw [Int.toNat_natCast,getD_some hW] at hz
 exact (S.row a W hW).2 z ((ren_perm hp (S.row a W hW).1).mem_iff.mp hz)
theorem renM_bd {n:Nat} {M:List (List Int)} {os:List Int} (S:Sq n M) (hp:os.Perm (rI n)) {i:Nat} {x:List Int} (hx:(renM M os)[i]? = some x):∀ z ∈ x,z.natAbs≤wMax:=by
 unfold renM at hx
 obtain ⟨o,ho,rfl⟩:=map_get hx
 intro z hz
 obtain ⟨a,rfl,ha⟩:=os_at hp ho
 obtain ⟨W,hW⟩:=get_lt (l:=M) (i:=a) (by rw [S.len]; exact ha)
 rw [Int.toNat_natCast,getD_some hW] at hz
 exact (S.row a W hW).2 z ((ren_perm hp (S.row a W hW).1).mem_iff.mp hz)
theorem ren_hb {n:Nat} {hs os:List Int} (hp:os.Perm (rI n)) (lh:hs.length=n) {Pz:Int→Prop} (h:∀ z ∈ hs,Pz z):∀ z ∈ renH hs os,Pz z:=fun z hz=>h z ((ren_perm hp lh).mem_iff.mp hz)
def spTwo (K:PySem.W.Frag):Sp:=fun vs H Q _=>∃ (a:Addr) (ns:List Int) (mo:Nat),vs=[.ref a,.int (mo:Int)]∧SqL K H a (ns.map V.int)∧mo≤8 ∧
 ∀ (p wA oA:Addr) (n m:Nat) (hs hs':List Int) (M M':List (List Int)) (H':Hp),Same H H'→H' p=some (.tup [.ref wA,.ref oA])→Wz H' wA n hs M→Wz H' oA m hs' M'→n≤mo→m≤mo→(cellV ns 0 / 14 % 5=1→∃ os,os.Perm (rI n)∧m=n∧hs'=renH hs os∧M'=renM M os)→SymF n (ent M)→SymF m (ent M')→Q (.ref p) H'
abbrev nTwo:List Str:=["_law_script","_law_most","_law_first","_law_free","_law_many","_law_way","_law_small","_law_web_here","_law_other","_law_u","_law_v"]
theorem scTwo:FnScope nTwo ["_law_script","_law_most"] (defScope sTwo):=by constructor<;>first|rfl|decide +kernel
theorem ok_two {f fC fW fO fL fR:Addr} {fd fdC fdW fdO fdL fdR:FuncData} (B:BltL mg) (F:Fun K "_law_two" "_law_two" sTwo f fd)
  (DC:Dn K mg "_law_cell_at" sCellAt ["_law_script","_law_k"] fC fdC) (GC:FnOk P w K mg base CX0 1 fC fdC ["_law_script","_law_k"] (spCell K))
  (DW:Dn K mg "_law_web" sWebP aWebP fW fdW) (GW:FnOk P w K mg base CX0 2 fW fdW aWebP (spWebP K))
  (DO:Dn K mg "_law_order" sOrder aOrder fO fdO) (GO:FnOk P w K mg base CX0 2 fO fdO aOrder spOrder)
  (DL:Dn K mg "_law_lift" sLift aLift fL fdL) (GL:FnOk P w K mg base CX0 2 fL fdL aLift (spLift K))
  (DR:Dn K mg "_law_renamed" sLRen ["_law_web_here","_law_order_here"] fR fdR) (GR:FnOk P w K mg base CX0 1 fR fdR ["_law_web_here","_law_order_here"] spLRen) :
  FnOk P w K mg base CX0 3 f fd ["_law_script","_law_most"] (spTwo K):=by
 refine F.ok scTwo (fun vs H Q E h=>?_) (fun cdv A outer s H vs Q E hr h=>?_)
 ·obtain ⟨a,ns,mo,rfl,_⟩:=h
  rfl
 ·obtain ⟨a,ns,mo,rfl,hS,hmo,q⟩:=h
  have r1:=hr.mono (j:=1) (by decide)
  refine ⟨_,pss_cons (ps_set (i:=2) scTwo.nd rfl (Or.inl rfl) (pe_fn DC GC r1 rfl (pa_cons (pv 0) (pa_cons pe_int pa_nil))))
   (pss_cons (ps_set (i:=3) scTwo.nd rfl (Or.inl rfl) (pe_cmpR op_eq (pe_op op_mod (pv 2) pe_int) pe_int (nomark _)))
   (pss_cons (ps_set (i:=4) scTwo.nd rfl (Or.inl rfl) (pe_op op_mod (pe_op op_fdiv (pv 2) pe_int) (pe_op op_add (pv 1) pe_int)))
   (pss_cons (ps_set (i:=5) scTwo.nd rfl (Or.inl rfl) (pe_op op_mod (pe_op op_fdiv (pv 2) pe_int) pe_int))
   (pss_cons (ps_if (pt_cmpR op_eq (pv 5) pe_int (nomark _))
    (pss_cons (ps_set (i:=6) scTwo.nd rfl (Or.inl rfl) (pe_fn DW GW hr rfl (pa_cons (pv 0) (pa_cons pe_int (pa_cons (pe_op op_fdiv (pv 4) pe_int) (pa_cons (pv 3) pa_nil))))))
    (pss_cons (ps_set (i:=7) scTwo.nd rfl (Or.inl rfl) (pe_fn DL GL hr rfl (pa_cons (pv 6) (pa_cons (pe_fn DC GC r1 rfl (pa_cons (pv 0) (pa_cons pe_int pa_nil))) (pa_cons (pv 3) pa_nil)))))
    (pss_cons (ps_set (i:=8) scTwo.nd rfl (Or.inl rfl) (pe_fn DL GL hr rfl (pa_cons (pv 6) (pa_cons (pe_fn DC GC r1 rfl (pa_cons (pv 0) (pa_cons pe_int pa_nil))) (pa_cons (pv 3) pa_nil)))))
    (pss_one (ps_ret (pe_tup (pa_cons (pv 7) (pa_cons (pe_fn DR GR r1 rfl (pa_cons (pv 8) (pa_cons (pe_fn DO GO hr rfl (pa_cons (pe_fn DC GC r1 rfl (pa_cons (pv 0) (pa_cons pe_int pa_nil))) (pa_cons (pe_callB call_len_seq (by rfl) B.len PySem.boot_len (pa_cons (pe_ix ix_tup (pv 8) pe_int (fun _ _=>rfl)) pa_nil)) (pa_cons (pv 3) pa_nil)))) pa_nil))) pa_nil)))))))) pss_nil)
   (pss_cons (ps_set (i:=7) scTwo.nd rfl (Or.inl rfl) (pe_fn DW GW hr rfl (pa_cons (pv 0) (pa_cons pe_int (pa_cons (pv 4) (pa_cons (pv 3) pa_nil))))))
   (pss_cons (ps_if (pt_cmpR op_eq (pv 5) pe_int (nomark _))
    (pss_one (ps_ret (pe_tup (pa_cons (pv 7) (pa_cons (pe_fn DW GW hr rfl (pa_cons (pv 0) (pa_cons pe_int (pa_cons (pe_op op_mod (pe_op op_fdiv (pv 2) pe_int) (pe_op op_add (pv 1) pe_int)) (pa_cons (pv 3) pa_nil))))) pa_nil))))) pss_nil)
   (pss_cons (ps_set (i:=8) scTwo.nd rfl (Or.inl rfl) (pe_fn DR GR r1 rfl (pa_cons (pv 7) (pa_cons (pe_fn DO GO hr rfl (pa_cons (pe_fn DC GC r1 rfl (pa_cons (pv 0) (pa_cons pe_int pa_nil))) (pa_cons (pv 4) (pa_cons (pv 3) pa_nil)))) pa_nil))))
   (pss_mid (ps_if (PW.pt (pw_and (pt_cmpR op_eq (pv 5) pe_int (nomark _)) (pw_and1 (pt_cmpR op_gt (pv 4) pe_int (nomark _)))))
    (pss_cons (ps_set (i:=9) scTwo.nd rfl (Or.inl rfl) (pe_op op_mod (pe_fn DC GC r1 rfl (pa_cons (pv 0) (pa_cons pe_int pa_nil))) (pv 4)))
    (pss_cons (ps_set (i:=10) scTwo.nd rfl (Or.inl rfl) (pe_op op_mod (pe_fn DC GC r1 rfl (pa_cons (pv 0) (pa_cons pe_int pa_nil))) (pv 4)))
    (pss_cons (ps_asg (pe_op op_add (pe_ix ix_list (pe_ix ix_list (pe_ix ix_tup (pv 8) pe_int (fun _ _=>rfl)) (pv 9) (fun _ _=>rfl)) (pv 10) (fun _ _=>rfl)) pe_int) (pg_sub (pe_ix ix_list (pe_ix ix_tup (pv 8) pe_int (fun _ _=>rfl)) (pv 9) (fun _ _=>rfl)) (pv 10) set_list))
    (pss_one (ps_asg (pe_ix ix_list (pe_ix ix_list (pe_ix ix_tup (pv 8) pe_int (fun _ _=>rfl)) (pv 9) (fun _ _=>rfl)) (pv 10) (fun _ _=>rfl)) (pg_sub (pe_ix ix_list (pe_ix ix_tup (pv 8) pe_int (fun _ _=>rfl)) (pv 10) (fun _ _=>rfl)) (pv 9) set_list)))))) pss_nil)
   (pss_mid (ps_if (PW.pt (pw_and (pt_cmpR op_eq (pv 5) pe_int (nomark _)) (pw_and1 (pt_cmpR op_gt (pv 4) pe_int (nomark _)))))
    (pss_one (ps_asg (pe_op op_mod (pe_fn DC GC r1 rfl (pa_cons (pv 0) (pa_cons pe_int pa_nil))) pe_int) (pg_sub (pe_ix ix_tup (pv 8) pe_int (fun _ _=>rfl)) (pe_op op_mod (pe_fn DC GC r1 rfl (pa_cons (pv 0) (pa_cons pe_int pa_nil))) (pv 4)) set_list))) pss_nil)
   (pss_one (ps_ret (pe_tup (pa_cons (pv 7) (pa_cons (pv 8) pa_nil)))))))))))))),?_⟩
  refine ⟨_,rfl,a,ns,0,rfl,hS,by decide,fun c0 hc0=>?_⟩
  rw [←hc0] at q
  refine ⟨_,rfl,_,_,rfl,rfl,(by show (0:Int) < 2; decide),rfl,?_⟩
  generalize decide ((fun i j=>V.int (i % j)) c0 2=V.int 0)=fr
  refine ⟨_,rfl,_,_,rfl,rfl,⟨by decide,by decide⟩,_,rfl,_,_,rfl,rfl,_,_,rfl,rfl,(by show (0:Int) < (mo:Int)+1; omega),?_⟩
  obtain ⟨n,en⟩:=Int.eq_ofNat_of_zero_le (Int.emod_nonneg (c0 / 2) (by omega:((mo:Int)+1)≠0))
  have hnm:n≤mo:=by
   have:=Int.emod_lt_of_pos (c0 / 2) (by omega:(0:Int) < (mo:Int)+1)
   omega
  have hn:n≤8:=by omega
  refine ⟨_,rfl,_,_,rfl,rfl,⟨by decide,by decide⟩,_,_,rfl,rfl,(by show (0:Int) < 5; decide),?_⟩
  dsimp only
  rw [en]
  refine ⟨_,rfl,rfl,_,rfl,?_⟩
  by_cases h4:c0 / 14 % 5=4
  ·refine itDP (by rw [h4]) ?_
   refine ⟨_,rfl,_,rfl,_,_,rfl,rfl,⟨by decide,by decide⟩,_,rfl,a,ns,1,n / 2,fr,?_,hS,by decide,by omega,fun pS hAs rAs rss hs M H1 s1 nw WS=>?_⟩
   ·show [V.ref a,V.int 1,V.int ((n:Int) / 2),V.bl fr]=_
    rw [show (n:Int) / 2=((n / 2:Nat):Int) by omega]
   have Z1:=WS.wz
   refine ⟨_,rfl,_,rfl,a,ns,5,rfl,s1.seq hS,by decide,fun c5 _=>?_⟩
   refine ⟨_,rfl,pS,n / 2,hs,M,c5,fr,rfl,Z1,by omega,fun p1 N1 H2 s2 Z2 y1=>?_⟩
   have Z12:=Z1.same s2
   have t2:=s1.trans s2
   refine ⟨_,rfl,_,rfl,a,ns,6,rfl,t2.seq hS,by decide,fun c6 _=>?_⟩
   refine ⟨_,rfl,pS,n / 2,hs,M,c6,fr,rfl,Z12,by omega,fun p2 N2 H3 s3 Z3 y2=>?_⟩
   have t3:=t2.trans s3
   have Z23:=Z2.same s3
   obtain ⟨hA3,rA3,rs3,w1,w2,w3,R3⟩:=Z3.wr.ex
   refine ⟨_,rfl,_,rfl,_,rfl,a,ns,4,rfl,t3.seq hS,by decide,fun c4 _=>?_⟩
   refine ⟨_,rfl,p2,_,_,_,rfl,rfl,SqT.of w1,rfl,hA3,_,rfl,.inl (SqL.of w2),?_⟩
   rw [List.length_map,Z3.len]
   refine ⟨_,rfl,c4,2 * (n / 2),fr,rfl,by omega,fun O os H4 s4 nO eO pm=>?_⟩
   have Z34:=Z3.same s4
   refine ⟨p2,O,2 * (n / 2),hs++hs,N2,os,rfl,Z34.wr,Z3.len,Z3.sq,by omega,eO,pm,fun pR H5 s5 WN5=>?_⟩
   obtain ⟨hR,rR,rsR,g1,g2,g3,RR,_⟩:=WN5.ex
   refine ⟨(by show 2≤sizeLine; decide),fun tA htA=>?_⟩
   have s6:Same H5 (L2.upd H5 tA (.tup [.ref p1,.ref pR])):=Same.upd htA
   have s36:=(s4.trans s5).trans s6
   have ZR:Wz H5 pR (2 * (n / 2)) (renH (hs++hs) os) (renM N2 os):=⟨⟨hR,rR,rsR,g1,g2,g3,RR⟩,by rw [ren_len,os_len pm],renM_sq Z3.sq pm,ren_hb pm Z3.len Z3.hb⟩
   have rw2:∀ ws ∈ N2,ws.length=2 * (n / 2):=fun ws hws=>by
    obtain ⟨j,hj⟩:=List.mem_iff_getElem?.mp hws
    exact (Z3.sq.row j ws hj).1
   refine q tA p1 pR _ _ _ _ _ _ _ (t3.trans s36) upd_same (Z23.same s36) (ZR.same s6) (by omega) (by omega) (fun z=>by omega) y1 (sym_ren pm y2)
  ·refine itDN (fun z=>h4 (V.int.inj z)) ?_
   refine ⟨_,rfl,_,rfl,_,rfl,a,ns,1,n,fr,rfl,hS,by decide,hn,fun p1 hA1 rA1 rs1 hs M H1 s1 nw W1=>?_⟩
   have Z1:=W1.wz
   refine ⟨_,rfl,rfl,_,rfl,?_⟩
   by_cases h0:c0 / 14 % 5=0
   ·refine itDP (by rw [h0]) ?_
    refine ⟨_,rfl,_,rfl,_,rfl,_,_,rfl,rfl,⟨by decide,by decide⟩,_,rfl,_,_,rfl,rfl,_,_,rfl,rfl,(by show (0:Int) < (mo:Int)+1; omega),?_⟩
    obtain ⟨n',en'⟩:=Int.eq_ofNat_of_zero_le (Int.emod_nonneg (c0 / 70) (by omega:((mo:Int)+1)≠0))
    have hnm':n'≤mo:=by
     have:=Int.emod_lt_of_pos (c0 / 70) (by omega:(0:Int) < (mo:Int)+1)
     omega
    have hn':n'≤8:=by omega
    refine ⟨_,rfl,a,ns,4,n',fr,by rw [←en']; rfl,s1.seq hS,by decide,hn',fun p2 hA2 rA2 rs2 hs' M' H2 s2 nw2 W2=>?_⟩
    refine ⟨(by show 2≤sizeLine; decide),fun tA htA=>?_⟩
    have s3:Same H2 (L2.upd H2 tA (.tup [.ref p1,.ref p2])):=Same.upd htA
    exact q tA p1 p2 _ _ _ _ _ _ _ ((s1.trans s2).trans s3) upd_same ((Z1.same s2).same s3) (W2.wz.same s3) hnm hnm' (fun z=>by omega) (sq_symF W1.sq) (sq_symF W2.sq)
   ·refine itDN (fun z=>h0 (V.int.inj z)) ?_
    refine ⟨_,rfl,_,rfl,a,ns,4,rfl,s1.seq hS,by decide,fun c4 _=>?_⟩
    refine ⟨_,rfl,_,rfl,c4,n,fr,rfl,hn,fun O os H2 s2 nO eO pm=>?_⟩
    have Z12:=Z1.same s2
    refine ⟨p1,O,n,hs,M,os,rfl,Z12.wr,Z1.len,Z1.sq,hn,eO,pm,fun pR H3 s3 WN3=>?_⟩
    have lo:=os_len pm
    have lRen:(renH hs os).length=n:=by rw [ren_len,lo]
    have hbR:=ren_hb pm Z1.len Z1.hb
    have t2:=s1.trans s2
    have rwM:∀ ws ∈ M,ws.length=n:=fun ws hws=>by
     obtain ⟨j,hj⟩:=List.mem_iff_getElem?.mp hws
     exact (Z1.sq.row j ws hj).1
    refine ⟨fun σ' H'=>∃ (o9 o10:Option V) (M':List (List Int)),σ'=[some (.ref a),some (.int (mo:Int)),some (.int c0),some (.bl fr),some (.int (n:Int)),some (.int (c0 / 14 % 5)),none,some (.ref p1),some (.ref pR),o9,o10]∧Same H2 H'∧WN H2 H' pR (renH hs os) M'∧SqN n M'∧SymF n (ent M')∧(c0 / 14 % 5=1→M'=renM M os),?_,?_⟩
    ·obtain ⟨hR,rR,rsR,g1,g2,g3,RR,nw3,d1,d2,d3⟩:=WN3.ex
     have nh:∀ r ∈ rsR,hR≠r:=fun r hr q=>by subst q; exact d2 hr
     have nr:∀ r ∈ rsR,rR≠r:=fun r hr q=>by subst q; exact d3 hr
     have keep0:∃ (o9 o10:Option V) (M':List (List Int)),([some (.ref a),some (.int (mo:Int)),some (.int c0),some (.bl fr),some (.int (n:Int)),some (.int (c0 / 14 % 5)),none,some (.ref p1),some (.ref pR),none,none]:L2.St)=[some (.ref a),some (.int (mo:Int)),some (.int c0),some (.bl fr),some (.int (n:Int)),some (.int (c0 / 14 % 5)),none,some (.ref p1),some (.ref pR),o9,o10]∧Same H2 H3∧WN H2 H3 pR (renH hs os) M'∧SqN n M'∧SymF n (ent M')∧(c0 / 14 % 5=1→M'=renM M os) :=
      ⟨none,none,_,rfl,s3,WN3,renM_sq Z1.sq pm,sym_ren pm (sq_symF W1.sq),fun _=>rfl⟩
     refine ⟨_,rfl,rfl,_,rfl,?_⟩
     by_cases h2:c0 / 14 % 5=2
     ·refine itDP (by rw [h2]) ?_
      refine ⟨_,rfl,_,_,rfl,rfl,_,rfl,?_⟩
      by_cases hn0:(0:Int) < (n:Int)
      ·refine itDP hn0 ?_
       have t3:=t2.trans s3
       refine ⟨_,rfl,a,ns,5,rfl,t3.seq hS,by decide,fun c5 _=>⟨_,rfl,_,_,rfl,rfl,hn0,?_⟩⟩
       refine ⟨_,rfl,a,ns,6,rfl,t3.seq hS,by decide,fun c6 _=>⟨_,rfl,_,_,rfl,rfl,hn0,?_⟩⟩
       obtain ⟨u,eu⟩:=Int.eq_ofNat_of_zero_le (Int.emod_nonneg c5 (by omega:(n:Int)≠0))
       obtain ⟨v,ev⟩:=Int.eq_ofNat_of_zero_le (Int.emod_nonneg c6 (by omega:(n:Int)≠0))
       have hu:u < n:=by have:=Int.emod_lt_of_pos c5 hn0; omega
       have hv:v < n:=by have:=Int.emod_lt_of_pos c6 hn0; omega
       dsimp only
       rw [eu,ev]
       have SR:=renM_sq Z1.sq pm
       obtain ⟨ru,xu,gu1,gu2,gu3⟩:=RR.get (i:=u) (by rw [RR.len,SR.len]; exact hu)
       have lxu:=(SR.row u xu gu2).1
       obtain ⟨z,ez⟩:=get_lt (l:=xu) (i:=v) (by omega)
       have hz:(z+1).natAbs≤2 * wMax:=by
        have h1:=renM_bd W1.sq pm gu2 z (List.mem_of_getElem? ez)
        have h2':wMax=1000000000000000000000:=by decide
        omega
       have nru:H2 ru=none:=nw3 ru (by simp [List.mem_of_getElem? gu1])
       have az:atI (xu.map V.int) (v:Int)=some (.int z):=atI_nat (by rw [List.getElem?_map,ez]; rfl)
       refine ⟨_,rfl,pR,_,_,_,rfl,rfl,SqT.of g1,rfl,_,rfl,rR,_,_,_,rfl,rfl,SqL.of g3,at_ref gu1,_,rfl,ru,_,_,_,rfl,rfl,SqL.of gu3,az,_,_,rfl,rfl,?_⟩
       refine ⟨_,rfl,pR,_,_,_,rfl,rfl,SqT.of g1,rfl,_,rfl,rR,_,_,_,rfl,rfl,SqL.of g3,at_ref gu1,_,rfl,ru,_,_,v,rfl,rfl,gu3,by rw [List.length_map,lxu]; exact ixN_nat hv,?_⟩
       rw [←List.map_set]
       have R4:=RR.put (j:=v) (z:=z+1) gu1 gu2
       have S4:=SR.put u v hz
       have npr:∀ {r:Addr} {o:List V},H3 r=some (.lst o)→pR≠r:=fun e q=>by subst q; rw [g1] at e; cases e
       have s4:Same H2 (L2.upd H3 ru (.lst ((xu.set v (z+1)).map V.int))):=fun b o e=>by rw [upd_ne (ne_of_none e nru)]; exact s3 _ _ e
       have g1':L2.upd H3 ru (.lst ((xu.set v (z+1)).map V.int)) pR=_:=(upd_ne (npr gu3)).trans g1
       have g2':L2.upd H3 ru (.lst ((xu.set v (z+1)).map V.int)) hR=_:=(upd_ne (nh _ (List.mem_of_getElem? gu1))).trans g2
       have g3':L2.upd H3 ru (.lst ((xu.set v (z+1)).map V.int)) rR=_:=(upd_ne (nr _ (List.mem_of_getElem? gu1))).trans g3
       generalize L2.upd H3 ru (.lst ((xu.set v (z+1)).map V.int))=H4 at R4 s4 g1' g2' g3' ⊢
       obtain ⟨rv,xv,gv1,gv2,gv3⟩:=R4.get (i:=v) (by rw [R4.len,S4.len]; exact hv)
       obtain ⟨ru',xu',gw1,gw2,gw3⟩:=R4.get (i:=u) (by rw [R4.len,S4.len]; exact hu)
       have lxv:=(S4.row v xv gv2).1
       have lxw:=(S4.row u xu' gw2).1
       obtain ⟨y,ey⟩:=get_lt (l:=xu') (i:=v) (by omega)
       have hy:=(S4.row u xu' gw2).2 y (List.mem_of_getElem? ey)
       have ay:atI (xu'.map V.int) (v:Int)=some (.int y):=atI_nat (by rw [List.getElem?_map,ey]; rfl)
       have nrv:H2 rv=none:=nw3 rv (by simp [List.mem_of_getElem? gv1])
       refine ⟨_,rfl,pR,_,_,_,rfl,rfl,SqT.of g1',rfl,_,rfl,rR,_,_,_,rfl,rfl,SqL.of g3',at_ref gw1,_,rfl,ru',_,_,_,rfl,rfl,SqL.of gw3,ay,?_⟩
       refine ⟨_,rfl,pR,_,_,_,rfl,rfl,SqT.of g1',rfl,_,rfl,rR,_,_,_,rfl,rfl,SqL.of g3',at_ref gv1,_,rfl,rv,_,_,u,rfl,rfl,gv3,by rw [List.length_map,lxv]; exact ixN_nat hu,?_⟩
       rw [←List.map_set]
       have R5:=R4.put (j:=u) (z:=y) gv1 gv2
       have S5:=S4.put v u hy
       have npr':pR≠rv:=fun q=>by subst q; rw [g1'] at gv3; cases gv3
       refine ⟨_,_,_,rfl,fun b o e=>by rw [upd_ne (ne_of_none e nrv)]; exact s4 _ _ e,⟨hR,rR,rsR,(upd_ne npr').trans g1',(upd_ne (nh _ (List.mem_of_getElem? gv1))).trans g2',(upd_ne (nr _ (List.mem_of_getElem? gv1))).trans g3',R5,nw3,d1,d2,d3⟩,S5,?_,fun q=>by omega⟩
       have ezy:y=z+1:=by
        have h1:ent (put (renM M os) u v (z+1)) u v=y:=by rw [ent_row gw2,List.getD_eq_getElem?_getD,ey]; rfl
        rw [←h1,SR.ent hu hv,if_pos ⟨rfl,rfl⟩]
       rw [ezy]
       exact sym_put SR hu hv hz (sym_ren pm (sq_symF W1.sq))
      ·exact itDN hn0 keep0
     ·exact itDN (fun z=>h2 (V.int.inj z)) (iteF keep0)
    ·rintro σ' H4 ⟨o9,o10,M',rfl,s4,WN4,SN,yM,hM⟩
     refine ⟨fun σ' H'=>∃ (hs':List Int),σ'=[some (.ref a),some (.int (mo:Int)),some (.int c0),some (.bl fr),some (.int (n:Int)),some (.int (c0 / 14 % 5)),none,some (.ref p1),some (.ref pR),o9,o10]∧Same H2 H'∧WN H2 H' pR hs' M'∧hs'.length=n∧(∀ z ∈ hs',0≤z∧z≤3)∧(c0 / 14 % 5=1→hs'=renH hs os),?_,?_⟩
     ·obtain ⟨hR,rR,rsR,g1,g2,g3,RR,nw4,d1,d2,d3⟩:=WN4.ex
      have nh:∀ r ∈ rsR,hR≠r:=fun r hr q=>by subst q; exact d2 hr
      refine ⟨_,rfl,rfl,_,rfl,?_⟩
      by_cases h3:c0 / 14 % 5=3
      ·refine itDP (by rw [h3]) ?_
       refine ⟨_,rfl,_,_,rfl,rfl,_,rfl,?_⟩
       by_cases hn0:(0:Int) < (n:Int)
       ·refine itDP hn0 ?_
        have t4:=t2.trans s4
        refine ⟨_,rfl,a,ns,6,rfl,t4.seq hS,by decide,fun c6 _=>⟨_,_,rfl,rfl,(by show (0:Int) < 4; decide),?_⟩⟩
        refine ⟨_,rfl,pR,_,_,_,rfl,rfl,SqT.of g1,rfl,?_⟩
        refine ⟨_,rfl,a,ns,5,rfl,t4.seq hS,by decide,fun c5 _=>⟨_,rfl,_,_,rfl,rfl,hn0,?_⟩⟩
        obtain ⟨u,eu⟩:=Int.eq_ofNat_of_zero_le (Int.emod_nonneg c5 (by omega:(n:Int)≠0))
        have hu:u < n:=by have:=Int.emod_lt_of_pos c5 hn0; omega
        have nhR:H2 hR=none:=nw4 hR (by simp)
        refine ⟨hR,_,_,u,rfl,rfl,g2,?_,?_⟩
        ·show ixN _ (c5 % (n:Int))=_
         rw [eu,List.length_map,lRen]
         exact ixN_nat hu
        rw [←List.map_set]
        have npr:pR≠hR:=fun q=>by subst q; rw [g1] at g2; cases g2
        refine ⟨(renH hs os).set u (c6 % 4),rfl,fun b o e=>by rw [upd_ne (ne_of_none e nhR)]; exact s4 _ _ e,⟨hR,rR,rsR,(upd_ne npr).trans g1,upd_same,(upd_ne d1.symm).trans g3,RR.keep fun r hr o e=>by rw [upd_ne (nh r hr).symm]; exact e,nw4,d1,d2,d3⟩,by rw [List.length_set,lRen],fun z hz=>?_,fun q=>by omega⟩
        rcases List.mem_or_eq_of_mem_set hz with q | q
        ·exact hbR z q
        ·rw [q]
         omega
       ·exact itDN hn0 ⟨_,rfl,s4,WN4,lRen,hbR,fun _=>rfl⟩
      ·exact itDN (fun z=>h3 (V.int.inj z)) (iteF ⟨_,rfl,s4,WN4,lRen,hbR,fun _=>rfl⟩)
     ·rintro σ' H5 ⟨hs',rfl,s5,WN5,lh,hb,hh⟩
      obtain ⟨hR,rR,rsR,g1,g2,g3,RR,_⟩:=WN5.ex
      refine ⟨_,rfl,_,rfl,(by show 2≤sizeLine; decide),fun tA htA=>?_⟩
      have s6:Same H5 (L2.upd H5 tA (.tup [.ref p1,.ref pR])):=Same.upd htA
      have ZR:Wz H5 pR n hs' M':=⟨⟨hR,rR,rsR,g1,g2,g3,RR⟩,lh,SN,hb⟩
      refine q tA p1 pR _ _ _ _ _ _ _ ((t2.trans s5).trans s6) upd_same ((Z12.same s5).same s6) (ZR.same s6) hnm hnm (fun z=>⟨os,pm,rfl,hh z,hM z⟩) (sq_symF W1.sq) yM
end
section
open M11
end
section
def hueF (us:List Int) (u:Nat):Int:=us[u]?.getD 0
end
section
def SmF (n:Nat) (f:Nat→Int):Int:=((List.range n).map f).sum
theorem smF_succ (n:Nat) (f:Nat→Int):SmF (n+1) f=SmF n f+f n:=by
 unfold SmF
 rw [List.range_succ,List.map_append,List.sum_append]
 simp
theorem smF_zero (f:Nat→Int):SmF 0 f=0:=rfl
theorem smF_congr {n:Nat} {f g:Nat→Int} (h:∀ i < n,f i=g i):SmF n f=SmF n g:=by
 unfold SmF
 rw [List.map_congr_left fun i hi=>h i (List.mem_range.mp hi)]
theorem smF_add (n:Nat) (f g:Nat→Int):SmF n (fun i=>f i+g i)=SmF n f+SmF n g:=by
 induction n with
 | zero=>rfl
 | succ n ih=>rw [smF_succ,smF_succ,smF_succ,ih]; omega
theorem smF_mul (c:Int) (n:Nat) (f:Nat→Int):SmF n (fun i=>c * f i)=c * SmF n f:=by
 induction n with
 | zero=>rw [smF_zero,smF_zero,Int.mul_zero]
 | succ n ih=>rw [smF_succ,smF_succ,ih,Int.mul_add]
theorem smF_nil (n:Nat):SmF n (fun _=>0)=0:=by
 induction n with
 | zero=>rfl
 | succ n ih=>rw [smF_succ,ih]; rfl
def qF (a:Nat→Int) (o:Int) (u:Nat):Int:=if a u=o then 1 else 0
def cntF (n:Nat) (a:Nat→Int) (o:Int):Int:=SmF n (qF a o)
section
variable {n m:Nat} {h h':Nat→Int} {M M':Nat→Nat→Int} {a b:Nat→Int} {k:Int→Int} {W:Int}
end
end
section
abbrev Rw:=Nat→Int
def Lp (F:List Rw→Int) (c:Nat):List Rw→Int
 | []=>0
 | x :: xs=>x c * F xs - Lp (fun ys=>F (x :: ys)) c xs
def Dt:List Nat→List Rw→Int
 | [],_=>1
 | c :: cs,xs=>Lp (Dt cs) c xs
theorem lp_lin (a:Int) (c:Nat):∀ (xs:List Rw) (F G:List Rw→Int),Lp (fun ys=>a * F ys - G ys) c xs=a * Lp F c xs - Lp G c xs
 | [],_,_=>by simp [Lp]
 | x :: xs,F,G=>by
  simp only [Lp]
  rw [lp_lin a c xs (fun ys=>F (x :: ys)) fun ys=>G (x :: ys)]
  grind
theorem lp_swap (c d:Nat):∀ (xs:List Rw) (F:List Rw→Int),Lp (fun ys=>Lp F d ys) c xs=- Lp (fun ys=>Lp F c ys) d xs
 | [],_=>rfl
 | x :: xs,F=>by
  show x c * Lp F d xs - Lp (fun ys=>x d * F ys - Lp (fun zs=>F (x :: zs)) d ys) c xs=- (x d * Lp F c xs - Lp (fun ys=>x c * F ys - Lp (fun zs=>F (x :: zs)) c ys) d xs)
  rw [lp_lin,lp_lin,lp_swap c d xs fun zs=>F (x :: zs)]
  grind
theorem lp_nil (c:Nat):∀ (xs:List Rw) (F:List Rw→Int),(∀ ys,F ys=0)→Lp F c xs=0
 | [],_,_=>rfl
 | x :: xs,F,h=>by
  show x c * F xs - Lp (fun ys=>F (x :: ys)) c xs=0
  rw [h,lp_nil c xs _ fun ys=>h _]
  simp
theorem dt_twice (q:Nat):∀ (cs:List Nat) (xs:List Rw),q ∈ cs→Dt (q :: cs) xs=0
 | [],_,h=>nomatch h
 | c :: cs,xs,h=>by
  have e:Dt (q :: c :: cs) xs=- Lp (fun ys=>Lp (Dt cs) q ys) c xs:=lp_swap q c xs (Dt cs)
  by_cases hc:q=c
  ·subst hc
   have:Dt (q :: q :: cs) xs=Lp (fun ys=>Lp (Dt cs) q ys) q xs:=rfl
   omega
  ·have hm:q ∈ cs:=by cases h with | head=>exact absurd rfl hc | tail _ h=>exact h
   have e2:Lp (fun ys=>Lp (Dt cs) q ys) c xs=0:=lp_nil c xs _ fun ys=>dt_twice q cs ys hm
   omega
def Zs:List Rw→Rw→Prop
 | [],y=>∀ q,y q=0
 | r :: rs,y=>∃ c:Int,Zs rs fun q=>y q - c * r q
theorem Zs.lin:∀ {rs:List Rw} {y z:Rw} (a b:Int),Zs rs y→Zs rs z→Zs rs fun q=>a * y q+b * z q
 | [],_,_,a,b,h,k=>fun q=>by show a * _+b * _=(0:Int); rw [h q,k q]; simp
 | r :: rs,y,z,a,b,⟨c,h⟩,⟨d,k⟩=>⟨a * c+b * d,by
  have:=Zs.lin a b h k
  have e:(fun q=>a * (y q - c * r q)+b * (z q - d * r q))=fun q=>a * y q+b * z q - (a * c+b * d) * r q:=by
   funext q; grind
  rw [e] at this
  exact this⟩
theorem Zs.zero:∀ rs:List Rw,Zs rs fun _=>0
 | []=>fun _=>rfl
 | r :: rs=>⟨0,by simpa using Zs.zero rs⟩
theorem Zs.more {r:Rw} {rs:List Rw} {y:Rw} (h:Zs rs y):Zs (r :: rs) y:=⟨0,by simpa using h⟩
theorem Zs.self (r:Rw) (rs:List Rw):Zs (r :: rs) r:=⟨1,by simpa using Zs.zero rs⟩
theorem lp_zs:∀ (rs:List Rw) (F:List Rw→Int),Zs rs fun q=>Lp F q rs
 | [],_=>fun _=>rfl
 | r :: rs,F=>⟨F rs,by
  have h:=Zs.lin (-1) 0 (lp_zs rs fun ys=>F (r :: ys)) (Zs.zero rs)
  have e:(fun q=>-1 * Lp (fun ys=>F (r :: ys)) q rs+0 * 0)=fun q=>Lp F q (r :: rs) - F rs * r q:=by
   funext q
   show _=r q * F rs - _ - _
   grind
  rw [e] at h
  exact h⟩
theorem dt_zs (ps:List Nat) (rs:List Rw) (x:Rw):Zs rs fun q=>Dt ps rs * x q - Dt (q :: ps) (x :: rs):=by
 have h:=lp_zs rs fun ys=>Dt ps (x :: ys)
 have e:(fun q=>Lp (fun ys=>Dt ps (x :: ys)) q rs)=fun q=>Dt ps rs * x q - Dt (q :: ps) (x :: rs):=by
  funext q
  show _=_ - (x q * Dt ps rs - _)
  grind
 rw [e] at h
 exact h
inductive Free:List Rw→List Nat→Prop
 | nil:Free [] []
 | cons {rs ps} (r:Rw) (p:Nat):Free rs ps→Dt (p :: ps) (r :: rs)≠0→Free (r :: rs) (p :: ps)
theorem Free.ne {rs:List Rw} {ps:List Nat} (h:Free rs ps):Dt ps rs≠0:=by
 cases h with
 | nil=>decide
 | cons r p _ h=>exact h
theorem Free.uniq:∀ {rs:List Rw} {ps:List Nat},Free rs ps→∀ {y:Rw},Zs rs y→(∀ p ∈ ps,y p=0)→∀ q,y q=0:=by
 intro rs ps h
 induction h with
 | nil=>intro y h _; exact h
 | @cons rs ps r p f hd ih =>
  intro y ⟨c,hy⟩ h0
  have hz:=Zs.lin (Dt ps rs) c hy (dt_zs ps rs r)
  have e:(fun q=>Dt ps rs * (y q - c * r q)+c * (Dt ps rs * r q - Dt (q :: ps) (r :: rs)))=fun q=>Dt ps rs * y q - c * Dt (q :: ps) (r :: rs):=by
   funext q; grind
  rw [e] at hz
  have z0:=ih hz fun p' hp'=>by
   show Dt ps rs * y p' - c * Dt (p' :: ps) (r :: rs)=0
   rw [h0 p' (List.mem_cons_of_mem _ hp'),dt_twice p' ps _ hp']
   simp
  have hc:c=0:=by
   have:=z0 p
   simp only [h0 p List.mem_cons_self] at this
   have:c * Dt (p :: ps) (r :: rs)=0:=by omega
   rcases Int.mul_eq_zero.mp this with h | h
   ·exact h
   ·exact absurd h hd
  intro q
  have:=z0 q
  simp only [hc] at this
  have:Dt ps rs * y q=0:=by omega
  rcases Int.mul_eq_zero.mp this with h | h
  ·exact absurd h f.ne
  ·exact h
theorem dt_step {rs:List Rw} {ps:List Nat} {r:Rw} {p:Nat} (h:Free (r :: rs) (p :: ps)) (x:Rw) (q:Nat) :
  Dt (p :: ps) (r :: rs) * Dt (q :: ps) (x :: rs) - Dt (p :: ps) (x :: rs) * Dt (q :: ps) (r :: rs)=Dt ps rs * Dt (q :: p :: ps) (x :: r :: rs):=by
 have a1:=dt_zs (p :: ps) (r :: rs) x
 have a2:=Zs.more (r:=r) (dt_zs ps rs x)
 have a3:=Zs.more (r:=r) (dt_zs ps rs r)
 have b1:=Zs.lin (Dt ps rs) (-(Dt (p :: ps) (r :: rs))) a1 a2
 have b2:=Zs.lin (Dt (p :: ps) (x :: rs)) (-(Dt (p :: ps) (x :: rs) * Dt ps rs)) a3 (Zs.self r rs)
 have b3:=Zs.lin 1 1 b1 b2
 have k:=h.uniq b3 fun p' hp'=>by
  show 1 * (Dt ps rs * (Dt (p :: ps) (r :: rs) * x p' - Dt (p' :: p :: ps) (x :: r :: rs))+-(Dt (p :: ps) (r :: rs)) * (Dt ps rs * x p' - Dt (p' :: ps) (x :: rs)))+1 * (Dt (p :: ps) (x :: rs) * (Dt ps rs * r p' - Dt (p' :: ps) (r :: rs))+-(Dt (p :: ps) (x :: rs) * Dt ps rs) * r p')=0
  rw [dt_twice p' (p :: ps) _ hp']
  cases hp' with
  | head=>grind
  | tail _ hp'=>rw [dt_twice p' ps _ hp',dt_twice p' ps _ hp']; grind
 have:=k q
 grind
def Bd (n:Nat):List Rw→List Nat→Prop
 | [],[]=>True
 | x :: xs,b :: bs=>(∀ q,q < n→(x q).natAbs≤b)∧Bd n xs bs
 | _,_=>False
def Pd:List Nat→Nat
 | []=>1
 | b :: bs=>b * Pd bs
theorem lp_bd {n c:Nat} (hc:c < n):∀ (xs:List Rw) (bs:List Nat) (F:List Rw→Int) (M:Nat),Bd n xs bs→(∀ ys cs,Bd n ys cs→ys.length+1=xs.length→(F ys).natAbs≤M * Pd cs)→(Lp F c xs).natAbs≤xs.length * (M * Pd bs)
 | [],_,_,_,_,_=>by simp [Lp]
 | x :: xs,[],_,_,h,_=>h.elim
 | x :: xs,b :: bs,F,M,⟨h1,h2⟩,hF=>by
  have i1:=hF xs bs h2 rfl
  have i2:=lp_bd hc xs bs (fun ys=>F (x :: ys)) (M * b) h2 fun ys cs hy hl=>by
   have:=hF (x :: ys) (b :: cs) ⟨h1,hy⟩ (by simp only [List.length_cons]; omega)
   have e:M * Pd (b :: cs)=M * b * Pd cs:=by show M * (b * _)=_; rw [Nat.mul_assoc]
   rw [e] at this
   exact this
  show (x c * F xs - Lp (fun ys=>F (x :: ys)) c xs).natAbs≤(xs.length+1) * (M * (b * Pd bs))
  have i3:(x c * F xs).natAbs≤b * (M * Pd bs):=by rw [Int.natAbs_mul]; exact Nat.mul_le_mul (h1 c hc) i1
  have e1:b * (M * Pd bs)=M * (b * Pd bs):=Nat.mul_left_comm ..
  have e2:M * b * Pd bs=M * (b * Pd bs):=Nat.mul_assoc ..
  rw [e1] at i3
  rw [e2] at i2
  rw [Nat.add_mul,Nat.one_mul]
  omega
def Fc:Nat→Nat
 | 0=>1
 | n+1=>(n+1) * Fc n
theorem dt_bd {n:Nat}:∀ (cs:List Nat) (xs:List Rw) (bs:List Nat),(∀ c ∈ cs,c < n)→Bd n xs bs→cs.length=xs.length→(Dt cs xs).natAbs≤Fc cs.length * Pd bs
 | [],[],[],_,_,_=>by decide
 | [],[],_ :: _,_,h,_=>h.elim
 | [],_ :: _,_,_,_,h=>nomatch h
 | c :: cs,xs,bs,hc,hb,hl=>by
  have:=lp_bd (hc c List.mem_cons_self) xs bs (Dt cs) (Fc cs.length) hb fun ys ds hy hl'=>dt_bd cs ys ds (fun c' h=>hc c' (List.mem_cons_of_mem _ h)) hy (by simp only [List.length_cons] at hl; omega)
  show (Lp (Dt cs) c xs).natAbs≤(cs.length+1) * Fc cs.length * Pd bs
  rw [Nat.mul_assoc,show cs.length+1=xs.length from hl]
  exact this
end
section
inductive Tr where
 | nd (w:Option Int) (bs:List Tr)
def indF (U:Nat→Int) (w:Option Int) (x:Nat):Int:=match w with
 | none=>1
 | some c=>if U x=c then 1 else 0
def Nr (N:Nat) (W:Nat→Nat→Int) (y:Rw):Rw:=fun q=>SmF N fun v=>W q v * y v
mutual
def Tr.val (N:Nat) (U:Nat→Int) (W:Nat→Nat→Int):Tr→Rw
 | .nd w bs,x=>indF U w x * Tr.vals N U W bs x
def Tr.vals (N:Nat) (U:Nat→Int) (W:Nat→Nat→Int):List Tr→Rw
 | [],_=>1
 | t :: ts,x=>Nr N W (Tr.val N U W t) x * Tr.vals N U W ts x
end
mutual
def Tr.knots:Tr→Nat
 | .nd _ bs=>1+Tr.knotss bs
def Tr.knotss:List Tr→Nat
 | []=>0
 | t :: ts=>t.knots+Tr.knotss ts
end
mutual
def Tr.deep:Tr→Nat
 | .nd _ bs=>1+Tr.deeps bs
def Tr.deeps:List Tr→Nat
 | []=>0
 | t :: ts=>max t.deep (Tr.deeps ts)
end
variable {N:Nat} {U:Nat→Int} {W:Nat→Nat→Int}
theorem vals_app:∀ (a b:List Tr) (x:Nat),Tr.vals N U W (a++b) x=Tr.vals N U W a x * Tr.vals N U W b x
 | [],b,x=>by simp [Tr.vals]
 | t :: a,b,x=>by
  show Nr N W (Tr.val N U W t) x * Tr.vals N U W (a++b) x=Nr N W (Tr.val N U W t) x * Tr.vals N U W a x * _
  rw [vals_app a b x,Int.mul_assoc]
theorem val_snoc (w:Option Int) (bs:List Tr) (b:Tr):Tr.val N U W (.nd w (bs++[b]))=fun x=>Tr.val N U W (.nd w bs) x * Nr N W (Tr.val N U W b) x:=by
 funext x
 show indF U w x * Tr.vals N U W (bs++[b]) x=indF U w x * Tr.vals N U W bs x * _
 rw [vals_app,Int.mul_assoc]
 show _ * (_ * (Nr N W (Tr.val N U W b) x * 1))=_
 rw [Int.mul_one]
theorem knots_snoc (w:Option Int) (bs:List Tr) (b:Tr):(Tr.nd w (bs++[b])).knots=(Tr.nd w bs).knots+b.knots:=by
 have:∀ bs:List Tr,Tr.knotss (bs++[b])=Tr.knotss bs+b.knots:=fun bs=>by
  induction bs with
  | nil=>simp [Tr.knotss]
  | cons t ts ih=>show t.knots+Tr.knotss (ts++[b])=t.knots+Tr.knotss ts+_; rw [ih]; omega
 show 1+Tr.knotss (bs++[b])=1+Tr.knotss bs+_
 rw [this]; omega
theorem deep_snoc (w:Option Int) (bs:List Tr) (b:Tr):(Tr.nd w (bs++[b])).deep=max (Tr.nd w bs).deep (b.deep+1):=by
 have:∀ bs:List Tr,Tr.deeps (bs++[b])=max (Tr.deeps bs) b.deep:=fun bs=>by
  induction bs with
  | nil=>simp [Tr.deeps]
  | cons t ts ih=>show max t.deep (Tr.deeps (ts++[b]))=max (max t.deep (Tr.deeps ts)) _; rw [ih]; omega
 show 1+Tr.deeps (bs++[b])=max (1+Tr.deeps bs) _
 rw [this]; omega
theorem knots_pos (t:Tr):0 < t.knots:=by cases t; show 0 < 1+_; omega
theorem deep_pos (t:Tr):0 < t.deep:=by cases t; show 0 < 1+_; omega
theorem nr_add (x y:Rw):Nr N W (fun q=>x q+y q)=fun q=>Nr N W x q+Nr N W y q:=by
 funext q
 unfold Nr
 rw [←smF_add]
 exact smF_congr fun v _=>Int.mul_add ..
theorem nr_mul (c:Int) (x:Rw):Nr N W (fun q=>c * x q)=fun q=>c * Nr N W x q:=by
 funext q
 unfold Nr
 rw [←smF_mul]
 exact smF_congr fun v _=>by grind
theorem nr_zero:Nr N W (fun _=>0)=fun _=>0:=by
 funext q
 exact (smF_congr fun v _=>Int.mul_zero _).trans (smF_nil N)
inductive Spn (N:Nat) (G:Rw→Prop):Rw→Prop
 | gen {r:Rw}:G r→Spn N G r
 | zero:Spn N G fun _=>0
 | add {x y:Rw}:Spn N G x→Spn N G y→Spn N G fun q=>x q+y q
 | mul {x:Rw} (c:Int):Spn N G x→Spn N G fun q=>c * x q
 | div {x y:Rw} (c:Int):c≠0→(∀ q,q < N→c * y q=x q)→Spn N G x→Spn N G y
variable {G G' G2:Rw→Prop}
theorem Spn.mono (h:∀ r,G r→Spn N G' r) {y:Rw} (s:Spn N G y):Spn N G' y:=by
 induction s with
 | gen g=>exact h _ g
 | zero=>exact .zero
 | add _ _ a b=>exact .add a b
 | mul c _ a=>exact .mul c a
 | div c hc e _ a=>exact .div c hc e a
theorem Spn.ext {x y:Rw} (h:Spn N G x) (e:∀ q,q < N→y q=x q):Spn N G y:=.div 1 (by decide) (fun q hq=>by rw [Int.one_mul]; exact e q hq) h
theorem Spn.sub {x y:Rw} (a:Spn N G x) (b:Spn N G y):Spn N G fun q=>x q - y q:=(a.add (b.mul (-1))).ext fun q _=>by omega
theorem nr_div {x y:Rw} {c:Int} (e:∀ q,q < N→c * y q=x q) (q:Nat):c * Nr N W y q=Nr N W x q:=by
 unfold Nr
 rw [←smF_mul]
 exact smF_congr fun v hv=>by rw [←e v hv]; grind
theorem Spn.bil {x z:Rw} (h:∀ a b,G a→G' b→Spn N G2 fun q=>a q * Nr N W b q) (s:Spn N G x) (s':Spn N G' z):Spn N G2 fun q=>x q * Nr N W z q:=by
 have one:∀ a,G a→Spn N G2 fun q=>a q * Nr N W z q:=fun a ga=>by
  induction s' with
  | gen g=>exact h _ _ ga g
  | zero=>exact Spn.zero.ext fun q _=>by rw [nr_zero]; simp
  | add _ _ i j=>exact (i.add j).ext fun q _=>by rw [nr_add]; grind
  | mul c _ i=>exact (i.mul c).ext fun q _=>by rw [nr_mul]; grind
  | div c hc e _ i=>exact .div c hc (fun q _=>by rw [←nr_div e]; grind) i
 induction s with
 | gen g=>exact one _ g
 | zero=>exact Spn.zero.ext fun q _=>by simp
 | add _ _ i j=>exact (i.add j).ext fun q _=>by grind
 | mul c _ i=>exact (i.mul c).ext fun q _=>by grind
 | div c hc e _ i=>exact .div c hc (fun q hq=>by rw [←e q hq]; grind) i
theorem Spn.prod {x z:Rw} (h:∀ a b,G a→G' b→Spn N G2 fun q=>a q * b q) (s:Spn N G x) (s':Spn N G' z):Spn N G2 fun q=>x q * z q:=by
 have one:∀ a,G a→Spn N G2 fun q=>a q * z q:=fun a ga=>by
  induction s' with
  | gen g=>exact h _ _ ga g
  | zero=>exact Spn.zero.ext fun q _=>by simp
  | add _ _ i j=>exact (i.add j).ext fun q _=>by grind
  | mul c _ i=>exact (i.mul c).ext fun q _=>by grind
  | div c hc e _ i=>exact .div c hc (fun q hq=>by rw [←e q hq]; grind) i
 induction s with
 | gen g=>exact one _ g
 | zero=>exact Spn.zero.ext fun q _=>by simp
 | add _ _ i j=>exact (i.add j).ext fun q _=>by grind
 | mul c _ i=>exact (i.mul c).ext fun q _=>by grind
 | div c hc e _ i=>exact .div c hc (fun q hq=>by rw [←e q hq]; grind) i
theorem zs_spn {rs:List Rw}:∀ {y:Rw},Zs rs y→Spn N (fun r=>r ∈ rs) y:=by
 induction rs with
 | nil=>intro y h; exact Spn.zero.ext fun q _=>h q
 | cons r rs ih =>
  intro y ⟨c,h⟩
  have a:=(ih h).mono (G':=fun x=>x ∈ r :: rs) fun x hx=>.gen (List.mem_cons_of_mem _ hx)
  exact (a.add ((Spn.gen (G:=fun x=>x ∈ r :: rs) List.mem_cons_self).mul c)).ext fun q _=>by omega
end
section
variable {N:Nat} {U:Nat→Int} {W:Nat→Nat→Int}
def TrR (N:Nat) (U:Nat→Int) (W:Nat→Nat→Int) (r:Rw):Prop:=∃ t:Tr,r=Tr.val N U W t
abbrev Alg (N:Nat) (U:Nat→Int) (W:Nat→Nat→Int):Rw→Prop:=Spn N (TrR N U W)
theorem alg_one:Alg N U W fun _=>1:=(Spn.gen ⟨.nd none [],rfl⟩).ext fun q _=>by show (1:Int)=1 * 1; rfl
theorem alg_hue (c:Int):Alg N U W fun q=>if U q=c then 1 else 0:=(Spn.gen ⟨.nd (some c) [],rfl⟩).ext fun q _=>by show _=(if U q=c then (1:Int) else 0) * 1; rw [Int.mul_one]
theorem alg_nr {x:Rw} (h:Alg N U W x):Alg N U W (Nr N W x):=by
 have:=Spn.bil (N:=N) (W:=W) (G:=fun r=>r=fun _=>1) (G':=TrR N U W) (G2:=TrR N U W) (x:=fun _=>1) (z:=x) (fun a b ha hb=>by
  obtain ⟨t,rfl⟩:=hb
  subst ha
  refine (Spn.gen ⟨.nd none [t],rfl⟩).ext fun q _=>?_
  show (1:Int) * Nr N W (Tr.val N U W t) q=1 * (Nr N W (Tr.val N U W t) q * 1)
  rw [Int.mul_one]) (.gen rfl) h
 exact this.ext fun q _=>by rw [Int.one_mul]
theorem alg_prod {x y:Rw} (hx:Alg N U W x) (hy:Alg N U W y):Alg N U W fun q=>x q * y q:=by
 refine Spn.prod (fun a b ha hb=>?_) hx hy
 obtain ⟨⟨w,bs⟩,rfl⟩:=ha
 obtain ⟨⟨w',bs'⟩,rfl⟩:=hb
 have go:∀ w2:Option Int,(∀ q,indF U w q * indF U w' q=indF U w2 q)→Alg N U W fun q=>Tr.val N U W (.nd w bs) q * Tr.val N U W (.nd w' bs') q:=fun w2 e=>by
  refine (Spn.gen ⟨.nd w2 (bs++bs'),rfl⟩).ext fun q _=>?_
  show indF U w q * Tr.vals N U W bs q * (indF U w' q * Tr.vals N U W bs' q)=indF U w2 q * Tr.vals N U W (bs++bs') q
  rw [vals_app,←e q]
  grind
 cases w with
 | none=>exact go w' fun q=>Int.one_mul _
 | some c =>
  cases w' with
  | none=>exact go (some c) fun q=>Int.mul_one _
  | some c' =>
   by_cases e:c=c'
   ·subst e
    refine go (some c) fun q=>?_
    show (if U q=c then (1:Int) else 0) * (if U q=c then 1 else 0)=if U q=c then 1 else 0
    split <;> rfl
   ·refine Spn.zero.ext fun q _=>?_
    show (if U q=c then (1:Int) else 0) * _ * ((if U q=c' then 1 else 0) * _)=0
    by_cases h:U q=c
    ·rw [if_neg (fun z=>e (h.symm.trans z))]; simp
    ·rw [if_neg h]; simp
def Eqv (N:Nat) (U:Nat→Int) (W:Nat→Nat→Int) (a b:Nat):Prop:=∀ y,Alg N U W y→y a=y b
theorem Eqv.symm {a b:Nat} (h:Eqv N U W a b):Eqv N U W b a:=fun y hy=>(h y hy).symm
theorem Eqv.trans {a b c:Nat} (h:Eqv N U W a b) (k:Eqv N U W b c):Eqv N U W a c:=fun y hy=>(h y hy).trans (k y hy)
theorem sep (a:Nat):∀ k:Nat,k≤N→∃ h,Alg N U W h∧h a≠0∧∀ b,b < k→¬ Eqv N U W a b→h b=0
 | 0,_=>⟨_,alg_one,by decide,fun b hb=>absurd hb (by omega)⟩
 | k+1,hk=>by
  obtain ⟨h,h1,h2,h3⟩:=sep a k (by omega)
  by_cases e:Eqv N U W a k
  ·refine ⟨h,h1,h2,fun b hb n=>?_⟩
   by_cases z:b=k
   ·subst z; exact absurd e n
   ·exact h3 b (by omega) n
  ·obtain ⟨y,hy⟩:=Classical.not_forall.mp e
   obtain ⟨hy,ne⟩:=Classical.not_imp.mp hy
   refine ⟨_,alg_prod h1 (hy.sub (alg_one.mul (y k))),?_,fun b hb n=>?_⟩
   ·show h a * (y a - y k * 1)≠0
    exact Int.mul_ne_zero h2 (by omega)
   ·show h b * (y b - y k * 1)=0
    by_cases z:b=k
    ·subst z; simp
    ·rw [h3 b (by omega) n]; simp
noncomputable def labF (N:Nat) (U:Nat→Int) (W:Nat→Nat→Int) (a:Nat):Nat:=Classical.epsilon fun b=>Eqv N U W b a
theorem lab_self (a:Nat):Eqv N U W (labF N U W a) a:=Classical.epsilon_spec (p:=fun b=>Eqv N U W b a) ⟨a,fun _ _=>rfl⟩
theorem lab_iff {a b:Nat}:labF N U W a=labF N U W b↔Eqv N U W a b:=by
 constructor
 ·intro e
  have g:=lab_self (N:=N) (U:=U) (W:=W) b
  rw [←e] at g
  exact (lab_self a).symm.trans g
 ·intro e
  unfold labF
  congr 1
  funext c
  exact propext ⟨fun z=>z.trans e,fun z=>z.trans e.symm⟩
def tauF (n m:Nat) (y:Rw):Int:=SmF n y - SmF m fun q=>y (n+q)
theorem tau_spn {n m:Nat} {G:Rw→Prop} (h:∀ r,G r→tauF n m r=0) {y:Rw} (s:Spn (n+m) G y):tauF n m y=0:=by
 unfold tauF at *
 induction s with
 | gen g=>exact h _ g
 | zero=>rw [smF_nil,smF_nil]; rfl
 | add _ _ a b=>rw [smF_add,smF_add]; omega
 | mul c _ a=>rw [smF_mul,smF_mul,←Int.mul_sub,a,Int.mul_zero]
 | @div x y c hc e _ a =>
  have e1:SmF n x=c * SmF n y:=by rw [←smF_mul]; exact smF_congr fun q hq=>(e q (by omega)).symm
  have e2:SmF m (fun q=>x (n+q))=c * SmF m fun q=>y (n+q):=by rw [←smF_mul]; exact smF_congr fun q hq=>(e (n+q) (by omega)).symm
  rw [e1,e2,←Int.mul_sub] at a
  rcases Int.mul_eq_zero.mp a with h | h
  ·exact absurd h hc
  ·exact h
theorem sep_lab (a:Nat):∃ h:Rw,∃ c:Int,c≠0∧Alg N U W h∧∀ b,b < N→h b=c * qF (fun x=>(labF N U W x:Int)) (labF N U W a) b:=by
 obtain ⟨h,h1,h2,h3⟩:=sep (U:=U) (W:=W) a N (Nat.le_refl _)
 refine ⟨h,h a,h2,h1,fun b hb=>?_⟩
 unfold qF
 by_cases e:Eqv N U W a b
 ·rw [if_pos (by show ((labF N U W b:Nat):Int)=_; rw [lab_iff.mpr e]),Int.mul_one]
  exact (e h h1).symm
 ·have ne:¬ (((labF N U W b:Nat):Int)=(labF N U W a:Nat)):=fun z=>e (lab_iff.mp (Int.ofNat.inj z).symm)
  show h b=h a * if ((labF N U W b:Nat):Int)=(labF N U W a:Nat) then 1 else 0
  rw [if_neg ne,Int.mul_zero]
  exact h3 b hb e
theorem lab_even {a b:Nat} (e:labF N U W a=labF N U W b):U a=U b∧∀ o:Int,SmF N (fun v=>qF (fun x=>(labF N U W x:Int)) o v * W a v)=SmF N fun v=>qF (fun x=>(labF N U W x:Int)) o v * W b v:=by
 have q:=lab_iff.mp e
 constructor
 ·have:=q _ (alg_hue (U a))
  simp only [if_true] at this
  by_cases z:U b=U a
  ·exact z.symm
  ·rw [if_neg z] at this; exact absurd this (by decide)
 ·intro o
  by_cases ho:∃ c,c < N∧((labF N U W c:Nat):Int)=o
  ·obtain ⟨c,hc,rfl⟩:=ho
   obtain ⟨h,k,k0,hA,hh⟩:=sep_lab (U:=U) (W:=W) c
   have:=q _ (alg_nr hA)
   have z:∀ x,Nr N W h x=k * SmF N fun v=>qF (fun x=>(labF N U W x:Int)) (labF N U W c) v * W x v:=fun x=>by
    unfold Nr
    rw [←smF_mul]
    exact smF_congr fun v hv=>by rw [hh v hv]; grind
   rw [z,z] at this
   exact Int.eq_of_mul_eq_mul_left k0 this
  ·have z:∀ x,SmF N (fun v=>qF (fun x=>(labF N U W x:Int)) o v * W x v)=0:=fun x=>(smF_congr fun v hv=>by
    unfold qF
    rw [if_neg (fun y=>ho ⟨v,hv,y⟩),Int.zero_mul]).trans (smF_nil N)
   rw [z,z]
theorem lab_alike {n m:Nat} (h:∀ t:Tr,tauF n m (Tr.val (n+m) U W t)=0) (o:Int):cntF n (fun x=>(labF (n+m) U W x:Int)) o=cntF m (fun x=>(labF (n+m) U W (n+x):Int)) o:=by
 by_cases ho:∃ c,c < n+m∧((labF (n+m) U W c:Nat):Int)=o
 ·obtain ⟨c,hc,rfl⟩:=ho
  obtain ⟨y,k,k0,hA,hh⟩:=sep_lab (U:=U) (W:=W) c
  have:=tau_spn (n:=n) (m:=m) (G:=TrR (n+m) U W) (fun r ⟨t,e⟩=>by rw [e]; exact h t) hA
  unfold tauF at this
  have e1:SmF n y=k * cntF n (fun x=>(labF (n+m) U W x:Int)) (labF (n+m) U W c):=by
   unfold cntF; rw [←smF_mul]; exact smF_congr fun q hq=>hh q (by omega)
  have e2:SmF m (fun q=>y (n+q))=k * cntF m (fun x=>(labF (n+m) U W (n+x):Int)) (labF (n+m) U W c):=by
   unfold cntF; rw [←smF_mul]; exact smF_congr fun q hq=>hh (n+q) (by omega)
  rw [e1,e2] at this
  exact Int.eq_of_mul_eq_mul_left k0 (by omega)
 ·have z1:cntF n (fun x=>(labF (n+m) U W x:Int)) o=0:=(smF_congr fun v hv=>by
   unfold qF; rw [if_neg (fun y=>ho ⟨v,by omega,y⟩)]).trans (smF_nil n)
  have z2:cntF m (fun x=>(labF (n+m) U W (n+x):Int)) o=0:=(smF_congr fun v hv=>by
   unfold qF; rw [if_neg (fun y=>ho ⟨n+v,by omega,y⟩)]).trans (smF_nil m)
  rw [z1,z2]
end
section
theorem sumP_rng (f g:Nat→Int) (o:Int):∀ L:List Nat,sumP ((L.map f).zip (L.map g)) o=(L.map fun v=>qF g o v * f v).sum
 | []=>rfl
 | x :: L=>by
  rw [List.map_cons,List.map_cons,List.zip_cons_cons,sumP_cons,sumP_rng f g o L,List.map_cons,List.sum_cons]
  congr 1
  unfold qF
  split
  ·rw [Int.one_mul]
  ·rw [Int.zero_mul]
theorem cnt_rng (a:Nat→Int) (o:Int):∀ n:Nat,cntF n a o=((((List.range n).map a).count o:Nat):Int)
 | 0=>rfl
 | n+1=>by
  unfold cntF
  rw [smF_succ,show SmF n (qF a o)=cntF n a o from rfl,cnt_rng a o n,List.range_succ,List.map_append,List.count_append,List.map_cons,List.map_nil,List.count_singleton]
  unfold qF
  by_cases e:a n=o
  ·rw [if_pos e,if_pos (by simpa using e)]; rfl
  ·rw [if_neg e,if_neg (by simpa using e)]; rfl
theorem rng_get (f:Nat→Int) {n i:Nat} (h:i < n):((List.range n).map f)[i]? = some (f i):=by rw [List.getElem?_map,List.getElem?_range h]; rfl
theorem rng_some {f:Nat→Int} {n i:Nat} {l:Int} (h:((List.range n).map f)[i]? = some l):i < n∧l=f i:=by
 have hi:i < n:=by have:=lt_get h; rwa [List.length_map,List.length_range] at this
 rw [rng_get f hi] at h
 exact ⟨hi,(Option.some.inj h).symm⟩
theorem row_rng {n:Nat} {M:List (List Int)} {i:Nat} {x:List Int} (hx:M[i]? = some x) (lx:x.length=n):x=(List.range n).map fun v=>ent M i v:=by
 apply List.ext_getElem?
 intro j
 by_cases hj:j < n
 ·rw [rng_get _ hj]
  obtain ⟨z,hz⟩:=get_lt (l:=x) (i:=j) (by omega)
  rw [hz]
  show some z=some ((M[i]?.getD [])[j]?.getD 0)
  rw [hx]
  show some z=some (x[j]?.getD 0)
  rw [hz]
  rfl
 ·rw [List.getElem?_eq_none (by omega),List.getElem?_eq_none (by rw [List.length_map,List.length_range]; omega)]
theorem range_drop (n m:Nat) (f:Nat→Int):((List.range (n+m)).map f).drop n=(List.range m).map fun q=>f (n+q):=by
 apply List.ext_getElem?
 intro j
 rw [List.getElem?_drop]
 by_cases hj:j < m
 ·rw [rng_get _ (by omega:n+j < n+m),rng_get _ hj]
 ·rw [List.getElem?_eq_none (by rw [List.length_map,List.length_range]; omega),List.getElem?_eq_none (by rw [List.length_map,List.length_range]; omega)]
theorem range_take (n m:Nat) (f:Nat→Int):((List.range (n+m)).map f).take n=(List.range n).map f:=by
 apply List.ext_getElem?
 intro j
 rw [List.getElem?_take]
 by_cases hj:j < n
 ·rw [if_pos hj,rng_get _ (by omega:j < n+m),rng_get _ hj]
 ·rw [if_neg hj,List.getElem?_eq_none (by rw [List.length_map,List.length_range]; omega)]
theorem some_parts {n m:Nat} {us ls:List Int} {M:List (List Int)} (h1:us.length=n+m) (h2:M.length=n+m) (h3:∀ ws ∈ M,ws.length=n+m) (C:Coarse us M ls) (na:¬ (ls.take n).Perm (ls.drop n)) :
  ∃ t:Tr,tauF n m (Tr.val (n+m) (hueF us) (ent M) t)≠0:=by
 refine Classical.byContradiction fun z=>na ?_
 have all:∀ t:Tr,tauF n m (Tr.val (n+m) (hueF us) (ent M) t)=0:=fun t=>Classical.byContradiction fun y=>z ⟨t,y⟩
 let lb:Nat→Int:=fun x=>(labF (n+m) (hueF us) (ent M) x:Int)
 have hl:ls.length=n+m:=C.len.symm.trans h1
 have ev:∀ i j,Pr us ((List.range (n+m)).map lb) M i j:=by
  intro i j l u u' ws ws' e1 e2 e3 e4 e5 e6
  obtain ⟨hi,rfl⟩:=rng_some e1
  obtain ⟨hj,e⟩:=rng_some e2
  have q:=lab_even (N:=n+m) (U:=hueF us) (W:=ent M) (Int.ofNat.inj e)
  have u1:hueF us i=u:=by show us[i]?.getD 0=u; rw [e3]; rfl
  have u2:hueF us j=u':=by show us[j]?.getD 0=u'; rw [e4]; rfl
  refine ⟨by rw [←u1,←u2]; exact q.1,fun o _=>?_⟩
  rw [row_rng e5 (h3 ws (List.mem_of_getElem? e5)),row_rng e6 (h3 ws' (List.mem_of_getElem? e6)),sumP_rng,sumP_rng]
  exact q.2 o
 have f:=C.top _ (by rw [List.length_map,List.length_range,hl]) ev
 have fm:=finer_map (by rw [List.length_map,List.length_range,hl]) f
 rw [fm,←List.map_take,←List.map_drop,range_take,range_drop]
 refine List.Perm.map _ (List.perm_iff_count.mpr fun o=>?_)
 have:=lab_alike all o
 rw [cnt_rng,cnt_rng] at this
 exact Int.ofNat.inj this
end
section
variable {n m:Nat} {U:Nat→Int} {W:Nat→Nat→Int}
def RwK (N:Nat) (U:Nat→Int) (W:Nat→Nat→Int) (ks:List Tr) (k:Nat) (r:Rw):Prop:=∃ s ∈ ks,s.knots≤k∧r=Tr.val N U W s
def Bk:List Tr→Prop
 | []=>True
 | t :: ks=>t.knots≤2 ^ ks.length∧t.deep≤ks.length+1∧Bk ks
theorem Bk.all:∀ {ks:List Tr},Bk ks→∀ t ∈ ks,2 * t.knots≤2 ^ ks.length∧t.deep≤ks.length
 | t :: ks,⟨h1,h2,h3⟩,s,hs=>by
  show 2 * s.knots≤2 ^ (ks.length+1)∧s.deep≤ks.length+1
  rw [Nat.pow_succ]
  cases hs with
  | head=>exact ⟨by omega,by omega⟩
  | tail _ hs=>have:=h3.all s hs; exact ⟨by omega,by omega⟩
structure Srch (n m:Nat) (U:Nat→Int) (W:Nat→Nat→Int) (K:Nat) (ks:List Tr) (ps:List Nat):Prop where
 free:Free (ks.map (Tr.val (n+m) U W)) ps
 lt:∀ p ∈ ps,p < n+m
 alk:∀ t ∈ ks,tauF n m (Tr.val (n+m) U W t)=0
 kn:∀ t ∈ ks,t.knots < K
 leaf:∀ w,1 < K→Spn (n+m) (RwK (n+m) U W ks 1) (Tr.val (n+m) U W (.nd w []))
 cls:∀ s ∈ ks,∀ b ∈ ks,s.knots+b.knots < K→Spn (n+m) (RwK (n+m) U W ks (s.knots+b.knots)) fun q=>Tr.val (n+m) U W s q * Nr (n+m) W (Tr.val (n+m) U W b) q
 bk:Bk ks
theorem Srch.start:Srch n m U W 1 [] []:=⟨.nil,(fun _ h=>nomatch h),(fun _ h=>nomatch h),(fun _ h=>nomatch h),(fun _ h=>absurd h (by omega)),(fun _ h=>nomatch h),trivial⟩
theorem RwK.mono {N:Nat} {ks ks':List Tr} {k k':Nat} {r:Rw} (hs:∀ t ∈ ks,t ∈ ks') (hk:k≤k') (h:RwK N U W ks k r):RwK N U W ks' k' r:=by
 obtain ⟨s,h1,h2,h3⟩:=h
 exact ⟨s,hs s h1,by omega,h3⟩
theorem snoc_of (bs:List Tr):bs=[] ∨ ∃ bs' b,bs=bs'++[b]:=by
 cases bs with
 | nil=>exact .inl rfl
 | cons t ts=>exact .inr ⟨(t :: ts).dropLast,(t :: ts).getLast (by simp),(List.dropLast_concat_getLast (by simp)).symm⟩
theorem Srch.tree {K:Nat} {ks:List Tr} {ps:List Nat} (S:Srch n m U W K ks ps):∀ (k:Nat) (t:Tr),t.knots=k→k < K→Spn (n+m) (RwK (n+m) U W ks k) (Tr.val (n+m) U W t):=by
 intro k
 induction k using Nat.strongRecOn with
 | _ k ih =>
  intro ⟨w,bs⟩ hk hK
  rcases snoc_of bs with rfl | ⟨bs',b,rfl⟩
  ·have:k=1:=hk.symm
   subst this
   exact S.leaf w hK
  ·have e:=knots_snoc w bs' b
   have p1:=knots_pos (.nd w bs')
   have p2:=knots_pos b
   have i1:=ih (Tr.nd w bs').knots (by omega) _ rfl (by omega)
   have i2:=ih b.knots (by omega) _ rfl (by omega)
   rw [val_snoc]
   refine Spn.bil (fun x y hx hy=>?_) i1 i2
   obtain ⟨s,h1,h2,rfl⟩:=hx
   obtain ⟨s',h3,h4,rfl⟩:=hy
   exact (S.cls s h1 s' h3 (by omega)).mono fun r hr=>.gen (hr.mono (fun _ z=>z) (by omega))
theorem Srch.closed {K:Nat} {ks:List Tr} {ps:List Nat} (S:Srch n m U W K ks ps) (hK:1 < K) (h:∀ s ∈ ks,∀ b ∈ ks,s.knots+b.knots < K) (t:Tr):tauF n m (Tr.val (n+m) U W t)=0:=by
 have all:∀ (k:Nat) (t:Tr),t.knots=k→Spn (n+m) (fun r=>∃ s ∈ ks,r=Tr.val (n+m) U W s) (Tr.val (n+m) U W t):=by
  intro k
  induction k using Nat.strongRecOn with
  | _ k ih =>
   intro ⟨w,bs⟩ hk
   have up:∀ j r,RwK (n+m) U W ks j r→Spn (n+m) (fun r=>∃ s ∈ ks,r=Tr.val (n+m) U W s) r:=fun j r ⟨s,h1,_,h3⟩=>.gen ⟨s,h1,h3⟩
   rcases snoc_of bs with rfl | ⟨bs',b,rfl⟩
   ·exact (S.leaf w hK).mono (up 1)
   ·have e:=knots_snoc w bs' b
    have p1:=knots_pos (.nd w bs')
    have p2:=knots_pos b
    rw [val_snoc]
    refine Spn.bil (fun x y hx hy=>?_) (ih _ (by omega) _ rfl) (ih b.knots (by omega) _ rfl)
    obtain ⟨s,h1,rfl⟩:=hx
    obtain ⟨s',h3,rfl⟩:=hy
    exact (S.cls s h1 s' h3 (h s h1 s' h3)).mono (up _)
 exact tau_spn (fun r ⟨s,h1,e⟩=>by rw [e]; exact S.alk s h1) (all _ t rfl)
theorem Srch.near {K:Nat} {ks:List Tr} {ps:List Nat} (S:Srch n m U W K ks ps) (h:∃ t:Tr,tauF n m (Tr.val (n+m) U W t)≠0):K≤2 ^ ks.length:=by
 by_cases hK:1 < K
 ·refine Classical.byContradiction fun z=>?_
  obtain ⟨t,ht⟩:=h
  refine ht (S.closed hK (fun s hs b hb=>?_) t)
  have:=S.bk.all s hs
  have:=S.bk.all b hb
  omega
 ·have:=Nat.one_le_two_pow (n:=ks.length)
  omega
structure Sprt (n m:Nat) (U:Nat→Int) (W:Nat→Nat→Int) (K:Nat) (k0 S:List Tr):Prop where
 kn:∀ t ∈ S,t.knots=K
 dp:∀ t ∈ S,t.deep≤k0.length+1
 le:∀ t ∈ S,t.knots≤2 ^ k0.length
 one:K=1→∀ w,(∃ t ∈ S,∀ q,q < n+m→Tr.val (n+m) U W (.nd w []) q=Tr.val (n+m) U W t q) ∨ ∀ q,q < n+m→Tr.val (n+m) U W (.nd w []) q=0
 prs:∀ s ∈ k0,∀ b ∈ k0,s.knots+b.knots=K→∃ t ∈ S,Tr.val (n+m) U W t=fun q=>Tr.val (n+m) U W s q * Nr (n+m) W (Tr.val (n+m) U W b) q
structure Mid (n m:Nat) (U:Nat→Int) (W:Nat→Nat→Int) (K:Nat) (k0 dn ks:List Tr) (ps:List Nat):Prop where
 free:Free (ks.map (Tr.val (n+m) U W)) ps
 lt:∀ p ∈ ps,p < n+m
 alk:∀ t ∈ ks,tauF n m (Tr.val (n+m) U W t)=0
 ap:∃ new:List Tr,ks=new++k0∧new.length≤dn.length∧∀ t ∈ new,t.knots=K
 sp:∀ t ∈ dn,Spn (n+m) (fun r=>∃ s ∈ ks,r=Tr.val (n+m) U W s) (Tr.val (n+m) U W t)
 bk:Bk ks
 fr:∀ t ∈ ks,t ∈ k0 ∨ t ∈ dn
theorem Srch.mid {K:Nat} {ks:List Tr} {ps:List Nat} (S:Srch n m U W K ks ps):Mid n m U W K ks [] ks ps:=⟨S.free,S.lt,S.alk,⟨[],rfl,Nat.le_refl _,(fun _ h=>nomatch h)⟩,(fun _ h=>nomatch h),S.bk,fun _ h=>.inl h⟩
theorem Mid.skip {K:Nat} {k0 dn ks:List Tr} {ps:List Nat} (M:Mid n m U W K k0 dn ks ps) {t:Tr} (h:∀ q,q < n+m→Dt (q :: ps) (Tr.val (n+m) U W t :: ks.map (Tr.val (n+m) U W))=0):Mid n m U W K k0 (dn++[t]) ks ps:=by
 refine ⟨M.free,M.lt,M.alk,?_,fun s hs=>?_,M.bk,fun s hs=>(M.fr s hs).imp id (List.mem_append_left _)⟩
 ·obtain ⟨new,e,l,k⟩:=M.ap
  exact ⟨new,e,by rw [List.length_append]; omega,k⟩
 ·rcases List.mem_append.mp hs with hs | hs
  ·exact M.sp s hs
  ·rw [List.mem_singleton.mp hs]
   have z:=zs_spn (N:=n+m) (dt_zs ps (ks.map (Tr.val (n+m) U W)) (Tr.val (n+m) U W t))
   have z2:=z.mono (G':=fun r=>∃ s ∈ ks,r=Tr.val (n+m) U W s) fun r hr=>by
    obtain ⟨s,h1,rfl⟩:=List.mem_map.mp hr
    exact .gen ⟨s,h1,rfl⟩
   exact .div _ M.free.ne (fun q hq=>by rw [h q hq]; omega) z2
theorem Mid.push {K:Nat} {k0 dn ks:List Tr} {ps:List Nat} (M:Mid n m U W K k0 dn ks ps) {t:Tr} {p:Nat} (hp:p < n+m) (h:Dt (p :: ps) (Tr.val (n+m) U W t :: ks.map (Tr.val (n+m) U W))≠0)
  (al:tauF n m (Tr.val (n+m) U W t)=0) (kn:t.knots=K) (dp:t.deep≤k0.length+1) (le:t.knots≤2 ^ k0.length):Mid n m U W K k0 (dn++[t]) (t :: ks) (p :: ps):=by
 obtain ⟨new,e,l,k⟩:=M.ap
 have hl:k0.length≤ks.length:=by rw [e,List.length_append]; omega
 refine ⟨.cons _ p M.free h,?_,?_,⟨t :: new,by rw [e]; rfl,by rw [List.length_append]; simp only [List.length_cons,List.length_nil]; omega,?_⟩,fun s hs=>?_,⟨Nat.le_trans le (Nat.pow_le_pow_right (by decide) hl),by omega,M.bk⟩,fun s hs=>?_⟩
 ·intro q hq
  cases hq with
  | head=>exact hp
  | tail _ hq=>exact M.lt q hq
 ·intro s hs
  cases hs with
  | head=>exact al
  | tail _ hs=>exact M.alk s hs
 ·intro s hs
  cases hs with
  | head=>exact kn
  | tail _ hs=>exact k s hs
 ·rcases List.mem_append.mp hs with hs | hs
  ·exact (M.sp s hs).mono fun r ⟨s,h1,h2⟩=>.gen ⟨s,List.mem_cons_of_mem _ h1,h2⟩
  ·rw [List.mem_singleton.mp hs]
   exact .gen ⟨t,List.mem_cons_self,rfl⟩
 ·cases hs with
  | head=>exact .inr (List.mem_append_right _ (List.mem_singleton.mpr rfl))
  | tail _ hs=>exact (M.fr s hs).imp id (List.mem_append_left _)
theorem Mid.done {K:Nat} {k0 S ks:List Tr} {ps0 ps:List Nat} (h0:Srch n m U W K k0 ps0) (hS:Sprt n m U W K k0 S) (hK:0 < K) (M:Mid n m U W K k0 S ks ps):Srch n m U W (K+1) ks ps:=by
 obtain ⟨new,e,l,k⟩:=M.ap
 have sub:∀ t ∈ k0,t ∈ ks:=fun t ht=>by rw [e]; exact List.mem_append_right _ ht
 have kn:∀ t ∈ ks,t.knots < K+1:=fun t ht=>by
  rw [e] at ht
  rcases List.mem_append.mp ht with h | h
  ·rw [k t h]; omega
  ·have:=h0.kn t h; omega
 have all:∀ r,(∃ s ∈ ks,r=Tr.val (n+m) U W s)→Spn (n+m) (RwK (n+m) U W ks K) r:=fun r ⟨s,h1,h2⟩=>.gen ⟨s,h1,by have:=kn s h1; omega,h2⟩
 refine ⟨M.free,M.lt,M.alk,kn,fun w h=>?_,fun s hs b hb hlt=>?_,M.bk⟩
 ·by_cases h1:K=1
  ·subst h1
   rcases hS.one rfl w with ⟨t,ht,e2⟩ | e2
   ·exact ((M.sp t ht).mono all).ext e2
   ·exact Spn.zero.ext e2
  ·exact (h0.leaf w (by omega)).mono fun r hr=>.gen (hr.mono sub (Nat.le_refl _))
 ·have p1:=knots_pos s
  have p2:=knots_pos b
  have old:∀ x ∈ ks,x.knots < K→x ∈ k0:=fun x hx hk=>by
   rw [e] at hx
   rcases List.mem_append.mp hx with h | h
   ·rw [k x h] at hk; omega
   ·exact h
  have s0:=old s hs (by omega)
  have b0:=old b hb (by omega)
  by_cases eq:s.knots+b.knots=K
  ·obtain ⟨t,ht,e2⟩:=hS.prs s s0 b b0 eq
   rw [eq,←e2]
   exact (M.sp t ht).mono all
  ·exact (h0.cls s s0 b b0 (by omega)).mono fun r hr=>.gen (hr.mono sub (Nat.le_refl _))
end
section
theorem nd_len:∀ (N:Nat) (l:List Nat),l.Nodup→(∀ x ∈ l,x < N)→l.length≤N
 | 0,l,_,h=>by
  cases l with
  | nil=>exact Nat.le_refl _
  | cons x l=>exact absurd (h x List.mem_cons_self) (by omega)
 | N+1,l,nd,h=>by
  have i:=nd_len N (l.erase N) (nd.erase N) fun x hx=>by
   have:=(List.Nodup.mem_erase_iff nd).mp hx
   have:=h x this.2
   omega
  rw [List.length_erase] at i
  split at i <;> omega
theorem Free.nodup {rs:List Rw} {ps:List Nat} (h:Free rs ps):ps.Nodup:=by
 induction h with
 | nil=>exact List.nodup_nil
 | cons r p _ hd ih=>exact List.nodup_cons.mpr ⟨fun z=>hd (dt_twice p _ _ z),ih⟩
theorem Free.len {rs:List Rw} {ps:List Nat} (h:Free rs ps):rs.length=ps.length:=by
 induction h with
 | nil=>rfl
 | cons r p _ _ ih=>simp [ih]
variable {n m:Nat} {U:Nat→Int} {W:Nat→Nat→Int} {K:Nat} {ks:List Tr} {ps:List Nat}
theorem Srch.hue (S:Srch n m U W K ks ps) (c:Int) {t:Tr} (ht:t ∈ ks):tauF n m (fun q=>indF U (some c) q * Tr.val (n+m) U W t q)=0:=by
 have go:∀ t':Tr,t'.knots=t.knots→(fun q=>indF U (some c) q * Tr.val (n+m) U W t q)=Tr.val (n+m) U W t'→tauF n m (fun q=>indF U (some c) q * Tr.val (n+m) U W t q)=0:=fun t' hk e=>by
  rw [e]
  exact tau_spn (fun r ⟨s,h1,_,h3⟩=>by rw [h3]; exact S.alk s h1) (S.tree _ t' rfl (by rw [hk]; exact S.kn t ht))
 obtain ⟨w,bs⟩:=t
 cases w with
 | none =>
  refine go (.nd (some c) bs) rfl ?_
  funext q
  show _ * (1 * Tr.vals (n+m) U W bs q)=indF U (some c) q * Tr.vals (n+m) U W bs q
  rw [Int.one_mul]
 | some d =>
  by_cases e:c=d
  ·subst e
   refine go (.nd (some c) bs) rfl ?_
   funext q
   show (if U q=c then (1:Int) else 0) * ((if U q=c then 1 else 0) * _)=(if U q=c then 1 else 0) * _
   by_cases h:U q=c
   ·rw [if_pos h,Int.one_mul]
   ·rw [if_neg h]; simp
  ·have z:(fun q=>indF U (some c) q * Tr.val (n+m) U W (.nd (some d) bs) q)=fun _=>0:=by
    funext q
    show (if U q=c then (1:Int) else 0) * ((if U q=d then 1 else 0) * _)=0
    by_cases h:U q=c
    ·rw [if_neg (fun y:U q=d=>e (h.symm.trans y))]; simp
    ·rw [if_neg h]; simp
   rw [z]
   unfold tauF
   rw [smF_nil,smF_nil]
   rfl
def ePl (a:Nat):Rw:=fun q=>if q=a then 1 else 0
theorem smF_one {n a:Nat} (k:Int):∀ N:Nat,SmF N (fun q=>if q=a then k else 0)=if a < N then k else 0
 | 0=>by rw [if_neg (by omega)]; rfl
 | N+1=>by
  rw [smF_succ,smF_one (n:=n) k N]
  by_cases h1:a < N
  ·rw [if_pos h1,if_neg (by omega),if_pos (by omega),Int.add_zero]
  ·by_cases h2:N=a
   ·rw [if_neg h1,if_pos h2,if_pos (by omega),Int.zero_add]
   ·rw [if_neg h1,if_neg h2,if_neg (by omega),Int.add_zero]
theorem tau_at (a:Nat) (k:Int):tauF n m (fun q=>if q=a then k else 0)=if a < n then k else if a < n+m then -k else 0:=by
 unfold tauF
 rw [smF_one (n:=0)]
 by_cases h:a < n
 ·have:SmF m (fun q=>if n+q=a then k else 0)=0:=(smF_congr fun q _=>if_neg (by omega)).trans (smF_nil m)
  rw [this,if_pos h,if_pos h,Int.sub_zero]
 ·have:SmF m (fun q=>if n+q=a then k else 0)=SmF m fun q=>if q=a - n then k else 0:=smF_congr fun q _=>by
   by_cases e:n+q=a
   ·rw [if_pos e,if_pos (by omega)]
   ·rw [if_neg e,if_neg (by omega)]
  rw [this,smF_one (n:=0),if_neg h,if_neg h]
  by_cases h2:a < n+m
  ·rw [if_pos (by omega),if_pos h2]; omega
  ·rw [if_neg (by omega),if_neg h2]; rfl
theorem tau_congr {x y:Rw} (h:∀ q,q < n+m→x q=y q):tauF n m x=tauF n m y:=by
 unfold tauF
 rw [smF_congr (g:=y) fun q hq=>h q (by omega),smF_congr (f:=fun q=>x (n+q)) (g:=fun q=>y (n+q)) fun q hq=>h (n+q) (by omega)]
theorem tau_sub (a b:Rw) (c:Int):tauF n m (fun q=>c * a q - b q)=c * tauF n m a - tauF n m b:=by
 unfold tauF
 have e:∀ (k:Nat) (f g:Nat→Int),SmF k (fun q=>c * f q - g q)=c * SmF k f - SmF k g:=fun k f g=>by
  have:=smF_add k (fun q=>c * f q) fun q=>-1 * g q
  rw [smF_mul,smF_mul] at this
  rw [smF_congr (g:=fun q=>c * f q+-1 * g q) fun q _=>by omega,this]
  omega
 rw [e,e m (fun q=>a (n+q)) fun q=>b (n+q)]
 grind
theorem Srch.one_hue (S:Srch n m U W K ks ps) {p0:Nat} (hp0:p0 < n+m) (h:∀ q,q < n+m→q≠p0→q ∈ ps):∀ q,q < n+m→U q=U p0:=by
 intro a ha
 refine Classical.byContradiction fun ne=>?_
 have z:=zs_spn (N:=n+m) (dt_zs ps (ks.map (Tr.val (n+m) U W)) (ePl a))
 generalize hf:Dt ps (ks.map (Tr.val (n+m) U W))=f at z
 have f0:f≠0:=by rw [←hf]; exact S.free.ne
 generalize hk:Dt (p0 :: ps) (ePl a :: ks.map (Tr.val (n+m) U W))=k
 have t1:=tau_spn (n:=n) (m:=m) (fun r hr=>by obtain ⟨s,h1,rfl⟩:=List.mem_map.mp hr; exact S.alk s h1) z
 have z2:Spn (n+m) (fun r=>∃ s ∈ ks,r=fun q=>indF U (some (U p0)) q * Tr.val (n+m) U W s q) _:=Spn.prod (G:=fun r=>r=indF U (some (U p0))) (x:=indF U (some (U p0))) (fun x y hx hy=>by
  obtain ⟨s,h1,rfl⟩:=List.mem_map.mp hy
  subst hx
  exact .gen ⟨s,h1,rfl⟩) (.gen rfl) z
 have t2:=tau_spn (n:=n) (m:=m) (fun r ⟨s,h1,e⟩=>by rw [e]; exact S.hue _ h1) z2
 have v:∀ q,q < n+m→Dt (q :: ps) (ePl a :: ks.map (Tr.val (n+m) U W))=if q=p0 then k else 0:=fun q hq=>by
  by_cases e:q=p0
  ·rw [if_pos e,e]; exact hk
  ·rw [if_neg e]; exact dt_twice q ps _ (h q hq e)
 have e1:tauF n m (fun q=>f * ePl a q - if q=p0 then k else 0)=0:=(tau_congr fun q hq=>by rw [v q hq]).trans t1
 have e2:tauF n m (fun q=>f * 0 - if q=p0 then k else 0)=0:=by
  refine (tau_congr fun q hq=>?_).trans t2
  rw [v q hq]
  show _=(if U q=U p0 then (1:Int) else 0) * (f * (if q=a then 1 else 0) - _)
  by_cases e:q=p0
  ·subst e
   rw [if_pos rfl,if_pos rfl,if_neg (fun y=>ne (by rw [y])),Int.one_mul]
  ·rw [if_neg e]
   by_cases e2:q=a
   ·subst e2; rw [if_neg ne]; simp
   ·rw [if_neg e2]; simp
 rw [tau_sub] at e1
 have e3:=tau_sub (n:=n) (m:=m) (fun _=>0) (fun q=>if q=p0 then k else 0) f
 rw [e2] at e3
 have t0:tauF n m (fun _=>0)=0:=by unfold tauF; rw [smF_nil,smF_nil]; rfl
 rw [t0] at e3
 have t3:tauF n m (ePl a)=if a < n then 1 else if a < n+m then -1 else 0:=tau_at a 1
 have e4:f * tauF n m (ePl a)=0:=by omega
 rcases Int.mul_eq_zero.mp e4 with z | z
 ·exact f0 z
 ·rw [t3] at z
  by_cases c:a < n
  ·rw [if_pos c] at z; exact absurd z (by decide)
  ·rw [if_neg c,if_pos ha] at z; exact absurd z (by decide)
theorem Srch.most (S:Srch n m U W K ks ps) (hN:0 < n+m):ks.length < n+m:=by
 have l:=S.free.len
 rw [List.length_map] at l
 refine Classical.byContradiction fun c=>?_
 have all:∀ q,q < n+m→q ∈ ps:=fun q hq=>Classical.byContradiction fun nq=>by
  have:=nd_len (n+m) (q :: ps) (List.nodup_cons.mpr ⟨nq,S.free.nodup⟩) fun x hx=>by
   cases hx with
   | head=>exact hq
   | tail _ hx=>exact S.lt x hx
  rw [List.length_cons] at this
  omega
 have z:=zs_spn (N:=n+m) (dt_zs ps (ks.map (Tr.val (n+m) U W)) (ePl 0))
 have t1:=tau_spn (n:=n) (m:=m) (fun r hr=>by obtain ⟨s,h1,rfl⟩:=List.mem_map.mp hr; exact S.alk s h1) z
 rw [tau_sub] at t1
 have t0:tauF n m (fun q=>Dt (q :: ps) (ePl 0 :: ks.map (Tr.val (n+m) U W)))=0:=(tau_congr (y:=fun _=>0) fun q hq=>dt_twice q ps _ (all q hq)).trans (by unfold tauF; rw [smF_nil,smF_nil]; rfl)
 rw [t0,Int.sub_zero] at t1
 have t3:tauF n m (ePl 0)=if 0 < n then 1 else if 0 < n+m then -1 else 0:=tau_at 0 1
 rcases Int.mul_eq_zero.mp t1 with z | z
 ·exact S.free.ne z
 ·rw [t3] at z
  by_cases c:0 < n
  ·rw [if_pos c] at z; exact absurd z (by decide)
  ·rw [if_neg c,if_pos hN] at z; exact absurd z (by decide)
theorem Srch.two (S:Srch n m U W K ks ps) {a b:Nat} (ha:a < n+m) (hb:b < n+m) (ne:U a≠U b):ks.length+1 < n+m:=by
 have l:=S.free.len
 rw [List.length_map] at l
 refine Classical.byContradiction fun c=>?_
 by_cases ex:∃ p0,p0 < n+m∧p0 ∉ ps
 ·obtain ⟨p0,h1,h2⟩:=ex
  have all:∀ q,q < n+m→q≠p0→q ∈ ps:=fun q hq e=>Classical.byContradiction fun nq=>by
   have:=nd_len (n+m) (q :: p0 :: ps) (List.nodup_cons.mpr ⟨fun z=>by cases z with | head=>exact e rfl | tail _ z=>exact nq z,List.nodup_cons.mpr ⟨h2,S.free.nodup⟩⟩) fun x hx=>by
    cases hx with
    | head=>exact hq
    | tail _ hx =>
     cases hx with
     | head=>exact h1
     | tail _ hx=>exact S.lt x hx
   rw [List.length_cons,List.length_cons] at this
   omega
  exact ne ((S.one_hue h1 all a ha).trans (S.one_hue h1 all b hb).symm)
 ·have all:∀ q,q < n+m→q≠0→q ∈ ps:=fun q hq _=>Classical.byContradiction fun nq=>ex ⟨q,hq,nq⟩
  exact ne ((S.one_hue (by omega) all a ha).trans (S.one_hue (by omega) all b hb).symm)
end
section
def prC (l1 l:List Nat) (K:Nat):Nat:=(l1.map fun a=>l.countP fun b=>decide (a+b=K)).sum
theorem prC_le (l:List Nat) (K:Nat):∀ l1:List Nat,prC l1 l K≤l1.countP (fun a=>decide (2 * a < K)) * l.countP (fun a=>decide (K < 2 * a))+l1.countP (fun a=>decide (2 * a=K)) * l.countP (fun a=>decide (2 * a=K))+l1.countP (fun a=>decide (K < 2 * a)) * l.countP (fun a=>decide (2 * a < K))
 | []=>Nat.zero_le _
 | a :: l1=>by
  have i:=prC_le l K l1
  show (l.countP fun b=>decide (a+b=K))+prC l1 l K≤_
  simp only [List.countP_cons]
  rcases Nat.lt_trichotomy (2 * a) K with h | h | h
  ·have:(l.countP fun b=>decide (a+b=K))≤l.countP fun b=>decide (K < 2 * b):=List.countP_mono_left fun b _ hb=>by simp only [decide_eq_true_eq] at hb ⊢; omega
   rw [if_pos (by simpa using h),if_neg (by simp; omega),if_neg (by simp; omega),Nat.add_mul,Nat.add_zero,Nat.add_zero]
   omega
  ·have:(l.countP fun b=>decide (a+b=K))≤l.countP fun b=>decide (2 * b=K):=List.countP_mono_left fun b _ hb=>by simp only [decide_eq_true_eq] at hb ⊢; omega
   rw [if_neg (by simp; omega),if_pos (by simpa using h),if_neg (by simp; omega),Nat.add_mul _ 1,Nat.add_zero,Nat.add_zero]
   omega
  ·have:(l.countP fun b=>decide (a+b=K))≤l.countP fun b=>decide (2 * b < K):=List.countP_mono_left fun b _ hb=>by simp only [decide_eq_true_eq] at hb ⊢; omega
   rw [if_neg (by simp; omega),if_neg (by simp; omega),if_pos (by simpa using h),Nat.add_mul _ 1,Nat.add_zero,Nat.add_zero]
   omega
theorem three_len (K:Nat):∀ l:List Nat,l.countP (fun a=>decide (2 * a < K))+l.countP (fun a=>decide (2 * a=K))+l.countP (fun a=>decide (K < 2 * a))=l.length
 | []=>rfl
 | a :: l=>by
  have i:=three_len K l
  simp only [List.countP_cons,List.length_cons]
  rcases Nat.lt_trichotomy (2 * a) K with h | h | h
  ·rw [if_pos (by simpa using h),if_neg (by simp; omega),if_neg (by simp; omega)]; omega
  ·rw [if_neg (by simp; omega),if_pos (by simpa using h),if_neg (by simp; omega)]; omega
  ·rw [if_neg (by simp; omega),if_neg (by simp; omega),if_pos (by simpa using h)]; omega
theorem tab64:∀ x,x < 12→∀ y,y < 12→∀ z,z < 8→x+z+y≤11→x * y+z * z+y * x < 64:=by decide
theorem tab8:∀ x,x < 4→∀ y,y < 4→∀ z,z < 4→x+z+y≤3→8≤x * y+z * z+y * x→z=3:=by decide
theorem prC_below (l:List Nat) (K:Nat) (pos:∀ a ∈ l,0 < a):prC l l K=prC (l.filter fun a=>decide (a < K)) (l.filter fun a=>decide (a < K)) K:=by
 have inner:∀ a,0 < a→(l.countP fun b=>decide (a+b=K))=(l.filter fun a=>decide (a < K)).countP fun b=>decide (a+b=K):=fun a ha=>by
  rw [List.countP_filter]
  refine List.countP_congr fun b hb=>?_
  simp only [decide_eq_true_eq,Bool.and_eq_true]
  omega
 have outer:∀ l1:List Nat,(∀ a ∈ l1,0 < a)→prC l1 l K=prC (l1.filter fun a=>decide (a < K)) (l.filter fun a=>decide (a < K)) K:=by
  intro l1
  induction l1 with
  | nil=>intro _; rfl
  | cons a l1 ih =>
   intro hp
   have i:=ih fun b hb=>hp b (List.mem_cons_of_mem _ hb)
   have pa:=hp a List.mem_cons_self
   show (l.countP fun b=>decide (a+b=K))+prC l1 l K=_
   by_cases h:a < K
   ·rw [List.filter_cons_of_pos (by simpa using h),i,inner a pa]
    rfl
   ·rw [List.filter_cons_of_neg (by simpa using h),i]
    have:(l.countP fun b=>decide (a+b=K))=0:=List.countP_eq_zero.mpr fun b hb=>by have:=pos b hb; simp; omega
    omega
 exact outer l pos
theorem few_pairs {l:List Nat} {K:Nat} (pos:∀ a ∈ l,0 < a) (hR:l.length≤11) (h1:l.countP (fun a=>decide (a=1))≤5) (hst:∀ a,2≤a→a < K→l.countP (fun b=>decide (b=a))≤prC l l a)
  (h3:3≤l.countP (fun a=>decide (a=1))→l.length≤10):prC l l K < 64:=by
 have le:=prC_le l K l
 have tl:=three_len K l
 have z7:l.countP (fun a=>decide (2 * a=K)) < 8:=by
  refine Classical.byContradiction fun c=>?_
  have z8:8≤l.countP fun a=>decide (2 * a=K):=by omega
  obtain ⟨a,ha,e⟩:∃ a ∈ l,2 * a=K:=by
   have:0 < l.countP fun a=>decide (2 * a=K):=by omega
   obtain ⟨a,h,e⟩:=List.countP_pos_iff.mp this
   exact ⟨a,h,by simpa using e⟩
  have ea:∀ b,decide (2 * b=K)=decide (b=a):=fun b=>by rw [decide_eq_decide]; omega
  have za:8≤l.countP fun b=>decide (b=a):=by
   have:(fun b=>decide (2 * b=K))=fun b=>decide (b=a):=funext ea
   rw [this] at z8
   exact z8
  have pa:=pos a ha
  by_cases a1:a=1
  ·subst a1; omega
  have st:=hst a (by omega) (by omega)
  rw [prC_below l a pos] at st
  generalize hl:(l.filter fun b=>decide (b < a))=l' at st
  have len':l'.length+l.countP (fun b=>decide (b=a))≤l.length:=by
   rw [←hl,←List.countP_eq_length_filter]
   have:∀ l:List Nat,l.countP (fun b=>decide (b < a))+l.countP (fun b=>decide (b=a))≤l.length:=by
    intro l
    induction l with
    | nil=>exact Nat.le_refl _
    | cons b l ih =>
     simp only [List.countP_cons,List.length_cons]
     by_cases h:b < a
     ·rw [if_pos (by simpa using h),if_neg (by simp; omega)]; omega
     ·rw [if_neg (by simpa using h)]
      split <;> omega
   exact this l
  have le':=prC_le l' a l'
  have tl':=three_len a l'
  have z3:=tab8 (l'.countP fun b=>decide (2 * b < a)) (by omega) (l'.countP fun b=>decide (a < 2 * b)) (by omega) (l'.countP fun b=>decide (2 * b=a)) (by omega) (by omega) (by omega)
  have ll:l'.length=3:=by omega
  obtain ⟨c,hc,ec⟩:∃ c ∈ l',2 * c=a:=by
   have:0 < l'.countP fun b=>decide (2 * b=a):=by omega
   obtain ⟨c,h,e⟩:=List.countP_pos_iff.mp this
   exact ⟨c,h,by simpa using e⟩
  have all:∀ b ∈ l',b=c:=fun b hb=>by
   have:l'.countP (fun b=>decide (2 * b=a))=l'.length:=by omega
   have:=List.countP_eq_length.mp this b hb
   simp only [decide_eq_true_eq] at this
   omega
  have c3:3≤l.countP fun b=>decide (b=c):=by
   have:l'.countP (fun b=>decide (b=c))=l'.length:=List.countP_eq_length.mpr fun b hb=>by simpa using all b hb
   have h2:l'.countP (fun b=>decide (b=c))≤l.countP fun b=>decide (b=c):=by rw [←hl]; exact List.Sublist.countP_le List.filter_sublist
   omega
  have cl:c ∈ l:=by rw [←hl] at hc; exact (List.mem_filter.mp hc).1
  have pc:=pos c cl
  by_cases c1:c=1
  ·subst c1
   have:=h3 c3
   omega
  ·have st2:=hst c (by omega) (by omega)
   have:prC l l c=0:=by
    rw [prC_below l c pos]
    have:(l.filter fun b=>decide (b < c))=[]:=List.filter_eq_nil_iff.mpr fun b hb z=>by
     simp only [decide_eq_true_eq] at z
     have:b ∈ l':=by rw [←hl]; exact List.mem_filter.mpr ⟨hb,by simp; omega⟩
     have:=all b this
     omega
    rw [this]
    rfl
   omega
 have:=tab64 (l.countP fun a=>decide (2 * a < K)) (by omega) (l.countP fun a=>decide (K < 2 * a)) (by omega) (l.countP fun a=>decide (2 * a=K)) z7 (by omega)
 omega
end
section
variable {n m:Nat} {U:Nat→Int} {W:Nat→Nat→Int}
abbrev knL (ks:List Tr):List Nat:=ks.map Tr.knots
structure Cnt (d K:Nat) (ks:List Tr):Prop where
 one:(knL ks).countP (fun a=>decide (a=1))≤1+d
 st:∀ a,2≤a→a < K→(knL ks).countP (fun b=>decide (b=a))≤prC (knL ks) (knL ks) a
theorem Cnt.start (d:Nat):Cnt d 1 []:=⟨Nat.zero_le _,fun a h1 h2=>by omega⟩
theorem kn_pos (ks:List Tr):∀ a ∈ knL ks,0 < a:=fun a ha=>by
 obtain ⟨t,_,rfl⟩:=List.mem_map.mp ha
 exact knots_pos t
theorem cnt_app {K a:Nat} {new k0:List Tr} (hn:∀ t ∈ new,t.knots=K) (ha:a≠K):(knL (new++k0)).countP (fun b=>decide (b=a))=(knL k0).countP fun b=>decide (b=a):=by
 unfold knL
 rw [List.map_append,List.countP_append]
 have:(new.map Tr.knots).countP (fun b=>decide (b=a))=0:=List.countP_eq_zero.mpr fun b hb=>by
  obtain ⟨t,ht,rfl⟩:=List.mem_map.mp hb
  rw [hn t ht]
  simp; omega
 omega
theorem prC_app {K a:Nat} {new k0:List Tr} (hn:∀ t ∈ new,t.knots=K) (ha:a≤K):prC (knL (new++k0)) (knL (new++k0)) a=prC (knL k0) (knL k0) a:=by
 rw [prC_below _ _ (kn_pos _),prC_below _ _ (kn_pos k0)]
 have:(knL (new++k0)).filter (fun b=>decide (b < a))=(knL k0).filter fun b=>decide (b < a):=by
  unfold knL
  rw [List.map_append,List.filter_append]
  have:(new.map Tr.knots).filter (fun b=>decide (b < a))=[]:=List.filter_eq_nil_iff.mpr fun b hb=>by
   obtain ⟨t,ht,rfl⟩:=List.mem_map.mp hb
   rw [hn t ht]
   simp; omega
  rw [this]; rfl
 rw [this]
theorem Cnt.next {d K:Nat} {k0 S ks:List Tr} {ps ps0:List Nat} (C:Cnt d K k0) (h0:Srch n m U W K k0 ps0) (M:Mid n m U W K k0 S ks ps) (hS:2≤K→S.length=prC (knL k0) (knL k0) K) (h1:K=1→S.length≤1+d):Cnt d (K+1) ks:=by
 obtain ⟨new,rfl,l,k⟩:=M.ap
 have own:(knL (new++k0)).countP (fun b=>decide (b=K))≤new.length:=by
  unfold knL
  rw [List.map_append,List.countP_append]
  have z:(k0.map Tr.knots).countP (fun b=>decide (b=K))=0:=List.countP_eq_zero.mpr fun b hb=>by
   obtain ⟨t,ht,rfl⟩:=List.mem_map.mp hb
   have:=h0.kn t ht
   simp; omega
  have:=List.countP_le_length (p:=fun b=>decide (b=K)) (l:=new.map Tr.knots)
  rw [List.length_map] at this
  omega
 refine ⟨?_,fun a ha hK=>?_⟩
 ·by_cases e:K=1
  ·subst e
   have:=h1 rfl
   omega
  ·rw [cnt_app k (Ne.symm e)]
   exact C.one
 ·rw [prC_app k (by omega)]
  by_cases e:a=K
  ·subst e
   have:=hS ha
   omega
  ·rw [cnt_app k e]
   exact C.st a ha (by omega)
theorem Cnt.few {K:Nat} {ks:List Tr} {ps:List Nat} {ws:List Int} (S:Srch n m U W K ks ps) (C:Cnt ws.length K ks) (hN:n+m≤12) (hN0:0 < n+m) (nd:ws.Nodup) (hw:∀ c ∈ ws,∃ q,q < n+m∧U q=c) (h4:ws.length≤4):prC (knL ks) (knL ks) K < 64:=by
 have most:=S.most hN0
 refine few_pairs (kn_pos ks) (by rw [List.length_map]; omega) (Nat.le_trans C.one (by omega)) (fun a h1 h2=>C.st a h1 h2) fun h3=>?_
 rw [List.length_map]
 have d2:2≤ws.length:=by have:=C.one; omega
 match ws,nd,hw,d2 with
 | a :: b :: r,nd,hw,_ =>
  obtain ⟨p,hp,rfl⟩:=hw a List.mem_cons_self
  obtain ⟨q,hq,rfl⟩:=hw b (List.mem_cons_of_mem _ List.mem_cons_self)
  have ne:U p≠U q:=fun z=>(List.nodup_cons.mp nd).1 (by rw [z]; exact List.mem_cons_self)
  have:=S.two hp hq ne
  omega
end
section
variable {N:Nat} {U:Nat→Int} {W:Nat→Nat→Int}
theorem smF_bd {n b:Nat} {f:Nat→Int} (h:∀ i < n,(f i).natAbs≤b):(SmF n f).natAbs≤n * b:=by
 induction n with
 | zero=>rw [smF_zero,Nat.zero_mul]; exact Nat.le_refl _
 | succ n ih =>
  rw [smF_succ,Nat.add_mul,Nat.one_mul]
  have:=ih fun i hi=>h i (by omega)
  have:=h n (by omega)
  omega
theorem nr_bd (hN:N≤16) (hW:∀ q,q < N→∀ v,v < N→(W q v).natAbs≤2 ^ 72) {y:Rw} {k:Nat} (hy:∀ v,v < N→(y v).natAbs≤2 ^ (76 * k)) {q:Nat} (hq:q < N):(Nr N W y q).natAbs≤2 ^ (76 * (k+1)):=by
 have h:=smF_bd (n:=N) (b:=2 ^ 72 * 2 ^ (76 * k)) (f:=fun v=>W q v * y v) fun v hv=>by
  rw [Int.natAbs_mul]
  exact Nat.mul_le_mul (hW q hq v hv) (hy v hv)
 refine Nat.le_trans h (Nat.le_trans (Nat.mul_le_mul_right _ hN) (Nat.le_of_eq ?_))
 rw [show 76 * (k+1)=4+(72+76 * k) by omega,Nat.pow_add 2 4,Nat.pow_add 2 72]
mutual
theorem val_bd (hN:N≤16) (hW:∀ q,q < N→∀ v,v < N→(W q v).natAbs≤2 ^ 72):∀ (t:Tr) (q:Nat),q < N→(Tr.val N U W t q).natAbs≤2 ^ (76 * (t.knots - 1))
 | .nd w bs,q,hq=>by
  have h:=vals_bd hN hW bs q hq
  have e:(Tr.nd w bs).knots - 1=Tr.knotss bs:=by show 1+Tr.knotss bs - 1=_; omega
  rw [e]
  show (indF U w q * Tr.vals N U W bs q).natAbs≤_
  rw [Int.natAbs_mul]
  have i:(indF U w q).natAbs≤1:=by
   cases w with
   | none=>exact Nat.le_refl _
   | some c=>show (if U q=c then (1:Int) else 0).natAbs≤1; split <;> decide
  have:=Nat.mul_le_mul i h
  omega
theorem vals_bd (hN:N≤16) (hW:∀ q,q < N→∀ v,v < N→(W q v).natAbs≤2 ^ 72):∀ (ts:List Tr) (q:Nat),q < N→(Tr.vals N U W ts q).natAbs≤2 ^ (76 * Tr.knotss ts)
 | [],_,_=>by show (1:Int).natAbs≤2 ^ (76 * 0); decide
 | t :: ts,q,hq=>by
  have h1:=nr_bd hN hW (fun v hv=>val_bd hN hW t v hv) hq
  have h2:=vals_bd hN hW ts q hq
  have p:=knots_pos t
  show (Nr N W (Tr.val N U W t) q * Tr.vals N U W ts q).natAbs≤2 ^ (76 * (t.knots+Tr.knotss ts))
  rw [Int.natAbs_mul,Nat.mul_add,Nat.pow_add]
  rw [show t.knots - 1+1=t.knots by omega] at h1
  exact Nat.mul_le_mul h1 h2
end
theorem bk_sum:∀ {ks:List Tr},Bk ks→(ks.map Tr.knots).sum < 2 ^ ks.length
 | [],_=>by decide
 | t :: ks,⟨h1,_,h3⟩=>by
  have:=bk_sum h3
  rw [List.map_cons,List.sum_cons,List.length_cons,Nat.pow_succ]
  omega
theorem bd_rows (hN:N≤16) (hW:∀ q,q < N→∀ v,v < N→(W q v).natAbs≤2 ^ 72):∀ ks:List Tr,Bd N (ks.map (Tr.val N U W)) (ks.map fun t=>2 ^ (76 * t.knots))
 | []=>trivial
 | t :: ks=>⟨fun q hq=>Nat.le_trans (val_bd hN hW t q hq) (Nat.pow_le_pow_right (by decide) (by omega)),bd_rows hN hW ks⟩
theorem pd_rows:∀ ks:List Tr,Pd (ks.map fun t=>2 ^ (76 * t.knots))=2 ^ (76 * (ks.map Tr.knots).sum)
 | []=>rfl
 | t :: ks=>by
  show 2 ^ (76 * t.knots) * Pd (ks.map fun t=>2 ^ (76 * t.knots))=_
  rw [pd_rows ks,List.map_cons,List.sum_cons,Nat.mul_add,Nat.pow_add]
theorem fc_le:∀ k,k≤12→Fc k≤2 ^ 29:=by decide
theorem rest_bn (hN:N≤12) (hW:∀ q,q < N→∀ v,v < N→(W q v).natAbs≤2 ^ 72) {ks:List Tr} {ps:List Nat} (f:Free (ks.map (Tr.val N U W)) ps) (lt:∀ p ∈ ps,p < N) (bk:Bk ks) (hl:ks.length≤11) {t:Tr} (ht:t.knots≤2 ^ 11) {q:Nat} (hq:q < N) :
  M11.Bn 400000 (Dt (q :: ps) (Tr.val N U W t :: ks.map (Tr.val N U W))):=by
 have l:=f.len
 rw [List.length_map] at l
 have h:=dt_bd (q :: ps) (Tr.val N U W t :: ks.map (Tr.val N U W)) (2 ^ (76 * t.knots) :: ks.map fun t=>2 ^ (76 * t.knots)) (fun c hc=>by
  cases hc with
  | head=>exact hq
  | tail _ hc=>exact lt c hc) (bd_rows (by omega) hW (t :: ks)) (by simp [l])
 have e:Pd (2 ^ (76 * t.knots) :: ks.map fun t=>2 ^ (76 * t.knots))=2 ^ (76 * (t.knots+(ks.map Tr.knots).sum)):=pd_rows (t :: ks)
 rw [e] at h
 have s:=bk_sum bk
 have s2:2 ^ ks.length≤2 ^ 11:=Nat.pow_le_pow_right (by decide) hl
 have c:=fc_le (q :: ps).length (by rw [List.length_cons]; omega)
 have k:76 * (t.knots+(ks.map Tr.knots).sum)≤76 * 4096:=by
  have:(2:Nat) ^ 11=2048:=by decide
  omega
 show _ < 2 ^ 400000
 refine Nat.lt_of_le_of_lt h (Nat.lt_of_le_of_lt (Nat.mul_le_mul c (Nat.pow_le_pow_right (by decide) k)) ?_)
 rw [←Nat.pow_add]
 exact Nat.pow_lt_pow_right (by decide) (by decide)
theorem val_bn (hN:N≤12) (hW:∀ q,q < N→∀ v,v < N→(W q v).natAbs≤2 ^ 72) {t:Tr} (ht:t.knots≤4096) {q:Nat} (hq:q < N):M11.Bn 400000 (Tr.val N U W t q):=by
 show _ < 2 ^ 400000
 refine Nat.lt_of_le_of_lt (val_bd (by omega) hW t q hq) (Nat.pow_lt_pow_right (by decide) (by omega))
theorem near_bn (hN:N≤12) (hW:∀ q,q < N→∀ v,v < N→(W q v).natAbs≤2 ^ 72) {t:Tr} (ht:t.knots≤4096) {q:Nat} (hq:q < N):M11.Bn 400000 (Nr N W (Tr.val N U W t) q):=by
 show _ < 2 ^ 400000
 refine Nat.lt_of_le_of_lt (nr_bd (by omega) hW (fun v hv=>val_bd (by omega) hW t v hv) hq) (Nat.pow_lt_pow_right (by decide) (by omega))
end
section
variable {hs hs':List Int} {M M':List (List Int)} {n m:Nat}
theorem ent_here (h1:M.length=n) (r1:∀ x ∈ M,x.length=n) {x y:Nat} (hx:x < n):ent (besM n m M M') x y=if y < n then ent M x y else 0:=by
 obtain ⟨ws,ew⟩:=get_lt (l:=M) (i:=x) (by omega)
 have eb:(besM n m M M')[x]? = some (ws++List.replicate m 0):=by
  unfold besM
  rw [List.getElem?_append_left (by rw [List.length_map]; omega),List.getElem?_map,ew]
  rfl
 have lw:=r1 ws (List.mem_of_getElem? ew)
 unfold ent
 rw [eb,ew]
 show ((ws++List.replicate m 0)[y]?).getD 0=if y < n then (ws[y]?).getD 0 else 0
 by_cases hy:y < n
 ·rw [if_pos hy,List.getElem?_append_left (by omega)]
 ·rw [if_neg hy,List.getElem?_append_right (by omega),List.getElem?_replicate]
  split <;> rfl
theorem ent_there (h1:M.length=n) (h2:M'.length=m) {x y:Nat} (hx:x < m):ent (besM n m M M') (n+x) y=if y < n then 0 else ent M' x (y - n):=by
 obtain ⟨ws,ew⟩:=get_lt (l:=M') (i:=x) (by omega)
 have eb:(besM n m M M')[n+x]? = some (List.replicate n 0++ws):=by
  unfold besM
  rw [List.getElem?_append_right (by rw [List.length_map]; omega),List.length_map,h1,Nat.add_sub_cancel_left,List.getElem?_map,ew]
  rfl
 unfold ent
 rw [eb,ew]
 show ((List.replicate n 0++ws)[y]?).getD 0=if y < n then 0 else (ws[y - n]?).getD 0
 by_cases hy:y < n
 ·rw [if_pos hy,List.getElem?_append_left (by rw [List.length_replicate]; omega),List.getElem?_replicate,if_pos hy]
  rfl
 ·rw [if_neg hy,List.getElem?_append_right (by rw [List.length_replicate]; omega),List.length_replicate]
theorem smF_app (n m:Nat) (f:Nat→Int):SmF (n+m) f=SmF n f+SmF m fun q=>f (n+q):=by
 induction m with
 | zero=>rw [smF_zero,Int.add_zero]; rfl
 | succ m ih=>rw [←Nat.add_assoc,smF_succ,smF_succ,ih]; omega
theorem hue_left (h:hs.length=n) {x:Nat} (hx:x < n):hueF (hs++hs') x=hueF hs x:=by
 unfold hueF
 rw [List.getElem?_append_left (by omega)]
theorem hue_right (h:hs.length=n) (x:Nat):hueF (hs++hs') (n+x)=hueF hs' x:=by
 unfold hueF
 rw [List.getElem?_append_right (by omega),h,Nat.add_sub_cancel_left]
theorem nr_left (h1:M.length=n) (r1:∀ x ∈ M,x.length=n) {y z:Rw} (e:∀ v,v < n→y v=z v) {x:Nat} (hx:x < n):Nr (n+m) (ent (besM n m M M')) y x=Nr n (ent M) z x:=by
 unfold Nr
 rw [smF_app]
 have a:SmF m (fun q=>ent (besM n m M M') x (n+q) * y (n+q))=0:=(smF_congr fun q _=>by rw [ent_here h1 r1 hx,if_neg (by omega),Int.zero_mul]).trans (smF_nil m)
 rw [a,Int.add_zero]
 exact smF_congr fun v hv=>by rw [ent_here h1 r1 hx,if_pos hv,e v hv]
theorem nr_right (h1:M.length=n) (h2:M'.length=m) {y z:Rw} (e:∀ v,v < m→y (n+v)=z v) {x:Nat} (hx:x < m):Nr (n+m) (ent (besM n m M M')) y (n+x)=Nr m (ent M') z x:=by
 unfold Nr
 rw [smF_app]
 have a:SmF n (fun q=>ent (besM n m M M') (n+x) q * y q)=0:=(smF_congr fun q hq=>by rw [ent_there h1 h2 hx,if_pos hq,Int.zero_mul]).trans (smF_nil n)
 rw [a,Int.zero_add]
 exact smF_congr fun v hv=>by rw [ent_there h1 h2 hx,if_neg (by omega),Nat.add_sub_cancel_left,e v hv]
theorem ind_eq {U U':Nat→Int} {x y:Nat} (h:U x=U' y) (w:Option Int):indF U w x=indF U' w y:=by
 cases w with
 | none=>rfl
 | some c=>show (if U x=c then (1:Int) else 0)=if U' y=c then 1 else 0; rw [h]
mutual
theorem val_left (h:hs.length=n) (h1:M.length=n) (r1:∀ x ∈ M,x.length=n):∀ (t:Tr) (x:Nat),x < n→Tr.val (n+m) (hueF (hs++hs')) (ent (besM n m M M')) t x=Tr.val n (hueF hs) (ent M) t x
 | .nd w bs,x,hx=>by
  show indF _ w x * Tr.vals _ _ _ bs x=indF _ w x * Tr.vals _ _ _ bs x
  rw [vals_left h h1 r1 bs x hx,ind_eq (hue_left h hx) w]
theorem vals_left (h:hs.length=n) (h1:M.length=n) (r1:∀ x ∈ M,x.length=n):∀ (ts:List Tr) (x:Nat),x < n→Tr.vals (n+m) (hueF (hs++hs')) (ent (besM n m M M')) ts x=Tr.vals n (hueF hs) (ent M) ts x
 | [],_,_=>rfl
 | t :: ts,x,hx=>by
  show Nr _ _ _ x * Tr.vals _ _ _ ts x=Nr _ _ _ x * Tr.vals _ _ _ ts x
  rw [vals_left h h1 r1 ts x hx,nr_left h1 r1 (fun v hv=>val_left h h1 r1 t v hv) hx]
end
mutual
theorem val_right (h:hs.length=n) (h1:M.length=n) (h2:M'.length=m):∀ (t:Tr) (x:Nat),x < m→Tr.val (n+m) (hueF (hs++hs')) (ent (besM n m M M')) t (n+x)=Tr.val m (hueF hs') (ent M') t x
 | .nd w bs,x,hx=>by
  show indF _ w (n+x) * Tr.vals _ _ _ bs (n+x)=indF _ w x * Tr.vals _ _ _ bs x
  rw [vals_right h h1 h2 bs x hx,ind_eq (hue_right h x) w]
theorem vals_right (h:hs.length=n) (h1:M.length=n) (h2:M'.length=m):∀ (ts:List Tr) (x:Nat),x < m→Tr.vals (n+m) (hueF (hs++hs')) (ent (besM n m M M')) ts (n+x)=Tr.vals m (hueF hs') (ent M') ts x
 | [],_,_=>rfl
 | t :: ts,x,hx=>by
  show Nr _ _ _ (n+x) * Tr.vals _ _ _ ts (n+x)=Nr _ _ _ x * Tr.vals _ _ _ ts x
  rw [vals_right h h1 h2 ts x hx,nr_right h1 h2 (fun v hv=>val_right h h1 h2 t v hv) hx]
end
def trow (hs:List Int) (M:List (List Int)) (n:Nat) (t:Tr):List Int:=(List.range n).map (Tr.val n (hueF hs) (ent M) t)
theorem trow_len (hs:List Int) (M:List (List Int)) (n:Nat) (t:Tr):(trow hs M n t).length=n:=by unfold trow; rw [List.length_map,List.length_range]
theorem tau_rows (h:hs.length=n) (h1:M.length=n) (r1:∀ x ∈ M,x.length=n) (h2:M'.length=m) (t:Tr):tauF n m (Tr.val (n+m) (hueF (hs++hs')) (ent (besM n m M M')) t)=(trow hs M n t).sum - (trow hs' M' m t).sum:=by
 unfold tauF
 rw [smF_congr fun q hq=>val_left (hs':=hs') (M':=M') (m:=m) h h1 r1 t q hq,smF_congr fun q hq=>val_right (hs':=hs') (M':=M') (m:=m) h h1 h2 t q hq]
 rfl
theorem ent_bes (S:SqN n M) (S':SqN m M') {q v:Nat} (hq:q < n+m):(ent (besM n m M M') q v).natAbs≤2 ^ 72:=by
 have w:∀ {k:Nat} {A:List (List Int)},SqN k A→∀ i j,(ent A i j).natAbs≤2 ^ 72:=fun {k A} S i j=>by
  unfold ent
  cases e:A[i]? with
  | none=>show ((([]:List Int)[j]?).getD 0).natAbs≤_; exact Nat.zero_le _
  | some x =>
   show ((x[j]?).getD 0).natAbs≤_
   cases e2:x[j]? with
   | none=>exact Nat.zero_le _
   | some z=>exact Nat.le_trans ((S.row i x e).2 z (List.mem_of_getElem? e2)) (by decide)
 by_cases h:q < n
 ·rw [ent_here S.len (fun x hx=>by obtain ⟨i,hi⟩:=List.mem_iff_getElem?.mp hx; exact (S.row i x hi).1) h]
  split
  ·exact w S _ _
  ·exact Nat.zero_le _
 ·obtain ⟨x,rfl⟩:∃ x,q=n+x:=⟨q - n,by omega⟩
  rw [ent_there S.len S'.len (by omega)]
  split
  ·exact Nat.zero_le _
  ·exact w S' _ _
end
section
variable {P:Program} {w:World} {K:PySem.W.Frag} {mg:Str→Option Value} {base:Heap}
def dWish:Option Int→PyData
 | none=>.none
 | some c=>.int c
def vWish:Option Int→V
 | none=>.non
 | some c=>.int c
mutual
def Tr.dat:Tr→PyData
 | .nd w bs=>.tuple [dWish w,.list (Tr.dats bs)]
def Tr.dats:List Tr→List PyData
 | []=>[]
 | t :: ts=>t.dat :: Tr.dats ts
end
theorem Tr.deeps_get {d:Nat}:∀ {ts:List Tr} {i:Nat} {t:Tr},Tr.deeps ts≤d→ts[i]? = some t→t.deep≤d
 | t' :: ts,0,t,h,e=>by
  rw [Tr.deeps] at h
  cases e
  omega
 | t' :: ts,i+1,t,h,e=>by
  rw [Tr.deeps] at h
  exact Tr.deeps_get (ts:=ts) (i:=i) (by omega) (by simpa using e)
theorem Tr.knotss_get {d:Nat}:∀ {ts:List Tr} {i:Nat} {t:Tr},Tr.knotss ts≤d→ts[i]? = some t→t.knots≤d
 | t' :: ts,0,t,h,e=>by
  rw [Tr.knotss] at h
  cases e
  omega
 | t' :: ts,i+1,t,h,e=>by
  rw [Tr.knotss] at h
  exact Tr.knotss_get (ts:=ts) (i:=i) (by omega) (by simpa using e)
theorem Tr.knotss_len:∀ ts:List Tr,ts.length≤Tr.knotss ts
 | []=>Nat.zero_le _
 | t :: ts=>by
  rw [Tr.knotss,List.length_cons]
  have:=knots_pos t
  have:=Tr.knotss_len ts
  omega
theorem Tr.dats_len:∀ ts:List Tr,(Tr.dats ts).length=ts.length
 | []=>by rw [Tr.dats]; rfl
 | t :: ts=>by rw [Tr.dats,List.length_cons,List.length_cons,Tr.dats_len ts]
theorem Tr.dats_get:∀ (ts:List Tr) (i:Nat),(Tr.dats ts)[i]? = (ts[i]?).map Tr.dat
 | [],i=>by rw [Tr.dats]; simp
 | t :: ts,0=>by rw [Tr.dats]; rfl
 | t :: ts,i+1=>by rw [Tr.dats]; simpa using Tr.dats_get ts i
abbrev Nw (H:Hp) (a:Addr):Prop:=H a=none
theorem DA.same {ok:Addr→Prop} {H H':Hp} {v:V} {d:PyData} (h:DA K ok H v d) (s:Same H H'):DA K ok H' v d:=h.mono s.keep fun _ x=>x
theorem DAs.get {ok:Addr→Prop} {H:Hp}:∀ {ys:List V} {ds:List PyData},DAs K ok H ys ds→ys.length=ds.length∧∀ (i:Nat) (x:V),ys[i]? = some x→∃ d,ds[i]? = some d∧DA K ok H x d
 | _,_,.nil=>⟨rfl,fun i x h=>by cases h⟩
 | _,_,.cons a r=>by
  obtain ⟨h1,h2⟩:=DAs.get r
  refine ⟨by rw [List.length_cons,List.length_cons,h1],fun i x h=>?_⟩
  cases i with
  | zero=>cases h; exact ⟨_,rfl,a⟩
  | succ i=>exact h2 i x (by simpa using h)
theorem tree_at {ok:Addr→Prop} {H:Hp} {p:Addr} {w:Option Int} {bs:List Tr} (h:DA K ok H (.ref p) (Tr.nd w bs).dat):∃ l ys,SqT K H p [vWish w,.ref l]∧SqL K H l ys∧ys.length=bs.length∧∀ (i:Nat) (x:V),ys[i]? = some x→∃ t,bs[i]? = some t∧DA K ok H x t.dat:=by
 rw [Tr.dat] at h
 cases h with
 | tup _ hs r =>
  cases r with
  | cons r1 r =>
   cases r with
   | cons r2 r =>
    cases r
    cases r2 with
    | lst _ hl q =>
     obtain ⟨q1,q2⟩:=DAs.get q
     rw [Tr.dats_len] at q1
     refine ⟨_,_,?_,hl,q1,fun i x hx=>?_⟩
     ·cases w with
      | none=>cases r1; exact hs
      | some c=>cases r1; exact hs
     ·obtain ⟨d,e,z⟩:=q2 i x hx
      rw [Tr.dats_get] at e
      obtain ⟨t,e1,rfl⟩:=Option.map_eq_some_iff.mp e
      exact ⟨t,e1,z⟩
theorem tree_ref {ok:Addr→Prop} {H:Hp} {v:V}:∀ {t:Tr},DA K ok H v t.dat→∃ p,v=.ref p
 | .nd w bs,h=>by
  rw [Tr.dat] at h
  cases h
  exact ⟨_,rfl⟩
theorem small5000 {n:Nat} (h:n≤5000):n < sizeLine:=Nat.lt_of_le_of_lt h (by decide)
end
section
variable {P:Program} {w:World} {K:PySem.W.Frag} {mg:Str→Option Value} {base:Heap}
def But (a:Addr) (H H':Hp):Prop:=∀ b o,b≠a→H b=some o→H' b=some o
theorem But.upd {a:Addr} {H:Hp} {o:HO}:But a H (L2.upd H a o):=fun b o n e=>by rw [upd_ne n]; exact e
structure ClsS (K:PySem.W.Frag) (C:Addr):Prop where
 cl:Cls K C
 tr:NoAttr K C "tree"
 kn:NoAttr K C "knots"
 dp:NoAttr K C "depth"
 rw:NoAttr K C "row"
 rs:NoAttr K C "rest"
abbrev sprF (vt:V) (k d:Nat) (ra sa:Addr):List (Str × V):=[("tree",vt),("knots",.int (k:Int)),("depth",.int (d:Int)),("row",.ref ra),("rest",.ref sa)]
def spInitS (C:Addr):Sp:=fun vs H Q _=>∃ (a dx ra:Addr) (vt:V) (k d:Nat),vs=[.ref a,vt,.int (k:Int),.int (d:Int),.ref ra]∧H a=some (.ins C dx [])∧∀ H',But a H H'→H' a=some (.ins C dx (sprF vt k d ra ra))→Q .non H'
abbrev aInitS:List Str:=["self","tree","knots","depth","row"]
theorem scInitS:FnScope aInitS aInitS (defScope sInitS):=by constructor<;>first|rfl|decide +kernel
theorem ok_initS {f C:Addr} {fd:FuncData} (T:ClsS K C) (F:Fun K "__init__" "Sprout.__init__" sInitS f fd):FnOk P w K mg base CX0 1 f fd aInitS (spInitS C):=by
 refine F.ok scInitS (fun vs H Q E h=>?_) (fun cdv A outer s H vs Q E hr h=>?_)
 ·obtain ⟨a,dx,ra,vt,k,d,rfl,_⟩:=h
  rfl
 ·obtain ⟨a,dx,ra,vt,k,d,rfl,e,q⟩:=h
  refine ⟨_,pss_cons (ps_fld (pv 0) (pv 1) rfl) (pss_cons (ps_fld (pv 0) (pv 2) rfl) (pss_cons (ps_fld (pv 0) (pv 3) rfl) (pss_cons (ps_fld (pv 0) (pv 4) rfl) (pss_one (ps_fld (pv 0) (pv 4) rfl))))),?_⟩
  refine ⟨_,rfl,_,rfl,a,C,dx,_,rfl,e,T.cl,T.tr,by decide,?_⟩
  refine ⟨_,rfl,_,rfl,a,C,dx,_,rfl,upd_same,T.cl,T.kn,(by show 1 < 1000; decide),?_⟩
  rw [upd_upd]
  refine ⟨_,rfl,_,rfl,a,C,dx,_,rfl,upd_same,T.cl,T.dp,(by show 2 < 1000; decide),?_⟩
  rw [upd_upd]
  refine ⟨_,rfl,_,rfl,a,C,dx,_,rfl,upd_same,T.cl,T.rw,(by show 3 < 1000; decide),?_⟩
  rw [upd_upd]
  refine ⟨_,rfl,_,rfl,a,C,dx,_,rfl,upd_same,T.cl,T.rs,(by show 4 < 1000; decide),?_⟩
  rw [upd_upd]
  exact q _ But.upd upd_same
def Tr.wi:Tr→Option Int
 | .nd w _=>w
def Tr.bo:Tr→List Tr
 | .nd _ bs=>bs
theorem Tr.eta (t:Tr):t=.nd t.wi t.bo:=by cases t; rfl
mutual
inductive TrAt (Z:Addr→Prop) (H:Hp):V→Tr→Prop
 | nd {p l:Addr} {w:Option Int} {ys:List V} {bs:List Tr}:Z p→Z l→H p=some (.tup [vWish w,.ref l])→H l=some (.lst ys)→TrsAt Z H ys bs→TrAt Z H (.ref p) (.nd w bs)
inductive TrsAt (Z:Addr→Prop) (H:Hp):List V→List Tr→Prop
 | nil:TrsAt Z H [] []
 | cons {v:V} {t:Tr} {vs:List V} {ts:List Tr}:TrAt Z H v t→TrsAt Z H vs ts→TrsAt Z H (v :: vs) (t :: ts)
end
def Chg (S:Addr→Prop) (H H':Hp):Prop:=∀ b o,¬ S b→H b=some o→H' b=some o
theorem not_in {Z S:Addr→Prop} {H:Hp} (hS:∀ b,S b→(∃ C dx fs,H b=some (.ins C dx fs)) ∨ ¬ Z b) {x:Addr} {o:HO} (zx:Z x) (e:H x=some o) (no:∀ C dx fs,o≠.ins C dx fs):¬ S x:=fun sx=>by
 rcases hS x sx with ⟨C,dx,fs,e'⟩ | n
 ·rw [e] at e'; exact no C dx fs (Option.some.inj e')
 ·exact n zx
mutual
theorem TrAt.chg {Z S:Addr→Prop} {H H':Hp} (c:Chg S H H') (hS:∀ b,S b→(∃ C dx fs,H b=some (.ins C dx fs)) ∨ ¬ Z b):∀ {v:V} {t:Tr},TrAt Z H v t→TrAt Z H' v t
 | _,_,.nd z1 z2 h1 h2 h3=>.nd z1 z2 (c _ _ (not_in hS z1 h1 (fun _ _ _ z=>by cases z)) h1) (c _ _ (not_in hS z2 h2 (fun _ _ _ z=>by cases z)) h2) (TrsAt.chg c hS h3)
theorem TrsAt.chg {Z S:Addr→Prop} {H H':Hp} (c:Chg S H H') (hS:∀ b,S b→(∃ C dx fs,H b=some (.ins C dx fs)) ∨ ¬ Z b):∀ {vs:List V} {ts:List Tr},TrsAt Z H vs ts→TrsAt Z H' vs ts
 | _,_,.nil=>.nil
 | _,_,.cons a r=>.cons (TrAt.chg c hS a) (TrsAt.chg c hS r)
end
theorem TrsAt.same {Z:Addr→Prop} {H H':Hp} {vs:List V} {ts:List Tr} (h:TrsAt Z H vs ts) (s:Same H H'):TrsAt Z H' vs ts:=h.chg (S:=fun _=>False) (fun b o _ e=>s b o e) fun _ z=>z.elim
theorem TrsAt.snoc {Z:Addr→Prop} {H:Hp} {v:V} {t:Tr}:∀ {vs:List V} {ts:List Tr},TrsAt Z H vs ts→TrAt Z H v t→TrsAt Z H (vs++[v]) (ts++[t])
 | _,_,.nil,h=>.cons h .nil
 | _,_,.cons a r,h=>.cons a (r.snoc h)
theorem TrsAt.len {Z:Addr→Prop} {H:Hp}:∀ {vs:List V} {ts:List Tr},TrsAt Z H vs ts→vs.length=ts.length
 | _,_,.nil=>rfl
 | _,_,.cons _ r=>by rw [List.length_cons,List.length_cons,r.len]
theorem da_wish {ok:Addr→Prop} {H:Hp} (w:Option Int):DA K ok H (vWish w) (dWish w):=by
 cases w with
 | none=>exact .non
 | some c=>exact .int c
mutual
theorem TrAt.da {Z:Addr→Prop} {H:Hp}:∀ {v:V} {t:Tr},TrAt Z H v t→DA K any H v t.dat
 | _,_,.nd _ _ h1 h2 h3=>.tup trivial (SqT.of h1) (.cons (da_wish _) (.cons (.lst trivial (SqL.of h2) (TrsAt.da h3)) .nil))
theorem TrsAt.da {Z:Addr→Prop} {H:Hp}:∀ {vs:List V} {ts:List Tr},TrsAt Z H vs ts→DAs K any H vs (Tr.dats ts)
 | _,_,.nil=>.nil
 | _,_,.cons a r=>.cons (TrAt.da a) (TrsAt.da r)
end
structure Spr (C:Addr) (Z:Addr→Prop) (H:Hp) (a:Addr) (t:Tr) (row rest:List Int):Prop where
 ex:∃ (dx p l:Addr) (ys:List V) (ra sa:Addr),H a=some (.ins C dx (sprF (.ref p) t.knots t.deep ra sa))∧H p=some (.tup [vWish t.wi,.ref l])∧H l=some (.lst ys)∧TrsAt Z H ys t.bo∧H ra=some (.lst (row.map V.int))∧H sa=some (.lst (rest.map V.int))∧Z p∧Z l∧Z ra∧Z sa
theorem Spr.chg {C:Addr} {Z S:Addr→Prop} {H H':Hp} {a:Addr} {t:Tr} {row rest:List Int} (Sp:Spr C Z H a t row rest) (c:Chg S H H') (na:¬ S a) (hS:∀ b,S b→(∃ C dx fs,H b=some (.ins C dx fs)) ∨ ¬ Z b):Spr C Z H' a t row rest:=by
 obtain ⟨dx,p,l,ys,ra,sa,h1,h2,h3,h4,h5,h6,z1,z2,z3,z4⟩:=Sp.ex
 exact ⟨dx,p,l,ys,ra,sa,c _ _ na h1,c _ _ (not_in hS z1 h2 (fun _ _ _ z=>by cases z)) h2,c _ _ (not_in hS z2 h3 (fun _ _ _ z=>by cases z)) h3,h4.chg c hS,c _ _ (not_in hS z3 h5 (fun _ _ _ z=>by cases z)) h5,c _ _ (not_in hS z4 h6 (fun _ _ _ z=>by cases z)) h6,z1,z2,z3,z4⟩
theorem Spr.mono {C:Addr} {Z:Addr→Prop} {H H':Hp} {a:Addr} {t:Tr} {row rest:List Int} (S:Spr C Z H a t row rest) (s:Same H H'):Spr C Z H' a t row rest:=S.chg (S:=fun _=>False) (fun b o _ e=>s b o e) (fun z=>z) fun _ z=>z.elim
theorem Spr.tree {C:Addr} {Z:Addr→Prop} {H:Hp} {p l:Addr} {ys:List V} {t:Tr} (zp:Z p) (zl:Z l) (h2:H p=some (.tup [vWish t.wi,.ref l])) (h3:H l=some (.lst ys)) (h4:TrsAt Z H ys t.bo):TrAt Z H (.ref p) t:=by
 rw [t.eta]
 exact .nd zp zl h2 h3 h4
end
section
variable {P:Program} {w:World} {K:PySem.W.Frag} {mg:Str→Option Value} {base:Heap}
mutual
theorem TrAt.weak {Z Z':Addr→Prop} {H:Hp} (hZ:∀ x,Z x→H x≠none→Z' x):∀ {v:V} {t:Tr},TrAt Z H v t→TrAt Z' H v t
 | _,_,.nd z1 z2 h1 h2 h3=>.nd (hZ _ z1 (by rw [h1]; exact nofun)) (hZ _ z2 (by rw [h2]; exact nofun)) h1 h2 (TrsAt.weak hZ h3)
theorem TrsAt.weak {Z Z':Addr→Prop} {H:Hp} (hZ:∀ x,Z x→H x≠none→Z' x):∀ {vs:List V} {ts:List Tr},TrsAt Z H vs ts→TrsAt Z' H vs ts
 | _,_,.nil=>.nil
 | _,_,.cons a r=>.cons (TrAt.weak hZ a) (TrsAt.weak hZ r)
end
def spCopy (K:PySem.W.Frag) (d:Nat):Sp:=fun vs H Q _=>∃ (v:V) (t:Tr),vs=[v]∧DA K any H v t.dat∧t.deep≤d∧t.knots≤5000∧∀ u H',Same H H'→TrAt (Nw H) H' u t→Q u H'
theorem scCopy:FnScope ["tree"] ["tree"] (defScope sCopied):=by constructor<;>first|rfl|decide +kernel
theorem lcCopy:LcScope (defScope sCopied) ["tree"] (lcScope (tupAt (asgVal (bodyAt sCopied 0)) 1)) "bough":=by constructor<;>first|rfl|decide +kernel
theorem ok_copied {f:Addr} {fd:FuncData} (D:Dn K mg "copied" sCopied ["tree"] f fd):∀ d:Nat,FnOk P w K mg base CX0 (d+1) f fd ["tree"] (spCopy K d):=by
 intro d
 induction d with
 | zero =>
  refine D.fn.ok scCopy (fun vs H Q E h=>?_) (fun cdv A outer s H vs Q E hr h=>?_)
  ·obtain ⟨v,t,rfl,_⟩:=h
   rfl
  ·obtain ⟨v,t,rfl,_,h,_⟩:=h
   have:=deep_pos t
   omega
 | succ d G =>
  refine D.fn.ok scCopy (fun vs H Q E h=>?_) (fun cdv A outer s H vs Q E hr h=>?_)
  ·obtain ⟨v,t,rfl,_⟩:=h
   rfl
  ·obtain ⟨v,t,rfl,hT,hd,hk,q⟩:=h
   obtain ⟨p,rfl⟩:=tree_ref hT
   cases t with
   | nd wi bs =>
    rw [Tr.deep] at hd
    rw [Tr.knots] at hk
    have hd':Tr.deeps bs≤d:=by omega
    have hk':Tr.knotss bs≤5000:=by omega
    have hbl:=Tr.knotss_len bs
    obtain ⟨l,ys,hp,hl,hlen,hys⟩:=tree_at hT
    refine ⟨_,pss_one (ps_ret (pe_tup (pa_cons (pe_ix ix_tup (pv 0) pe_int (fun _ _=>rfl)) (pa_cons (pe_lc rfl lcCopy rfl (pi_list (pe_ix ix_tup (pv 0) pe_int (fun _ _=>rfl))) (fun _ _ _=>pe_fn D G hr rfl (pa_cons (pv 1) pa_nil))) pa_nil)))),?_⟩
    refine ⟨_,rfl,p,_,_,_,rfl,rfl,hp,rfl,_,rfl,p,_,_,_,rfl,rfl,hp,rfl,l,rfl,⟨_,hl⟩,fun L hL=>?_⟩
    refine lc_list (xs:=ys) (fun i zs H'=>Same H H'∧TrsAt (fun a=>Nw H a∧a≠L) H' zs (bs.take i)∧zs.length=i∧H' L=some (.lst zs)) ⟨Same.upd hL,by rw [List.take_zero]; exact .nil,rfl,upd_same⟩ (fun i zs H' _ ⟨s1,_,_,e⟩=>⟨Same.sq s1 hl,e⟩) ?_ ?_ ?_
    ·rintro i x zs H1 hx ⟨s1,d1,l1,e1⟩
     obtain ⟨t,ht,hxt⟩:=hys i x hx
     have hi:i < bs.length:=(List.getElem?_eq_some_iff.mp ht).1
     refine ⟨_,rfl,x,t,rfl,DA.same hxt s1,Tr.deeps_get hd' ht,Tr.knotss_get hk' ht,fun u H2 s2 d2=>?_⟩
     refine ⟨s2 _ _ e1,small5000 (by omega),fun b o e=>?_,?_,by rw [List.length_append,l1]; rfl,upd_same⟩
     ·rw [upd_ne (ne_of_none e hL)]
      exact s2 _ _ (s1 _ _ e)
     ·rw [take_snoc ht]
      have k2:TrsAt (fun a=>Nw H a∧a≠L) H2 (zs++[u]) (bs.take i++[t]):=(d1.same s2).snoc (d2.weak fun a h _=>⟨s1.free h,(ne_of_none e1 h).symm⟩)
      exact k2.chg (S:=fun b=>b=L) (fun b o nb e=>by rw [upd_ne nb]; exact e) fun b z=>.inr fun h=>h.2 z
    ·rintro zs H1 ⟨s1,d1,l1,e1⟩
     rw [hlen,List.take_length] at d1
     refine ⟨(by show 2≤sizeLine; decide),fun t2 ht2=>?_⟩
     have s2:Same H1 (L2.upd H1 t2 (.tup [vWish wi,.ref L])):=Same.upd ht2
     refine q _ _ (s1.trans s2) ?_
     exact .nd (s1.free ht2) hL upd_same (s2 _ _ e1) ((d1.same s2).weak fun _ h _=>h.1)
    ·rintro σ H' Q1 Q2 hq ⟨v,e,x,t,a1,a2,a3,a4,g⟩
     exact ⟨v,e,x,t,a1,a2,a3,a4,fun u H2 s2 d2=>hq _ _ (g u H2 s2 d2)⟩
end
section
variable {P:Program} {w:World} {K:PySem.W.Frag} {mg:Str→Option Value} {base:Heap}
structure BltS (mg:Str→Option Value):Prop where
 len:mg "len" = none
 sum:mg "sum" = none
 zip:mg "zip" = none
 enum:mg "enumerate" = none
 max:mg "max" = none
 sorted:mg "sorted" = none
 set:mg "set" = none
theorem zipW_map (f g:Nat→Int):∀ l:List Nat,List.zipWith (fun a b=>a * b) (l.map f) (l.map g)=l.map fun x=>f x * g x
 | []=>rfl
 | a :: l=>by rw [List.map_cons,List.map_cons,List.zipWith_cons_cons,zipW_map f g l,List.map_cons]
theorem near_rows {N:Nat} {hs:List Int} {M:List (List Int)} (hM:M.length=N) (hr:∀ x ∈ M,x.length=N) (t:Tr):(M.map fun w=>TM.dot w (trow hs M N t))=(List.range N).map (Nr N (ent M) (Tr.val N (hueF hs) (ent M) t)):=by
 apply List.ext_getElem?
 intro i
 by_cases hi:i < N
 ·obtain ⟨ws,ew⟩:=get_lt (l:=M) (i:=i) (by omega)
  rw [List.getElem?_map,ew,rng_get _ hi]
  show some (TM.dot ws _)=some (Nr N (ent M) _ i)
  congr 1
  have e:=row_rng ew (hr ws (List.mem_of_getElem? ew))
  unfold TM.dot trow
  rw [e,zipW_map]
  rfl
 ·rw [List.getElem?_eq_none (by rw [List.length_map]; omega),List.getElem?_eq_none (by rw [List.length_map,List.length_range]; omega)]
def Tr.with (t t':Tr):Tr:=.nd t.wi (t.bo++[t'])
theorem with_knots (t t':Tr):(t.with t').knots=t.knots+t'.knots:=by rw [t.eta]; exact knots_snoc _ _ _
theorem with_deep (t t':Tr):(t.with t').deep=max t.deep (t'.deep+1):=by rw [t.eta]; exact deep_snoc _ _ _
structure Bth (H:Hp) (wA:Addr) (N:Nat) (hs:List Int) (M:List (List Int)):Prop where
 gr:GrdAt H wA (gI M)
 hl:hs.length=N
 len:M.length=N
 row:∀ x ∈ M,x.length=N
 le:N≤12
 bd:∀ q,q < N→∀ v,v < N→(ent M q v).natAbs≤2 ^ 72
theorem Bth.mono {H H':Hp} {wA:Addr} {N:Nat} {hs:List Int} {M:List (List Int)} (B:Bth H wA N hs M) (s:Same H H'):Bth H' wA N hs M:=⟨B.gr.mono s,B.hl,B.len,B.row,B.le,B.bd⟩
theorem Bth.bn {H:Hp} {wA:Addr} {N:Nat} {hs:List Int} {M:List (List Int)} (B:Bth H wA N hs M) {x:List Int} (hx:x ∈ M):∀ z ∈ x,M11.Bn 400000 z:=fun z hz=>by
 obtain ⟨i,hi⟩:=List.mem_iff_getElem?.mp hx
 have l:=B.row x hx
 rw [row_rng hi l] at hz
 obtain ⟨v,hv,rfl⟩:=List.mem_map.mp hz
 have:=B.bd i (by have:=lt_get hi; rw [B.len] at this; exact this) v (List.mem_range.mp hv)
 exact Nat.lt_of_le_of_lt this (Nat.pow_lt_pow_right (by decide) (by decide))
theorem Bth.rowBn {H:Hp} {wA:Addr} {N:Nat} {hs:List Int} {M:List (List Int)} (B:Bth H wA N hs M) {t:Tr} (ht:t.knots≤4096):∀ z ∈ trow hs M N t,M11.Bn 400000 z:=fun z hz=>by
 obtain ⟨v,hv,rfl⟩:=List.mem_map.mp hz
 exact val_bn B.le B.bd ht (List.mem_range.mp hv)
theorem lc_zipN {a b:Addr} {xs ys:List V} {te:TE} {Q:VK} {σ:L2.St} {n:Nat} {H1:Hp} (vs:List V) (hn:σ.length=n) (hx:SqL K H1 a xs) (hy:SqL K H1 b ys) (hlx:xs.length=vs.length) (hly:ys.length=vs.length) (hm:vs.length≤900)
  (hs:∀ (i:Nat) (x y v:V) (H':Hp),xs[i]? = some x→ys[i]? = some y→vs[i]? = some v→Same H1 H'→te (σ++[some x,some y]) H' fun u H3=>u=v∧Same H' H3)
  (hd:∀ D H',Same H1 H'→H1 D=none→H' D=some (.lst vs)→Q (.ref D) H')
  (mono:∀ σ H Q Q',(∀ v H1,Q v H1→Q' v H1)→te σ H Q→te σ H Q'):LcW 2 (Itz K a b) (g2 K n) tYes te σ H1 Q:=by
 subst hn
 intro D hD
 refine ⟨fun i m zs H'=>m=vs.length - i∧i≤vs.length∧zs=vs.take i∧Same H1 H'∧H' D=some (.lst zs),⟨vs.length,by simp,Nat.zero_le _,by rw [List.take_zero],Same.upd hD,upd_same⟩,?_⟩
 rintro i m zs H2 ⟨rfl,hi,rfl,s2,eD⟩
 refine ⟨eD,?_⟩
 by_cases hlt:i < vs.length
 ·have ex:xs[i]? = some xs[i]:=List.getElem?_eq_getElem (by omega)
  have ey:ys[i]? = some ys[i]:=List.getElem?_eq_getElem (by omega)
  have ev:vs[i]? = some vs[i]:=List.getElem?_eq_getElem hlt
  refine .inr ⟨⟨xs,ys,_,_,Same.sq s2 hx,Same.sq s2 hy,ex,ey⟩,?_⟩
  rintro z H3 ⟨t,x,y,rfl,ht,rfl,hx',hy'⟩ os los
  have hx1:=hx' xs (Same.sq s2 hx)
  have hy1:=hy' ys (Same.sq s2 hy)
  match os,los with
  | [o1,o2],_ =>
   have s3:Same H2 (L2.upd H2 t (.tup [x,y])):=Same.upd ht
   refine ⟨t,[x,y],rfl,SqT.of upd_same,rfl,x,[y],rfl,y,[],rfl,rfl,⟨[some x,some y],set2 σ o1 o2 x y,rfl⟩,?_⟩
   dsimp only [tYes]
   rw [if_pos rfl,set2 σ o1 o2 x y]
   refine mono _ _ _ _ ?_ (hs i x y vs[i] _ hx1 hy1 ev (s2.trans s3))
   rintro u H5 ⟨rfl,s5⟩
   refine ⟨s5 _ _ (s3 _ _ eD),small1000 (by rw [List.length_take]; omega),vs.length - (i+1),by omega,rfl,hlt,by rw [take_snoc ev],fun c o e=>?_,upd_same⟩
   rw [upd_ne (ne_of_none e hD)]
   exact s5 _ _ (s3 _ _ (s2 _ _ e))
 ·have:i=vs.length:=by omega
  subst this
  rw [List.take_length] at eD ⊢
  exact .inl ⟨⟨xs,ys,Same.sq s2 hx,Same.sq s2 hy,.inl (by omega)⟩,hd D H2 s2 hD eD⟩
def spBough (K:PySem.W.Frag) (C:Addr):Sp:=fun vs H Q _=>∃ (Z:Addr→Prop) (a b wA:Addr) (t t':Tr) (N:Nat) (hs:List Int) (M:List (List Int)) (r r':List Int),vs=[.ref a,.ref b,.ref wA]∧Bth H wA N hs M∧Spr C Z H a t (trow hs M N t) r∧Spr C Z H b t' (trow hs M N t') r'∧t.knots≤4096∧t'.knots≤4096∧(∀ x,H x=none→Z x) ∧
 ∀ c H',Same H H'→H c=none→Spr C Z H' c (t.with t') (trow hs M N (t.with t')) (trow hs M N (t.with t'))→Q (.ref c) H'
abbrev nBough:List Str:=["sprout","bough","weights","tree","near","row"]
abbrev aBough:List Str:=["sprout","bough","weights"]
theorem scBough:FnScope nBough aBough (defScope sBough):=by constructor<;>first|rfl|decide +kernel
theorem lcBough:LcScopes (defScope sBough) nBough (lcScope (asgVal (bodyAt sBough 2))) ["number","other"]:=by constructor<;>first|rfl|decide +kernel
theorem boot_max:bootBuiltins "max" = some (.builtin "max"):=by decide +kernel
theorem row_snoc {N:Nat} {hs:List Int} {M:List (List Int)} (t t':Tr):trow hs M N (t.with t')=List.zipWith (fun a b=>a * b) (trow hs M N t) ((List.range N).map (Nr N (ent M) (Tr.val N (hueF hs) (ent M) t'))):=by
 obtain ⟨wi,bs⟩:=t
 show trow hs M N (.nd wi (bs++[t']))=_
 unfold trow
 rw [zipW_map,val_snoc]
end
section
variable {P:Program} {w:World} {K:PySem.W.Frag} {mg:Str→Option Value} {base:Heap}
theorem ok_bough {f fE fI C:Addr} {fd fdE fdI:FuncData} (B:BltS mg) (T:ClsS K C) (F:Fun K "with_bough" "with_bough" sBough f fd) (DE:Dn K mg "sums_with_each" sEach ["numbers","rows"] fE fdE) (GE:FnOk P w K mg base CX0 2 fE fdE ["numbers","rows"] spEachG)
  (hC:mg "Sprout" = some (.ref C)) (MK:Mk K C fI) (bI:Binds K fdI aInitS []) (GI:FnOk P w K mg base CX0 1 fI fdI aInitS (spInitS C)):FnOk P w K mg base CX0 3 f fd aBough (spBough K C):=by
 refine F.ok scBough (fun vs H Q E h=>?_) (fun cdv A outer s H vs Q E hr h=>?_)
 ·obtain ⟨Z,a,b,wA,t,t',N,hs,M,r,r',rfl,_⟩:=h
  rfl
 ·obtain ⟨zz,a,b,wA,t,t',N,hs,M,r,r',rfl,Z,S1,S2,k1,k2,hz,q⟩:=h
  obtain ⟨dx,p,l,ys,ra,sa,h1,h2,h3,h4,h5,h6,z1,z2,z3,z4⟩:=S1.ex
  obtain ⟨dx',p',l',ys',ra',sa',g1,g2,g3,g4,g5,g6,y1,y2,y3,y4⟩:=S2.ex
  refine ⟨_,pss_cons (ps_set (i:=3) scBough.nd rfl (Or.inl rfl) (pe_tup (pa_cons (pe_ix ix_tup (pe_fld (pv 0) rfl) pe_int (fun _ _=>rfl)) (pa_cons (pe_op op_cat (pe_ix ix_tup (pe_fld (pv 0) rfl) pe_int (fun _ _=>rfl)) (pe_lst (pa_cons (pe_fld (pv 1) rfl) pa_nil))) pa_nil))))
   (pss_cons (ps_set (i:=4) scBough.nd rfl (Or.inl rfl) (pe_fn DE GE hr rfl (pa_cons (pe_fld (pv 1) rfl) (pa_cons (pv 2) pa_nil))))
   (pss_cons (ps_setLcs (i:=5) scBough.nd rfl (Or.inl rfl) rfl lcBough rfl (pi_zip rfl B.zip (pa_cons (pe_fld (pv 0) rfl) (pa_cons (pv 4) pa_nil))) (pg_two rfl lcBough) (fun _ _ _=>pts_nil) (fun _ _ _=>pe_op op_mulN (pv 6) (pv 7)))
   (pss_one (ps_ret (pe_make MK GI (hr.mono (by decide)) rfl hC bI .nil pass0 (pa_cons (pv 3) (pa_cons (pe_op op_add (pe_fld (pv 0) rfl) (pe_fld (pv 1) rfl)) (pa_cons (pe_callB (call_max2 rfl) (by rfl) B.max boot_max (pa_cons (pe_fld (pv 0) rfl) (pa_cons (pe_op op_add (pe_fld (pv 1) rfl) pe_int) pa_nil))) (pa_cons (pv 5) pa_nil))))))))),?_⟩
  have ly:ys.length=t.bo.length:=h4.len
  have lb:t.bo.length≤4096:=by
   have:=Tr.knotss_len t.bo
   have e:t.knots=1+Tr.knotss t.bo:=by rw [t.eta]; rfl
   omega
  refine ⟨_,rfl,a,C,dx,_,_,rfl,h1,T.cl,T.tr,rfl,p,_,_,_,rfl,rfl,SqT.of h2,rfl,?_⟩
  refine ⟨_,rfl,a,C,dx,_,_,rfl,h1,T.cl,T.tr,rfl,p,_,_,_,rfl,rfl,SqT.of h2,rfl,?_⟩
  refine ⟨_,rfl,b,C,dx',_,_,rfl,g1,T.cl,T.tr,rfl,?_⟩
  refine ⟨(by show 1≤sizeLine; decide),fun x hx=>?_⟩
  have sx:Same H (L2.upd H x (.lst [.ref p'])):=Same.upd hx
  refine ⟨l,x,ys,[.ref p'],rfl,rfl,sx _ _ h3,upd_same,Nat.le_of_lt (small5000 (by rw [ly]; show _+1≤_; omega)),fun y hy=>?_⟩
  have sy:=sx.trans (Same.upd (o:=.lst (ys++[.ref p'])) hy)
  refine ⟨(by show 2≤sizeLine; decide),fun tp htp=>?_⟩
  have st:=sy.trans (Same.upd (o:=.tup [vWish t.wi,.ref y]) htp)
  generalize hA:L2.upd (L2.upd (L2.upd H x (.lst [.ref p'])) y (.lst (ys++[.ref p']))) tp (.tup [vWish t.wi,.ref y])=A1 at st
  have ey:A1 y=some (.lst (ys++[.ref p'])):=by rw [←hA]; exact (Same.upd htp) _ _ upd_same
  have et:A1 tp=some (.tup [vWish t.wi,.ref y]):=by rw [←hA]; exact upd_same
  have Z1:=Z.mono st
  refine ⟨_,rfl,b,C,dx',_,_,rfl,st _ _ g1,T.cl,T.rw,rfl,_,rfl,wA,ra',M,trow hs M N t',400000,rfl,Z1.gr,st _ _ g5,by rw [Z.len]; have:=Z.le; omega,by rw [trow_len]; have:=Z.le; omega,by decide,fun x hx=>⟨by rw [Z.row x hx,trow_len],Z.bn hx⟩,Z.rowBn k2,fun nA H2 s2 nN eN=>?_⟩
  rw [near_rows Z.len Z.row] at eN
  have s02:=st.trans s2
  refine ⟨_,rfl,a,C,dx,_,_,rfl,s02 _ _ h1,T.cl,T.rw,rfl,_,rfl,ra,nA,rfl,⟨_,SqL.of (s02 _ _ h5)⟩,⟨_,SqL.of eN⟩,?_⟩
  refine lc_zipN ((trow hs M N (t.with t')).map V.int) rfl (SqL.of (s02 _ _ h5)) (SqL.of eN) (by rw [List.length_map,List.length_map,trow_len,trow_len]) (by rw [List.length_map,List.length_map,List.length_map,List.length_range,trow_len]) (by rw [List.length_map,trow_len]; have:=Z.le; omega) ?_ ?_ ?_
  ·intro i x y v H' hx hy hv s'
   obtain ⟨x,ex,rfl⟩:=map_get hx
   obtain ⟨y,ey,rfl⟩:=map_get hy
   obtain ⟨z,ez,rfl⟩:=map_get hv
   rw [row_snoc,zip_get ex ey] at ez
   cases ez
   obtain ⟨hi,ey2⟩:=rng_some ey
   exact ⟨_,rfl,_,rfl,_,_,rfl,rfl,⟨400000,by decide,Z.rowBn k1 x (List.mem_of_getElem? ex),by rw [ey2]; exact near_bn Z.le Z.bd k2 hi⟩,rfl,Same.refl _⟩
  ·intro rA H3 s3 nR eR
   have s03:=s02.trans s3
   refine ⟨_,rfl,_,rfl,a,C,dx,_,_,rfl,s03 _ _ h1,T.cl,T.kn,rfl,_,rfl,b,C,dx',_,_,rfl,s03 _ _ g1,T.cl,T.kn,rfl,_,_,rfl,rfl,?_⟩
   refine ⟨_,rfl,a,C,dx,_,_,rfl,s03 _ _ h1,T.cl,T.dp,rfl,_,rfl,b,C,dx',_,_,rfl,s03 _ _ g1,T.cl,T.dp,rfl,_,_,rfl,rfl,_,_,rfl,?_⟩
   refine ⟨_,rfl,fun c cx hc hcx hne=>?_⟩
   have sc:Same H3 (L2.upd (L2.upd H3 cx (.own c)) c (.ins C cx [])):=fun b o e=>by rw [upd_ne (ne_of_none e hc),upd_ne (ne_of_none e hcx)]; exact e
   refine ⟨c,cx,rA,.ref tp,(t.with t').knots,(t.with t').deep,?_,upd_same,fun H4 b4 e4=>⟨rfl,?_⟩⟩
   ·have e1:(((t.with t').knots:Nat):Int)=(t.knots:Int)+(t'.knots:Int):=by rw [with_knots]; omega
    have e2:(((t.with t').deep:Nat):Int)=if ((t'.deep:Int)+1) > (t.deep:Int) then (t'.deep:Int)+1 else (t.deep:Int):=by rw [with_deep]; split <;> omega
    rw [e1,e2]
    rfl
   ·have s4:Same H3 H4:=fun x o e=>b4 x o (ne_of_none e hc) (sc x o e)
    have s04:=s03.trans s4
    refine q c H4 s04 (s03.free hc) ⟨cx,tp,y,ys++[.ref p'],rA,rA,e4,(s2.trans (s3.trans s4)) _ _ et,(s2.trans (s3.trans s4)) _ _ ey,?_,s4 _ _ eR,s4 _ _ eR,hz _ (sy.free htp),hz _ (sx.free hy),hz _ (s02.free nR),hz _ (s02.free nR)⟩
    exact (h4.same s04).snoc (Spr.tree (C:=C) y1 y2 (s04 _ _ g2) (s04 _ _ g3) (g4.same s04))
  ·rintro σ H' Q1 Q2 hq ⟨v,e,v',e',i,j,a1,a2,a3,g⟩
   exact ⟨v,e,v',e',i,j,a1,a2,a3,hq _ _ g⟩
end
section
variable {P:Program} {w:World} {K:PySem.W.Frag} {mg:Str→Option Value} {base:Heap}
def nzN (xs:List Int) (k:Nat):List Nat:=(List.range k).filter fun i=>decide ((xs[i]?).getD 0≠0)
def fpN (xs:List Int):Option Nat:=(nzN xs xs.length).head?
def fpV (xs:List Int):V:=match fpN xs with
 | none=>.non
 | some p=>.int (p:Int)
theorem fp_none {xs:List Int} (h:fpN xs=none):∀ z ∈ xs,z=0:=fun z hz=>by
 obtain ⟨i,hi⟩:=List.mem_iff_getElem?.mp hz
 have e:nzN xs xs.length=[]:=List.head?_eq_none_iff.mp h
 have:=List.filter_eq_nil_iff.mp e i (List.mem_range.mpr (lt_get hi))
 rw [hi] at this
 simpa using this
theorem fp_some {xs:List Int} {p:Nat} (h:fpN xs=some p):∃ z,xs[p]? = some z∧z≠0:=by
 have m:p ∈ nzN xs xs.length:=List.mem_of_mem_head? (by rw [Option.mem_def]; exact h)
 obtain ⟨h1,h2⟩:=List.mem_filter.mp m
 obtain ⟨z,hz⟩:=get_lt (List.mem_range.mp h1)
 refine ⟨z,hz,?_⟩
 rw [hz] at h2
 simpa using h2
theorem lc_enumF {a:Addr} {xs:List Int} {N:Nat} {tt:TT} {te:TE} {σ:L2.St} {H1:Hp} {Q:VK} (hN:σ.length=N) (ha:SqL K H1 a (xs.map V.int)) (hz:xs.length≤900)
  (ht:∀ (i:Nat) (z:Int) (H':Hp) (R:Bool→Hp→Prop),xs[i]? = some z→R (decide (z≠0)) H'→tt (σ++[some (.int (i:Int)),some (.int z)]) H' R) (he:∀ (i:Nat) (z:Int) (H':Hp) (R:VK),R (.int (i:Int)) H'→te (σ++[some (.int (i:Int)),some (.int z)]) H' R)
  (hd:∀ (D:Addr) (H':Hp),Same H1 H'→H' D=some (.lst ((nzN xs xs.length).map fun (i:Nat)=>V.int (i:Int)))→Q (.ref D) H'):LcW 2 (Ite K a) (g2 K N) tt te σ H1 Q:=by
 subst hN
 intro D hD
 refine ⟨fun i m ys H'=>m=xs.length - i∧i≤xs.length∧ys=(nzN xs i).map (fun (i:Nat)=>V.int (i:Int))∧Same H1 H'∧H' D=some (.lst ys),⟨xs.length,by simp,Nat.zero_le _,rfl,Same.upd hD,upd_same⟩,?_⟩
 rintro i m ys H2 ⟨rfl,hi,rfl,s2,eD⟩
 refine ⟨eD,?_⟩
 by_cases hlt:i < xs.length
 ·obtain ⟨z,hv⟩:=get_lt hlt
  have hv':(xs.map V.int)[i]? = some (.int z):=by rw [List.getElem?_map,hv]; rfl
  refine .inr ⟨⟨_,_,Same.sq s2 ha,hv'⟩,?_⟩
  rintro y H3 ⟨t,x,rfl,htn,rfl,hx⟩ os los
  have hx':=hx _ (Same.sq s2 ha)
  rw [hv'] at hx'
  cases hx'
  match os,los with
  | [o1,o2],_ =>
   have s3:Same H2 (L2.upd H2 t (.tup [.int (i:Int),.int z])):=Same.upd htn
   refine ⟨t,_,rfl,SqT.of upd_same,rfl,_,_,rfl,_,_,rfl,rfl,⟨[some (.int (i:Int)),some (.int z)],set2 σ o1 o2 _ _,rfl⟩,?_⟩
   rw [set2 σ o1 o2 _ _]
   have sn:nzN xs (i+1)=nzN xs i++(if z≠0 then [i] else []):=by
    unfold nzN
    rw [List.range_succ,List.filter_append]
    congr 1
    by_cases e:z≠0
    ·rw [if_pos e,List.filter_cons_of_pos (by rw [hv]; simpa using e)]; rfl
    ·rw [if_neg e,List.filter_cons_of_neg (by rw [hv]; simpa using e)]; rfl
   have lr:(nzN xs i).length≤i:=by
    refine Nat.le_trans (List.length_filter_le _ _) ?_
    rw [List.length_range]; omega
   refine ht i z _ _ hv ?_
   by_cases e:z≠0
   ·rw [if_pos e] at sn
    rw [decide_eq_true e,if_pos rfl]
    refine he i z _ _ ⟨s3 _ _ eD,small1000 (by rw [List.length_map]; omega),xs.length - (i+1),by omega,rfl,hlt,by rw [sn,List.map_append]; rfl,(fun b o e=>by rw [upd_ne (ne_of_none e hD)]; exact s3 _ _ (s2 _ _ e)),upd_same⟩
   ·rw [if_neg e,List.append_nil] at sn
    rw [decide_eq_false e,if_neg (by decide)]
    exact ⟨xs.length - (i+1),by omega,rfl,hlt,by rw [sn],s2.trans s3,s3 _ _ eD⟩
 ·have:i=xs.length:=by omega
  subst this
  exact .inl ⟨⟨_,Same.sq s2 ha,by rw [List.length_map]; exact Nat.le_refl _⟩,hd D H2 s2 eD⟩
def spFirst (K:PySem.W.Frag):Sp:=fun vs H Q _=>∃ (a:Addr) (xs:List Int),vs=[.ref a]∧SqL K H a (xs.map V.int)∧xs.length≤900∧∀ H',Same H H'→Q (fpV xs) H'
abbrev nFirst:List Str:=["row","places"]
theorem scFirst:FnScope nFirst ["row"] (defScope sFirst):=by constructor<;>first|rfl|decide +kernel
theorem lcFirst:LcScopes (defScope sFirst) nFirst (lcScope (asgVal (bodyAt sFirst 0))) ["place","number"]:=by constructor<;>first|rfl|decide +kernel
theorem ok_first {f:Addr} {fd:FuncData} (B:BltS mg) (F:Fun K "first_place_not_nought" "first_place_not_nought" sFirst f fd):FnOk P w K mg base CX0 1 f fd ["row"] (spFirst K):=by
 refine F.ok scFirst (fun vs H Q E h=>?_) (fun cdv A outer s H vs Q E hr h=>?_)
 ·obtain ⟨a,xs,rfl,_⟩:=h
  rfl
 ·obtain ⟨a,xs,rfl,hx,hz,q⟩:=h
  refine ⟨_,pss_cons (ps_setLcs (i:=1) scFirst.nd rfl (Or.inl rfl) rfl lcFirst rfl (pi_enum rfl B.enum (pa_cons (pv 0) pa_nil)) (pg_two rfl lcFirst) (fun _ _ _=>pts_one (pt_cmpR op_ne (pv 3) pe_int (nomark _))) (fun _ _ _=>pv 2))
   (pss_one (ps_ret (pe_ifExp (pt_truth (pv 1) (fun _=>rfl)) (pe_ix ix_list (pv 1) pe_int (fun _ _=>rfl)) pe_non))),?_⟩
  refine ⟨_,rfl,a,rfl,⟨_,hx⟩,?_⟩
  refine lc_enumF rfl hx hz (fun i z H' R hi hR=>?_) (fun i z H' R hR=>⟨_,rfl,hR⟩) (fun D H' s' eD=>?_)
  ·refine ⟨_,rfl,rfl,?_⟩
   have e:decide (z≠0)=!decide (V.int z=V.int 0):=by
    rw [Bool.eq_iff_iff,Bool.not_eq_true',decide_eq_true_iff,decide_eq_false_iff_not]
    exact ⟨fun n y=>n (V.int.inj y),fun n y=>n (by rw [y])⟩
   rw [e] at hR
   exact ⟨_,rfl,hR⟩
  ·refine ⟨_,rfl,_,.inl ⟨_,SqL.of eD,rfl⟩,?_⟩
   have qq:=q H' s'
   unfold fpV fpN at qq
   cases e:nzN xs xs.length with
   | nil =>
    rw [e] at qq
    exact iteF (by exact qq)
   | cons p r =>
    rw [e] at qq eD
    refine iteT ⟨_,rfl,D,_,_,_,rfl,rfl,SqL.of eD,at_hd _ _,qq⟩
end
section
variable {P:Program} {w:World} {K:PySem.W.Frag} {mg:Str→Option Value} {base:Heap}
structure Sprs (C:Addr) (Z:Addr→Prop) (H:Hp) (as:List Addr) (ts:List Tr) (row:Tr→List Int):Prop where
 len:as.length=ts.length
 at':∀ (i:Nat) (a:Addr) (t:Tr),as[i]? = some a→ts[i]? = some t→∃ r,Spr C Z H a t (row t) r
theorem Sprs.mono {C:Addr} {Z:Addr→Prop} {H H':Hp} {as:List Addr} {ts:List Tr} {row:Tr→List Int} (S:Sprs C Z H as ts row) (s:Same H H'):Sprs C Z H' as ts row:=⟨S.len,fun i a t h1 h2=>let ⟨r,h⟩:=S.at' i a t h1 h2; ⟨r,h.mono s⟩⟩
theorem tau_row {n m:Nat} {hs:List Int} {M:List (List Int)} (t:Tr):((trow hs M (n+m) t).take n).sum - ((trow hs M (n+m) t).drop n).sum=tauF n m (Tr.val (n+m) (hueF hs) (ent M) t):=by
 unfold trow tauF
 rw [range_take,range_drop]
 rfl
def spUnlike (C:Addr):Sp:=fun vs H Q _=>∃ (Z:Addr→Prop) (l:Addr) (as:List Addr) (ts:List Tr) (n m:Nat) (hs:List Int) (M:List (List Int)),vs=[.ref l,.int (n:Int)]∧H l=some (.lst (as.map V.ref))∧Sprs C Z H as ts (trow hs M (n+m))∧n+m≤900 ∧
 (∀ H',Same H H'→(∀ t ∈ ts,tauF n m (Tr.val (n+m) (hueF hs) (ent M) t)=0)→Q .non H')∧∀ H' (i:Nat) (a:Addr) (t:Tr),Same H H'→as[i]? = some a→ts[i]? = some t→tauF n m (Tr.val (n+m) (hueF hs) (ent M) t)≠0→Q (.ref a) H'
abbrev nUnlike:List Str:=["sprouts","ahead","sprout"]
theorem scUnlike:FnScope nUnlike ["sprouts","ahead"] (defScope sUnlike):=by constructor<;>first|rfl|decide +kernel
theorem ok_unlike {f C:Addr} {fd:FuncData} (B:BltS mg) (T:ClsS K C) (F:Fun K "first_unlike" "first_unlike" sUnlike f fd):FnOk P w K mg base CX0 1 f fd ["sprouts","ahead"] (spUnlike C):=by
 refine F.ok scUnlike (fun vs H Q E h=>?_) (fun cdv A outer s H vs Q E hr h=>?_)
 ·obtain ⟨Z,l,as,ts,n,m,hs,M,rfl,_⟩:=h
  rfl
 ·obtain ⟨Z,l,as,ts,n,m,hs,M,rfl,hl,S,hN,q0,q1⟩:=h
  refine ⟨_,pss_cons (ps_for PassesOwn.never rfl (pi_list (pv 0)) (pg_name (i:=2) scUnlike.nd rfl (Or.inl rfl))
    (pss_one (ps_if (pt_cmpR op_ne (pe_callB (call_sum rfl) (by rfl) B.sum boot_sum (pa_cons (pe_slice sl_list (pe_fld (pv 2) rfl) po_none (po_some (pv 1))) pa_nil)) (pe_callB (call_sum rfl) (by rfl) B.sum boot_sum (pa_cons (pe_slice sl_list (pe_fld (pv 2) rfl) (po_some (pv 1)) po_none) pa_nil)) (nomark _)) (pss_one (ps_ret (pv 2))) pss_nil)))
   (pss_one (ps_ret pe_non)),?_⟩
  refine ⟨_,rfl,l,rfl,⟨_,SqL.of hl⟩,for_list (K:=K) (xs:=as.map V.ref) (fun i σ H'=>∃ o2:Option V,σ=[some (.ref l),some (.int (n:Int)),o2]∧Same H H'∧∀ t ∈ ts.take i,tauF n m (Tr.val (n+m) (hueF hs) (ent M) t)=0) ⟨none,rfl,Same.refl _,fun t h=>by rw [List.take_zero] at h; cases h⟩ (fun i σ H' _ ⟨_,_,s1,_⟩=>Same.sq s1 (SqL.of hl)) ?_ ?_⟩
  ·rintro i x σ H1 hx ⟨o2,rfl,s1,al⟩
   obtain ⟨a,ha,rfl⟩:=map_get hx
   obtain ⟨t,ht⟩:=get_lt (l:=ts) (i:=i) (by rw [←S.len]; exact lt_get ha)
   obtain ⟨r,Sa⟩:=S.at' i a t ha ht
   obtain ⟨dx,p,tl,ys,ra,sa,h1,h2,h3,h4,h5,h6,_⟩:=(Sa.mono s1).ex
   have ln:=trow_len hs M (n+m) t
   refine ⟨_,rfl,a,C,dx,_,_,rfl,h1,T.cl,T.rw,rfl,_,rfl,(n:Int),rfl,ra,_,rfl,SqL.of h5,fun b hb=>?_⟩
   rw [cut_take _ n (by rw [ln]; omega)]
   have s2:Same H1 (L2.upd H1 b (.lst (((trow hs M (n+m) t).take n).map V.int))):=Same.upd hb
   refine ⟨b,_,rfl,SqL.of upd_same,?_⟩
   refine ⟨_,rfl,a,C,dx,_,_,rfl,s2 _ _ h1,T.cl,T.rw,rfl,_,rfl,(n:Int),rfl,ra,_,rfl,SqL.of (s2 _ _ h5),fun c hc=>?_⟩
   rw [cut_drop _ n (by rw [ln]; omega)]
   have s3:=s2.trans (Same.upd (o:=.lst (((trow hs M (n+m) t).drop n).map V.int)) hc)
   refine ⟨c,_,rfl,SqL.of upd_same,rfl,?_⟩
   have tr:=tau_row (n:=n) (m:=m) (hs:=hs) (M:=M) t
   generalize ((trow hs M (n+m) t).take n).sum=u at tr ⊢
   generalize ((trow hs M (n+m) t).drop n).sum=v at tr ⊢
   by_cases e:u=v
   ·have d:(!decide (V.int u=V.int v))=false:=by rw [e]; simp
    refine ⟨_,rfl,?_⟩
    rw [d]
    refine iteF ?_
    refine ⟨_,rfl,s1.trans s3,fun t' h'=>?_⟩
    rw [take_snoc ht] at h'
    rcases List.mem_append.mp h' with h' | h'
    ·exact al t' h'
    ·rw [List.mem_singleton.mp h',←tr]; omega
   ·have d:(!decide (V.int u=V.int v))=true:=by rw [decide_eq_false (fun z=>e (V.int.inj z))]; rfl
    refine ⟨_,rfl,?_⟩
    rw [d]
    refine iteT ?_
    exact ⟨_,rfl,q1 _ i a t (s1.trans s3) ha ht (by rw [←tr]; omega)⟩
  ·rintro σ H1 ⟨o2,rfl,s1,al⟩
   rw [List.length_map,S.len,List.take_length] at al
   exact q0 H1 s1 al
end
section
variable {P:Program} {w:World} {K:PySem.W.Frag} {mg:Str→Option Value} {base:Heap}
def rstF (hs:List Int) (M:List (List Int)) (N:Nat) (ks:List Tr) (ps:List Nat) (t:Tr) (q:Nat):Int:=Dt (q :: ps.reverse) (Tr.val N (hueF hs) (ent M) t :: (ks.map (Tr.val N (hueF hs) (ent M))).reverse)
def rstL (hs:List Int) (M:List (List Int)) (N:Nat) (ks:List Tr) (ps:List Nat) (t:Tr):List Int:=(List.range N).map (rstF hs M N ks ps t)
def dvF (hs:List Int) (M:List (List Int)) (N:Nat) (ks:List Tr) (ps:List Nat):Int:=Dt ps.reverse (ks.map (Tr.val N (hueF hs) (ent M))).reverse
theorem rstL_nil (hs:List Int) (M:List (List Int)) (N:Nat) (t:Tr):rstL hs M N [] [] t=trow hs M N t:=by
 unfold rstL trow
 refine List.map_congr_left fun q _=>?_
 show Tr.val N (hueF hs) (ent M) t q * 1 - 0=_
 omega
theorem rstL_len (hs:List Int) (M:List (List Int)) (N:Nat) (ks:List Tr) (ps:List Nat) (t:Tr):(rstL hs M N ks ps t).length=N:=by unfold rstL; rw [List.length_map,List.length_range]
structure KeptAt (C:Addr) (Z:Addr→Prop) (H:Hp) (hs:List Int) (M:List (List Int)) (N:Nat) (as:List Addr) (ks:List Tr) (ps:List Nat):Prop where
 la:as.length=ks.length
 lp:ps.length=ks.length
 sp:∀ (i:Nat) (a:Addr) (t:Tr) (p:Nat),as[i]? = some a→ks[i]? = some t→ps[i]? = some p→Spr C Z H a t (trow hs M N t) (rstL hs M N (ks.take i) (ps.take i) t)∧fpN (rstL hs M N (ks.take i) (ps.take i) t)=some p
 fr:∀ i,i≤ks.length→Free ((ks.take i).map (Tr.val N (hueF hs) (ent M))).reverse (ps.take i).reverse
theorem KeptAt.mono {C:Addr} {Z:Addr→Prop} {H H':Hp} {hs:List Int} {M:List (List Int)} {N:Nat} {as:List Addr} {ks:List Tr} {ps:List Nat} (A:KeptAt C Z H hs M N as ks ps) (s:Same H H'):KeptAt C Z H' hs M N as ks ps:=⟨A.la,A.lp,fun i a t p h1 h2 h3=>⟨(A.sp i a t p h1 h2 h3).1.mono s,(A.sp i a t p h1 h2 h3).2⟩,A.fr⟩
theorem rst_step {hs:List Int} {M:List (List Int)} {N:Nat} {ks:List Tr} {ps:List Nat} {t s:Tr} {p:Nat} (f:Free ((ks++[s]).map (Tr.val N (hueF hs) (ent M))).reverse (ps++[p]).reverse) (q:Nat) :
  (rstF hs M N ks ps s p * rstF hs M N ks ps t q - rstF hs M N ks ps t p * rstF hs M N ks ps s q).fdiv (dvF hs M N ks ps)=rstF hs M N (ks++[s]) (ps++[p]) t q:=by
 rw [List.map_append,List.reverse_append,List.reverse_append] at f
 have e:=dt_step f (Tr.val N (hueF hs) (ent M) t) q
 unfold rstF dvF
 rw [List.map_append,List.reverse_append,List.reverse_append]
 have f0:Dt ps.reverse (ks.map (Tr.val N (hueF hs) (ent M))).reverse≠0:=by
  cases f with
  | cons _ _ f _=>exact f.ne
 have e2:Dt (p :: ps.reverse) (Tr.val N (hueF hs) (ent M) s :: (ks.map (Tr.val N (hueF hs) (ent M))).reverse) * Dt (q :: ps.reverse) (Tr.val N (hueF hs) (ent M) t :: (ks.map (Tr.val N (hueF hs) (ent M))).reverse) - Dt (p :: ps.reverse) (Tr.val N (hueF hs) (ent M) t :: (ks.map (Tr.val N (hueF hs) (ent M))).reverse) * Dt (q :: ps.reverse) (Tr.val N (hueF hs) (ent M) s :: (ks.map (Tr.val N (hueF hs) (ent M))).reverse)=_:=e
 rw [e2]
 exact Int.mul_fdiv_cancel_left _ f0
theorem dv_step {hs:List Int} {M:List (List Int)} {N:Nat} (ks:List Tr) (ps:List Nat) (s:Tr) (p:Nat):dvF hs M N (ks++[s]) (ps++[p])=rstF hs M N ks ps s p:=by
 unfold dvF rstF
 rw [List.map_append,List.reverse_append,List.reverse_append]
 rfl
def spRest (C:Addr):Sp:=fun vs H Q _=>∃ (Z:Addr→Prop) (ra kl:Addr) (as:List Addr) (ks:List Tr) (ps:List Nat) (t:Tr) (hs:List Int) (M:List (List Int)) (N:Nat),vs=[.ref ra,.ref kl]∧H ra=some (.lst ((trow hs M N t).map V.int))∧H kl=some (.lst (as.map V.ref))∧KeptAt C Z H hs M N as ks ps∧N≤12 ∧
 (∀ (i:Nat) (u:Tr),i≤ks.length→(u=t ∨ u ∈ ks)→∀ q,q < N→M11.Bn 400000 (rstF hs M N (ks.take i) (ps.take i) u q)) ∧
 ∀ D H',Same H H'→(D=ra ∨ H D=none)→H' D=some (.lst ((rstL hs M N ks ps t).map V.int))→Q (.ref D) H'
abbrev nRest:List Str:=["row","kept","rest","divisor","sprout","place","factor","taken"]
theorem scRest:FnScope nRest ["row","kept"] (defScope sRest):=by constructor<;>first|rfl|decide +kernel
theorem lcRest:LcScopes (defScope sRest) nRest (lcScope (asgVal (forBody (bodyAt sRest 2) 3))) ["number","other"]:=by constructor<;>first|rfl|decide +kernel
theorem ok_rest {f fF C:Addr} {fd fdF:FuncData} (B:BltS mg) (T:ClsS K C) (hN:base.NoSeer) (htr:P.given.tree=none) (F:Fun K "rest_behind" "rest_behind" sRest f fd) (DF:Dn K mg "first_place_not_nought" sFirst ["row"] fF fdF) (GF:FnOk P w K mg base CX0 1 fF fdF ["row"] (spFirst K)):FnOk P w K mg base CX0 41 f fd ["row","kept"] (spRest C):=by
 refine F.ok scRest (fun vs H Q E h=>?_) (fun cdv A outer s H vs Q E hr h=>?_)
 ·obtain ⟨Z,ra,kl,as,ks,ps,t,hs,M,N,rfl,_⟩:=h
  rfl
 ·obtain ⟨Z,ra,kl,as,ks,ps,t,hs,M,N,rfl,hra,hkl,A1,hN12,bn,q⟩:=h
  have hd:(A.deeper (envOfC "rest_behind" (defScope sRest) s.heap.objs.size f cdv)).depth+Builtin.pylongFrames < recursionLimit:=by
   have:=hr.dp
   have e:Builtin.pylongFrames≤100:=by decide
   omega
  refine ⟨_,pss_cons (ps_set (i:=2) scRest.nd rfl (Or.inl rfl) (pv 0))
   (pss_cons (ps_set (i:=3) scRest.nd rfl (Or.inr rfl) pe_int)
   (pss_cons (ps_for PassesOwn.never rfl (pi_list (pv 1)) (pg_name (i:=4) scRest.nd rfl (Or.inl rfl))
    (pss_cons (ps_set (i:=5) scRest.nd rfl (Or.inl rfl) (pe_fn DF GF (hr.mono (by decide)) rfl (pa_cons (pe_fld (pv 4) rfl) pa_nil)))
    (pss_cons (ps_set (i:=6) scRest.nd rfl (Or.inr rfl) (pe_ix ix_list (pe_fld (pv 4) rfl) (pv 5) (fun _ _=>rfl)))
    (pss_cons (ps_set (i:=7) scRest.nd rfl (Or.inr rfl) (pe_ix ix_list (pv 2) (pv 5) (fun _ _=>rfl)))
    (pss_cons (ps_setLcs (i:=2) scRest.nd rfl (Or.inl rfl) rfl lcRest rfl (pi_zip rfl B.zip (pa_cons (pv 2) (pa_cons (pe_fld (pv 4) rfl) pa_nil))) (pg_two rfl lcRest) (fun _ _ _=>pts_nil) (fun _ _ _=>pe_op (op_fdivP hN htr rfl rfl rfl rfl rfl hd) (pe_op op_sub (pe_op op_mulN (pv 6) (pv 8)) (pe_op op_mulN (pv 7) (pv 9))) (pv 3)))
    (pss_one (ps_set (i:=3) scRest.nd rfl (Or.inr rfl) (pv 6))))))))
   (pss_one (ps_ret (pv 2))))),?_⟩
  refine ⟨_,rfl,?_⟩
  refine ⟨_,rfl,kl,rfl,⟨_,SqL.of hkl⟩,for_list (K:=K) (xs:=as.map V.ref) (fun i σ H'=>∃ (o4 o5 o6 o7:Option V) (D:Addr),σ=[some (.ref ra),some (.ref kl),some (.ref D),some (.int (dvF hs M N (ks.take i) (ps.take i))),o4,o5,o6,o7]∧Same H H'∧(D=ra ∨ H D=none)∧H' D=some (.lst ((rstL hs M N (ks.take i) (ps.take i) t).map V.int))) ⟨none,none,none,none,ra,?_,Same.refl _,.inl rfl,?_⟩ (fun i σ H' _ ⟨_,_,_,_,_,_,s1,_⟩=>Same.sq s1 (SqL.of hkl)) ?_ ?_⟩
  ·rw [List.take_zero,List.take_zero]
   rfl
  ·rw [List.take_zero,List.take_zero,rstL_nil]
   exact hra
  ·rintro i x σ H1 hx ⟨o4,o5,o6,o7,D,rfl,s1,nD,eD⟩
   obtain ⟨a,ha,rfl⟩:=map_get hx
   have hi:=lt_get ha
   obtain ⟨u,hu⟩:=get_lt (l:=ks) (i:=i) (by rw [←A1.la]; exact hi)
   obtain ⟨p,hp⟩:=get_lt (l:=ps) (i:=i) (by rw [A1.lp,←A1.la]; exact hi)
   obtain ⟨Su,fu⟩:=A1.sp i a u p ha hu hp
   obtain ⟨dx,tp,tl,ys,rr,sa,h1,h2,h3,h4,h5,h6,_⟩:=(Su.mono s1).ex
   obtain ⟨z,hz,z0⟩:=fp_some fu
   obtain ⟨pN,ez⟩:=rng_some hz
   have hb:i≤ks.length:=by rw [←A1.la]; omega
   have fr:=A1.fr (i+1) (by rw [←A1.la]; omega)
   rw [take_snoc hu,take_snoc hp] at fr
   refine ⟨_,rfl,a,C,dx,_,_,rfl,h1,T.cl,T.rs,rfl,sa,_,rfl,SqL.of h6,by rw [rstL_len]; omega,fun H2 s2=>?_⟩
   have ep:fpV (rstL hs M N (ks.take i) (ps.take i) u)=.int (p:Int):=by unfold fpV; rw [fu]
   rw [ep]
   refine ⟨_,rfl,a,C,dx,_,_,rfl,s2 _ _ h1,T.cl,T.rs,rfl,_,rfl,sa,_,_,_,rfl,rfl,SqL.of (s2 _ _ h6),atI_nat (by rw [List.getElem?_map]; unfold rstL; rw [rng_get _ pN]; rfl),?_⟩
   refine ⟨_,rfl,_,rfl,D,_,_,_,rfl,rfl,SqL.of (s2 _ _ eD),atI_nat (by rw [List.getElem?_map]; unfold rstL; rw [rng_get _ pN]; rfl),?_⟩
   refine ⟨_,rfl,_,rfl,a,C,dx,_,_,rfl,s2 _ _ h1,T.cl,T.rs,rfl,D,sa,rfl,⟨_,SqL.of (s2 _ _ eD)⟩,⟨_,SqL.of (s2 _ _ h6)⟩,?_⟩
   refine lc_zipN ((rstL hs M N (ks.take (i+1)) (ps.take (i+1)) t).map V.int) rfl (SqL.of (s2 _ _ eD)) (SqL.of (s2 _ _ h6)) (by rw [List.length_map,List.length_map,rstL_len,rstL_len]) (by rw [List.length_map,List.length_map,rstL_len,rstL_len]) (by rw [List.length_map,rstL_len]; omega) ?_ ?_ ?_
   ·intro j x y v H' hx hy hv s'
    obtain ⟨x,ex,rfl⟩:=map_get hx
    obtain ⟨y,ey,rfl⟩:=map_get hy
    obtain ⟨v,ev,rfl⟩:=map_get hv
    obtain ⟨jN,rfl⟩:=rng_some ex
    obtain ⟨_,rfl⟩:=rng_some ey
    obtain ⟨_,rfl⟩:=rng_some ev
    have um:u ∈ ks:=List.mem_of_getElem? hu
    refine ⟨_,rfl,_,rfl,_,_,rfl,rfl,⟨400000,by decide,bn i u hb (.inr um) p pN,bn i t hb (.inl rfl) j jN⟩,?_⟩
    refine ⟨_,rfl,_,rfl,_,_,rfl,rfl,⟨400000,by decide,bn i t hb (.inl rfl) p pN,bn i u hb (.inr um) j jN⟩,_,_,rfl,rfl,?_⟩
    refine ⟨_,rfl,_,_,rfl,rfl,?_,?_,Same.refl _⟩
    ·exact (A1.fr i hb).ne
    ·rw [take_snoc hu,take_snoc hp]
     exact congrArg V.int (rst_step fr j)
   ·intro D' H3 s3 nD' eD'
    have edv:dvF hs M N (ks.take (i+1)) (ps.take (i+1))=rstF hs M N (ks.take i) (ps.take i) u p:=by rw [take_snoc hu,take_snoc hp,dv_step]
    exact ⟨_,rfl,⟨some (.ref a),some (.int (p:Int)),some (.int (rstF hs M N (ks.take i) (ps.take i) u p)),some (.int (rstF hs M N (ks.take i) (ps.take i) t p)),D',by rw [edv]; rfl,s1.trans (s2.trans s3),.inr (s1.free (s2.free nD')),eD'⟩⟩
   ·rintro σ H' Q1 Q2 hq ⟨a1,a2,a3,a4,a5,a6,a7,a8,a9,b1,b2,b3,b4,b5,b6,b7,b8,b9,c1,c2,c3,c4,c5,c6,c7,c8,c9,d1,d2,g⟩
    exact ⟨a1,a2,a3,a4,a5,a6,a7,a8,a9,b1,b2,b3,b4,b5,b6,b7,b8,b9,c1,c2,c3,c4,c5,c6,c7,c8,c9,d1,d2,hq _ _ g⟩
  ·rintro σ H1 ⟨o4,o5,o6,o7,D,rfl,s1,nD,eD⟩
   rw [List.length_map,A1.la,List.take_length] at eD
   rw [show ps.take ks.length=ps by rw [←A1.lp]; exact List.take_length] at eD
   exact ⟨_,rfl,q D H1 s1 nD eD⟩
end
section
variable {P:Program} {w:World} {K:PySem.W.Frag} {mg:Str→Option Value} {base:Heap}
theorem Free.drop {rs:List Rw} {ps:List Nat} (h:Free rs ps):∀ k:Nat,Free (rs.drop k) (ps.drop k):=by
 induction h with
 | nil=>intro k; rw [List.drop_nil,List.drop_nil]; exact .nil
 | cons r p f hd ih =>
  intro k
  cases k with
  | zero=>exact .cons r p f hd
  | succ k=>exact ih k
theorem Bk.drop:∀ {ks:List Tr} (k:Nat),Bk ks→Bk (ks.drop k)
 | [],k,_=>by rw [List.drop_nil]; trivial
 | t :: ks,0,h=>h
 | t :: ks,k+1,h=>Bk.drop (ks:=ks) k h.2.2
theorem most_of {n m:Nat} {U:Nat→Int} {W:Nat→Nat→Int} {ks:List Tr} {ps:List Nat} (free:Free (ks.map (Tr.val (n+m) U W)) ps) (lt:∀ p ∈ ps,p < n+m) (alk:∀ t ∈ ks,tauF n m (Tr.val (n+m) U W t)=0) (hN:0 < n+m):ks.length < n+m:=by
 have l:=free.len
 rw [List.length_map] at l
 refine Classical.byContradiction fun c=>?_
 have all:∀ q,q < n+m→q ∈ ps:=fun q hq=>Classical.byContradiction fun nq=>by
  have:=nd_len (n+m) (q :: ps) (List.nodup_cons.mpr ⟨nq,free.nodup⟩) fun x hx=>by
   cases hx with
   | head=>exact hq
   | tail _ hx=>exact lt x hx
  rw [List.length_cons] at this
  omega
 have z:=zs_spn (N:=n+m) (dt_zs ps (ks.map (Tr.val (n+m) U W)) (ePl 0))
 have t1:=tau_spn (n:=n) (m:=m) (fun r hr=>by obtain ⟨s,h1,rfl⟩:=List.mem_map.mp hr; exact alk s h1) z
 rw [tau_sub] at t1
 have t0:tauF n m (fun q=>Dt (q :: ps) (ePl 0 :: ks.map (Tr.val (n+m) U W)))=0:=(tau_congr (y:=fun _=>0) fun q hq=>dt_twice q ps _ (all q hq)).trans (by unfold tauF; rw [smF_nil,smF_nil]; rfl)
 rw [t0,Int.sub_zero] at t1
 have t3:tauF n m (ePl 0)=if 0 < n then 1 else if 0 < n+m then -1 else 0:=tau_at 0 1
 rcases Int.mul_eq_zero.mp t1 with z | z
 ·exact free.ne z
 ·rw [t3] at z
  by_cases c:0 < n
  ·rw [if_pos c] at z; exact absurd z (by decide)
  ·rw [if_neg c,if_pos hN] at z; exact absurd z (by decide)
theorem rstF_rev (hs:List Int) (M:List (List Int)) (N:Nat) (ks:List Tr) (ps:List Nat) (t:Tr) (q:Nat):rstF hs M N ks ps t q=Dt (q :: ps.reverse) (Tr.val N (hueF hs) (ent M) t :: ks.reverse.map (Tr.val N (hueF hs) (ent M))):=by unfold rstF; rw [List.map_reverse]
structure Kep (C:Addr) (Z:Addr→Prop) (H:Hp) (hs:List Int) (M:List (List Int)) (n m Kn:Nat) (k0 dn:List Tr) (as:List Addr) (ks:List Tr) (ps:List Nat):Prop where
 at':KeptAt C Z H hs M (n+m) as ks ps
 mid:Mid n m (hueF hs) (ent M) Kn k0 dn ks.reverse ps.reverse
theorem Kep.bn {C:Addr} {Z:Addr→Prop} {H:Hp} {hs:List Int} {M:List (List Int)} {n m Kn:Nat} {k0 dn:List Tr} {as:List Addr} {ks:List Tr} {ps:List Nat} (A:Kep C Z H hs M n m Kn k0 dn as ks ps) (hN:n+m≤12) (hb:∀ q,q < n+m→∀ v,v < n+m→(ent M q v).natAbs≤2 ^ 72) {t:Tr} (ht:t.knots≤2 ^ 11) (i:Nat) (u:Tr) (hi:i≤ks.length) (hu:u=t ∨ u ∈ ks) (q:Nat) (hq:q < n+m):M11.Bn 400000 (rstF hs M (n+m) (ks.take i) (ps.take i) u q):=by
 have lr:=most_of A.mid.free A.mid.lt A.mid.alk (by omega)
 rw [List.length_reverse] at lr
 have ei:(ks.take i).reverse=ks.reverse.drop (ks.length - i):=List.reverse_take
 have ep:(ps.take i).reverse=ps.reverse.drop (ks.length - i):=by rw [List.reverse_take,A.at'.lp]
 rw [rstF_rev,ei,ep]
 refine rest_bn hN hb (by rw [List.map_drop]; exact A.mid.free.drop _) (fun p hp=>A.mid.lt p (List.mem_of_mem_drop hp)) (A.mid.bk.drop _) (by rw [List.length_drop,List.length_reverse]; omega) ?_ hq
 rcases hu with rfl | hu
 ·exact ht
 ·have:=(A.mid.bk.all u (List.mem_reverse.mpr hu)).1
  rw [List.length_reverse] at this
  have h2:2 ^ ks.length≤2 ^ 11:=Nat.pow_le_pow_right (by decide) (by omega)
  omega
theorem KeptAt.push {C:Addr} {Z S:Addr→Prop} {H H':Hp} {hs:List Int} {M:List (List Int)} {N:Nat} {as:List Addr} {ks:List Tr} {ps:List Nat} (A:KeptAt C Z H hs M N as ks ps) (c:Chg S H H') (nS:∀ a ∈ as,¬ S a) (hS:∀ b,S b→(∃ C dx fs,H b=some (.ins C dx fs)) ∨ ¬ Z b) {b:Addr} {t:Tr} {p:Nat} (Sb:Spr C Z H' b t (trow hs M N t) (rstL hs M N ks ps t)) (hp:fpN (rstL hs M N ks ps t)=some p):KeptAt C Z H' hs M N (as++[b]) (ks++[t]) (ps++[p]):=by
 refine ⟨by rw [List.length_append,List.length_append,A.la]; rfl,by rw [List.length_append,List.length_append,A.lp]; rfl,fun i a u r h1 h2 h3=>?_,fun i hi=>?_⟩
 ·rcases snoc_get h1 with h1 | ⟨e1,rfl⟩
  ·have li:=lt_get h1
   rw [List.getElem?_append_left (by rw [←A.la]; exact li)] at h2
   rw [List.getElem?_append_left (by rw [A.lp,←A.la]; exact li)] at h3
   rw [List.take_append_of_le_length (by rw [←A.la]; omega),List.take_append_of_le_length (by rw [A.lp,←A.la]; omega)]
   obtain ⟨g1,g2⟩:=A.sp i a u r h1 h2 h3
   exact ⟨g1.chg c (nS a (List.mem_of_getElem? h1)) hS,g2⟩
  ·subst e1
   rw [A.la,List.getElem?_append_right (Nat.le_refl _),Nat.sub_self] at h2
   rw [A.la,←A.lp,List.getElem?_append_right (Nat.le_refl _),Nat.sub_self] at h3
   cases h2
   cases h3
   rw [A.la,List.take_left,←A.lp,List.take_left]
   exact ⟨Sb,hp⟩
 ·by_cases h:i≤ks.length
  ·rw [List.take_append_of_le_length h,List.take_append_of_le_length (by rw [A.lp]; exact h)]
   exact A.fr i h
  ·rw [List.length_append] at hi
   have e:i=ks.length+1:=by simp only [List.length_cons,List.length_nil] at hi; omega
   rw [List.take_of_length_le (by rw [List.length_append]; simp; omega),List.take_of_length_le (by rw [List.length_append,A.lp]; simp; omega),List.map_append,List.reverse_append,List.reverse_append]
   have f0:=A.fr ks.length (Nat.le_refl _)
   rw [List.take_length,show ps.take ks.length=ps by rw [←A.lp]; exact List.take_length] at f0
   obtain ⟨z,hz,z0⟩:=fp_some hp
   obtain ⟨_,ez⟩:=rng_some hz
   rw [ez] at z0
   exact .cons _ p f0 z0
def spKeep (C:Addr):Sp:=fun vs H Q _=>∃ (Z:Addr→Prop) (kl sl:Addr) (as bs:List Addr) (ks S:List Tr) (ps:List Nat) (hs:List Int) (M:List (List Int)) (n m Kn:Nat),vs=[.ref kl,.ref sl]∧H kl=some (.lst (as.map V.ref))∧H sl=some (.lst (bs.map V.ref))∧Kep C Z H hs M n m Kn ks.reverse [] as ks ps∧Sprs C Z H bs S (trow hs M (n+m)) ∧
 ¬ Z kl∧(∀ x,H x=none→Z x)∧kl≠sl∧bs.Nodup∧(∀ b ∈ bs,b ∉ as)∧n+m≤12∧0 < n+m∧(∀ q,q < n+m→∀ v,v < n+m→(ent M q v).natAbs≤2 ^ 72)∧Sprt n m (hueF hs) (ent M) Kn ks.reverse S∧(∀ t ∈ S,tauF n m (Tr.val (n+m) (hueF hs) (ent M) t)=0)∧S.length < 64 ∧
 ∀ as' ks' ps' H',Chg (fun b=>b=kl ∨ b ∈ bs) H H'→(∀ x,H' x=none→H x=none)→H' kl=some (.lst (as'.map V.ref))→Kep C Z H' hs M n m Kn ks.reverse S as' ks' ps'→(∀ a ∈ as',a ∈ as ∨ a ∈ bs)→Q .non H'
abbrev nKeep:List Str:=["kept","sprouts","sprout"]
theorem scKeep:FnScope nKeep ["kept","sprouts"] (defScope sKeep):=by constructor<;>first|rfl|decide +kernel
end
section
variable {P:Program} {w:World} {K:PySem.W.Frag} {mg:Str→Option Value} {base:Heap}
theorem KeptAt.chg {C:Addr} {Z S:Addr→Prop} {H H':Hp} {hs:List Int} {M:List (List Int)} {N:Nat} {as:List Addr} {ks:List Tr} {ps:List Nat} (A:KeptAt C Z H hs M N as ks ps) (c:Chg S H H') (nS:∀ a ∈ as,¬ S a) (hS:∀ b,S b→(∃ C dx fs,H b=some (.ins C dx fs)) ∨ ¬ Z b):KeptAt C Z H' hs M N as ks ps :=
 ⟨A.la,A.lp,fun i a t p h1 h2 h3=>⟨(A.sp i a t p h1 h2 h3).1.chg c (nS a (List.mem_of_getElem? h1)) hS,(A.sp i a t p h1 h2 h3).2⟩,A.fr⟩
theorem not_take {α:Type} {l:List α} (nd:l.Nodup) {i:Nat} {x:α} (h:l[i]? = some x):x ∉ l.take i:=fun z=>by
 obtain ⟨j,hj⟩:=List.mem_iff_getElem?.mp z
 rw [List.getElem?_take] at hj
 split at hj
 ·rename_i lt
  have:=(List.getElem?_inj (by have:=lt_get h; omega) nd).mp (hj.trans h.symm)
  omega
 ·cases hj
theorem ok_keep {f fR fF C:Addr} {fd fdR fdF:FuncData} (B:BltS mg) (T:ClsS K C) (F:Fun K "keep_free_ones" "keep_free_ones" sKeep f fd) (DR:Dn K mg "rest_behind" sRest ["row","kept"] fR fdR) (GR:FnOk P w K mg base CX0 41 fR fdR ["row","kept"] (spRest C))
  (DF:Dn K mg "first_place_not_nought" sFirst ["row"] fF fdF) (GF:FnOk P w K mg base CX0 1 fF fdF ["row"] (spFirst K)):FnOk P w K mg base CX0 42 f fd ["kept","sprouts"] (spKeep C):=by
 refine F.ok scKeep (fun vs H Q E h=>?_) (fun cdv A outer s H vs Q E hr h=>?_)
 ·obtain ⟨Z,kl,sl,as,bs,ks,S,ps,hs,M,n,m,Kn,rfl,_⟩:=h
  rfl
 ·obtain ⟨Z,kl,sl,as,bs,ks,S,ps,hs,M,n,m,Kn,rfl,hkl,hsl,A0,Sp,nZ,hZ,nks,nd,dis,hN,hN0,hb,hS,al,lS,q⟩:=h
  have ins0:∀ b ∈ bs,∃ C dx fs,H b=some (.ins C dx fs):=fun b hb=>by
   obtain ⟨i,hi⟩:=List.mem_iff_getElem?.mp hb
   obtain ⟨t,ht⟩:=get_lt (l:=S) (i:=i) (by rw [←Sp.len]; exact lt_get hi)
   obtain ⟨r,h⟩:=Sp.at' i b t hi ht
   obtain ⟨dx,p,l,ys,ra,sa,h1,_⟩:=h.ex
   exact ⟨_,_,_,h1⟩
  have slN:¬ (sl=kl ∨ sl ∈ bs):=fun z=>by
   rcases z with z | z
   ·exact nks z.symm
   ·obtain ⟨C',dx',fs',e⟩:=ins0 sl z
    rw [hsl] at e; cases e
  refine ⟨_,pss_one (ps_for PassesOwn.never rfl (pi_list (pv 1)) (pg_name (i:=2) scKeep.nd rfl (Or.inl rfl))
   (pss_cons (ps_fld (pv 2) (pe_fn DR GR hr rfl (pa_cons (pe_fld (pv 2) rfl) (pa_cons (pv 0) pa_nil))) rfl)
   (pss_one (ps_if (pt_cmpR op_notN (pe_fn DF GF (hr.mono (by decide)) rfl (pa_cons (pe_fld (pv 2) rfl) pa_nil)) pe_non (nomark _)) (pss_one (ps_expr (pe_bm PySem.F.plainAttrs_list PySem.F.slot_list_append PySem.F.type_list_append mt_append (pv 0) (pa_cons (pv 2) pa_nil)))) pss_nil)))),?_⟩
  refine ⟨_,rfl,sl,rfl,⟨_,SqL.of hsl⟩,for_list (K:=K) (xs:=bs.map V.ref) (fun i σ H'=>∃ (o2:Option V) (as':List Addr) (ks':List Tr) (ps':List Nat),σ=[some (.ref kl),some (.ref sl),o2]∧Chg (fun b=>b=kl ∨ b ∈ bs) H H'∧(∀ x,H' x=none→H x=none)∧H' kl=some (.lst (as'.map V.ref))∧Kep C Z H' hs M n m Kn ks.reverse (S.take i) as' ks' ps'∧(∀ a ∈ as',a ∈ as ∨ a ∈ bs.take i)∧∀ (j:Nat) (b:Addr) (t:Tr),i≤j→bs[j]? = some b→S[j]? = some t→∃ r,Spr C Z H' b t (trow hs M (n+m) t) r) ⟨none,as,ks,ps,rfl,fun b o _ e=>e,fun x e=>e,hkl,?_,fun a h=>.inl h,fun j b t _ h1 h2=>Sp.at' j b t h1 h2⟩ (fun i σ H' _ ⟨_,_,_,_,_,c1,_⟩=>SqL.of (c1 _ _ slN hsl)) ?_ ?_⟩
  ·rw [List.take_zero]; exact A0
  ·rintro i x σ H1 hx ⟨o2,as',ks',ps',rfl,c1,n1,hk1,A1,sub,rem⟩
   obtain ⟨b,hbi,rfl⟩:=map_get hx
   obtain ⟨t,ht⟩:=get_lt (l:=S) (i:=i) (by rw [←Sp.len]; exact lt_get hbi)
   have bm:b ∈ bs:=List.mem_of_getElem? hbi
   have tm:t ∈ S:=List.mem_of_getElem? ht
   obtain ⟨r0,Sb⟩:=rem i b t (Nat.le_refl _) hbi ht
   obtain ⟨dx,p,l,ys,ra,sa,h1,h2,h3,h4,h5,h6,z1,z2,z3,z4⟩:=Sb.ex
   have kt:t.knots≤2 ^ 11:=by
    have lr:=most_of A0.mid.free A0.mid.lt A0.mid.alk hN0
    have:=hS.le t tm
    rw [List.length_reverse] at lr this
    have h2:2 ^ ks.length≤2 ^ 11:=Nat.pow_le_pow_right (by decide) (by omega)
    omega
   have nab:∀ a ∈ as',a≠b:=fun a ha z=>by
    subst z
    rcases sub a ha with h | h
    ·exact dis a bm h
    ·exact not_take nd hbi h
   refine ⟨_,rfl,b,C,dx,_,_,rfl,h1,T.cl,T.rw,rfl,_,rfl,Z,ra,kl,as',ks',ps',t,hs,M,n+m,rfl,h5,hk1,A1.at',hN,fun j u hj hu q' hq'=>A1.bn hN hb kt j u hj hu q' hq',fun D H2 s2 nD eD=>?_⟩
   refine ⟨_,rfl,b,C,dx,_,rfl,s2 _ _ h1,T.cl,T.rs,(by show 5 < 1000; decide),?_⟩
   have Db:D≠b:=fun z=>by rw [z,s2 _ _ h1] at eD; cases eD
   have e3:L2.upd H2 b (.ins C dx (sprF (.ref p) t.knots t.deep ra D)) D=some (.lst ((rstL hs M (n+m) ks' ps' t).map V.int)):=by rw [upd_ne Db]; exact eD
   have c3:Chg (fun x=>x=b) H1 (L2.upd H2 b (.ins C dx (sprF (.ref p) t.knots t.deep ra D))):=fun x o nx e=>by rw [upd_ne nx]; exact s2 _ _ e
   have n3:∀ x,L2.upd H2 b (.ins C dx (sprF (.ref p) t.knots t.deep ra D)) x=none→H1 x=none:=fun x e=>by
    by_cases z:x=b
    ·subst z; rw [upd_same] at e; cases e
    ·rw [upd_ne z] at e; exact s2.free e
   have eb3:L2.upd H2 b (.ins C dx (sprF (.ref p) t.knots t.deep ra D)) b=some (.ins C dx (sprF (.ref p) t.knots t.deep ra D)):=upd_same
   refine ⟨_,rfl,b,C,dx,_,_,rfl,eb3,T.cl,T.rs,rfl,D,rstL hs M (n+m) ks' ps' t,rfl,SqL.of e3,by rw [rstL_len]; omega,fun H4 s4=>⟨rfl,_,rfl,?_⟩⟩
   have c4:Chg (fun x=>x=b) H1 H4:=fun x o nx e=>s4 _ _ (c3 x o nx e)
   have n4:∀ x,H4 x=none→H1 x=none:=fun x e=>n3 x (s4.free e)
   have i4:∀ x,x=b→(∃ C dx fs,H1 x=some (.ins C dx fs)) ∨ ¬ Z x:=fun x z=>.inl ⟨C,dx,sprF (.ref p) t.knots t.deep ra sa,by rw [z]; exact h1⟩
   have klb:kl≠b:=fun z=>by rw [z,h1] at hk1; cases hk1
   have hk4:H4 kl=some (.lst (as'.map V.ref)):=c4 _ _ klb hk1
   have ZD:Z D:=nD.elim (fun z=>by rw [z]; exact z3) fun z=>hZ D (n1 D z)
   have nb:∀ {x:Addr} {o:HO},Z x→H1 x=some o→(∀ C dx fs,o≠.ins C dx fs)→x≠b:=fun zx e no=>not_in i4 zx e no
   have S4:Spr C Z H4 b t (trow hs M (n+m) t) (rstL hs M (n+m) ks' ps' t):=⟨dx,p,l,ys,ra,D,s4 _ _ eb3,c4 _ _ (nb z1 h2 (fun _ _ _ z=>by cases z)) h2,c4 _ _ (nb z2 h3 (fun _ _ _ z=>by cases z)) h3,h4.chg c4 i4,c4 _ _ (nb z3 h5 (fun _ _ _ z=>by cases z)) h5,s4 _ _ e3,z1,z2,z3,ZD⟩
   have cc:Chg (fun b=>b=kl ∨ b ∈ bs) H H4:=fun x o nx e=>c4 x o (fun z=>nx (.inr (by rw [z]; exact bm))) (c1 x o nx e)
   have rem4:∀ (j:Nat) (b':Addr) (t':Tr),i+1≤j→bs[j]? = some b'→S[j]? = some t'→∃ r,Spr C Z H4 b' t' (trow hs M (n+m) t') r:=fun j b' t' hj e1 e2=>by
    obtain ⟨r,h⟩:=rem j b' t' (by omega) e1 e2
    refine ⟨r,h.chg c4 (fun z=>?_) i4⟩
    have z':b'=b:=z
    rw [z'] at e1
    have:=(List.getElem?_inj (lt_get hbi) nd).mp (hbi.trans e1.symm)
    omega
   have ts:S.take (i+1)=S.take i++[t]:=take_snoc ht
   have bt:bs.take (i+1)=bs.take i++[b]:=take_snoc hbi
   cases hf:fpN (rstL hs M (n+m) ks' ps' t) with
   | none =>
    have ev:fpV (rstL hs M (n+m) ks' ps' t)=.non:=by unfold fpV; rw [hf]
    rw [ev]
    refine iteF ⟨_,as',ks',ps',rfl,cc,fun x e=>n1 x (n4 x e),hk4,⟨A1.at'.chg c4 (fun a ha z=>nab a ha z) i4,?_⟩,fun a ha=>(sub a ha).imp_right fun h=>by rw [bt]; exact List.mem_append_left _ h,rem4⟩
    rw [ts]
    refine A1.mid.skip fun q' hq'=>?_
    rw [←rstF_rev]
    exact fp_none hf _ (List.mem_map.mpr ⟨q',List.mem_range.mpr hq',rfl⟩)
   | some p' =>
    have ev:fpV (rstL hs M (n+m) ks' ps' t)=.int (p':Int):=by unfold fpV; rw [hf]
    rw [ev]
    obtain ⟨z,hz,z0⟩:=fp_some hf
    obtain ⟨pN,ez⟩:=rng_some hz
    have la:as'.length≤12:=by
     have lr:=most_of A1.mid.free A1.mid.lt A1.mid.alk hN0
     rw [List.length_reverse] at lr
     rw [A1.at'.la]; omega
    refine iteT ⟨_,rfl,.inl ⟨rfl,_,SqL.of hk4⟩,_,rfl,kl,_,_,rfl,rfl,hk4,small1000 (by rw [List.length_map]; omega),?_⟩
    have c5:Chg (fun x=>x=kl) H4 (L2.upd H4 kl (.lst (as'.map V.ref++[.ref b]))):=fun x o nx e=>by rw [upd_ne nx]; exact e
    have i5:∀ x,x=kl→(∃ C dx fs,H4 x=some (.ins C dx fs)) ∨ ¬ Z x:=fun x z=>.inr (by rw [z]; exact nZ)
    have n5:∀ x,L2.upd H4 kl (.lst (as'.map V.ref++[.ref b])) x=none→H4 x=none:=fun x e=>by
     by_cases z:x=kl
     ·subst z; rw [upd_same] at e; cases e
     ·rw [upd_ne z] at e; exact e
    have c15:Chg (fun x=>x=kl ∨ x=b) H1 (L2.upd H4 kl (.lst (as'.map V.ref++[.ref b]))):=fun x o nx e=>c5 x o (fun z=>nx (.inl z)) (c4 x o (fun z=>nx (.inr z)) e)
    have nk:∀ a ∈ as',a≠kl:=fun a ha z=>by
     obtain ⟨j,hj⟩:=List.mem_iff_getElem?.mp ha
     obtain ⟨u,hu⟩:=get_lt (l:=ks') (i:=j) (by rw [←A1.at'.la]; exact lt_get hj)
     obtain ⟨r,hr⟩:=get_lt (l:=ps') (i:=j) (by rw [A1.at'.lp,←A1.at'.la]; exact lt_get hj)
     obtain ⟨dx',_,_,_,_,_,e',_⟩:=(A1.at'.sp j a u r hj hu hr).1.ex
     rw [z,hk1] at e'; cases e'
    refine ⟨_,as'++[b],ks'++[t],ps'++[p'],rfl,fun x o nx e=>c5 x o (fun z=>nx (.inl z)) (cc x o nx e),fun x e=>n1 x (n4 x (n5 x e)),by rw [upd_same,List.map_append]; rfl,⟨?_,?_⟩,fun a ha=>?_,fun j b' t' hj e1 e2=>?_⟩
    ·refine A1.at'.push c15 (fun a ha z=>z.elim (nk a ha) (nab a ha)) (fun x z=>z.elim (fun z=>.inr (by rw [z]; exact nZ)) fun z=>.inl ⟨C,dx,sprF (.ref p) t.knots t.deep ra sa,by rw [z]; exact h1⟩) (S4.chg c5 (fun z=>klb z.symm) i5) hf
    ·rw [ts,List.reverse_append,List.reverse_append]
     refine A1.mid.push pN ?_ (al t tm) (hS.kn t tm) (hS.dp t tm) (hS.le t tm)
     rw [←rstF_rev,←ez]
     exact z0
    ·rcases List.mem_append.mp ha with ha | ha
     ·exact (sub a ha).imp_right fun h=>by rw [bt]; exact List.mem_append_left _ h
     ·rw [List.mem_singleton.mp ha]
      exact .inr (by rw [bt]; exact List.mem_append_right _ List.mem_cons_self)
    ·obtain ⟨r,h⟩:=rem4 j b' t' hj e1 e2
     refine ⟨r,h.chg c5 (fun z=>?_) i5⟩
     obtain ⟨dx',_,_,_,_,_,e',_⟩:=h.ex
     have z':b'=kl:=z
     rw [z',hk4] at e'; cases e'
  ·rintro σ H1 ⟨o2,as',ks',ps',rfl,c1,n1,hk1,A1,sub,rem⟩
   rw [List.length_map,Sp.len,List.take_length] at A1
   refine q as' ks' ps' H1 c1 n1 hk1 A1 fun a ha=>(sub a ha).imp_right fun h=>List.mem_of_mem_take h
end
section
variable {P:Program} {w:World} {K:PySem.W.Frag} {mg:Str→Option Value} {base:Heap}
structure New (C:Addr) (Z:Addr→Prop) (H H':Hp) (row:Tr→List Int) (sl:Addr) (bs:List Addr) (S:List Tr):Prop where
 free:H sl=none
 at':H' sl=some (.lst (bs.map V.ref))
 sp:Sprs C Z H' bs S row
 nd:bs.Nodup
 nw:∀ b ∈ bs,H b=none
def leafL (ws:List Int):List Tr:=.nd none [] :: ws.map fun c=>.nd (some c) []
def spLeafs (C:Addr):Sp:=fun vs H Q _=>∃ (Z:Addr→Prop) (hA:Addr) (hs:List Int) (M:List (List Int)) (N:Nat),vs=[.ref hA]∧H hA=some (.lst (hs.map V.int))∧hs.length=N∧N≤12∧(∀ z ∈ hs,0≤z∧z≤3)∧(∀ x,H x=none→Z x) ∧
 ∀ sl bs (ws:List Int) H',Same H H'→New C Z H H' (trow hs M N) sl bs (leafL ws)→ws.Nodup→(∀ c ∈ ws,c ∈ hs)→(∀ c ∈ hs,c ∈ ws)→ws.length≤4→Q (.ref sl) H'
structure Tab (Tb:Hp→Prop) (Pt:Addr):Prop where
 keep:∀ H H',Tb H→(∀ b o,(b=Pt ∨ ∃ φ,o=.ext φ)→H b=some o→H' b=some o)→Tb H'
 at':∀ H,Tb H→∃ tb,H Pt=some (.tbl tb)
def spGrown (C Pt:Addr) (Tb:Hp→Prop):Sp:=fun vs H Q _=>∃ (Z:Addr→Prop) (kl wA:Addr) (as:List Addr) (ks:List Tr) (Kn N:Nat) (hs:List Int) (M:List (List Int)),vs=[.ref kl,.int (Kn:Int),.ref wA]∧H kl=some (.lst (as.map V.ref))∧Sprs C Z H as ks (trow hs M N)∧Bth H wA N hs M∧Tb H∧(∀ x,H x=none→Z x)∧¬ Z Pt∧(∀ t ∈ ks,t.knots≤4096)∧ks.length≤12∧prC (knL ks) (knL ks) Kn < 64 ∧
 ∀ sl bs S H',Chg (fun b=>b=Pt) H H'→(∀ x,H' x=none→H x=none)→Tb H'→New C Z H H' (trow hs M N) sl bs S→(∀ t ∈ S,∃ s ∈ ks,∃ b ∈ ks,t=s.with b∧s.knots+b.knots=Kn)→(∀ s ∈ ks,∀ b ∈ ks,s.knots+b.knots=Kn→s.with b ∈ S)→S.length=prC (knL ks) (knL ks) Kn→Q (.ref sl) H'
theorem perm_sumN {a b:List Nat} (h:a.Perm b):a.sum=b.sum:=by
 induction h with
 | nil=>rfl
 | cons x _ ih=>rw [List.sum_cons,List.sum_cons,ih]
 | swap x y l=>simp only [List.sum_cons]; omega
 | trans _ _ i j=>exact i.trans j
theorem prC_rev (ks:List Tr) (k:Nat):prC (knL ks.reverse) (knL ks.reverse) k=prC (knL ks) (knL ks) k:=by
 have p:(knL ks.reverse).Perm (knL ks):=(List.reverse_perm ks).map _
 unfold prC
 have e:(fun a=>(knL ks.reverse).countP fun b=>decide (a+b=k))=fun a=>(knL ks).countP fun b=>decide (a+b=k):=by
  funext a
  exact p.countP_eq _
 rw [e]
 exact perm_sumN (p.map _)
theorem sprt_grown {n m Kn:Nat} {U:Nat→Int} {W:Nat→Nat→Int} {ks S:List Tr} (bk:Bk ks.reverse) (hK:2≤Kn) (h1:∀ t ∈ S,∃ s ∈ ks,∃ b ∈ ks,t=s.with b∧s.knots+b.knots=Kn) (h2:∀ s ∈ ks,∀ b ∈ ks,s.knots+b.knots=Kn→s.with b ∈ S):Sprt n m U W Kn ks.reverse S:=by
 have bd:∀ t ∈ ks,2 * t.knots≤2 ^ ks.reverse.length∧t.deep≤ks.reverse.length:=fun t ht=>bk.all t (List.mem_reverse.mpr ht)
 refine ⟨fun t ht=>?_,fun t ht=>?_,fun t ht=>?_,fun e=>by omega,fun s hs b hb e=>?_⟩
 ·obtain ⟨s,hs,b,hb,rfl,e⟩:=h1 t ht
  rw [with_knots,e]
 ·obtain ⟨s,hs,b,hb,rfl,e⟩:=h1 t ht
  have:=(bd s hs).2
  have:=(bd b hb).2
  rw [with_deep]; omega
 ·obtain ⟨s,hs,b,hb,rfl,e⟩:=h1 t ht
  have:=(bd s hs).1
  have:=(bd b hb).1
  rw [with_knots]; omega
 ·refine ⟨s.with b,h2 s (List.mem_reverse.mp hs) b (List.mem_reverse.mp hb) e,?_⟩
  obtain ⟨wi,bs⟩:=s
  exact val_snoc wi bs b
theorem sprt_leaf {n m:Nat} {hs:List Int} {W:Nat→Nat→Int} {ws:List Int} (hl:hs.length=n+m) (hw:∀ c ∈ hs,c ∈ ws):Sprt n m (hueF hs) W 1 [] (leafL ws):=by
 have lf:∀ t ∈ leafL ws,∃ w,t=.nd w []:=fun t ht=>by
  cases ht with
  | head=>exact ⟨_,rfl⟩
  | tail _ ht=>obtain ⟨c,_,rfl⟩:=List.mem_map.mp ht; exact ⟨_,rfl⟩
 refine ⟨fun t ht=>?_,fun t ht=>?_,fun t ht=>?_,fun _ w=>?_,fun s hs=>nomatch hs⟩
 ·obtain ⟨w,rfl⟩:=lf t ht; rfl
 ·obtain ⟨w,rfl⟩:=lf t ht; exact Nat.le_refl _
 ·obtain ⟨w,rfl⟩:=lf t ht; exact Nat.le_refl _
 ·cases w with
  | none=>exact .inl ⟨_,List.mem_cons_self,fun q _=>rfl⟩
  | some c =>
   by_cases h:c ∈ ws
   ·exact .inl ⟨.nd (some c) [],List.mem_cons_of_mem _ (List.mem_map.mpr ⟨c,h,rfl⟩),fun q _=>rfl⟩
   ·refine .inr fun q hq=>?_
    show (if hueF hs q=c then (1:Int) else 0) * 1=0
    obtain ⟨z,hz⟩:=get_lt (l:=hs) (i:=q) (by omega)
    have e:hueF hs q=z:=by show hs[q]?.getD 0=z; rw [hz]; rfl
    rw [if_neg (fun y=>h (by rw [←y,e]; exact hw z (List.mem_of_getElem? hz)))]
    rfl
inductive Gd:Tr→Prop
 | nd {w:Option Int} {bs:List Tr}:(∀ c,w=some c→0≤c)→(∀ b ∈ bs,Gd b)→Gd (.nd w bs)
theorem Gd.wi {w:Option Int} {bs:List Tr} (h:Gd (.nd w bs)):∀ c,w=some c→0≤c:=by cases h with | nd a b=>exact a
theorem Gd.bo {w:Option Int} {bs:List Tr} (h:Gd (.nd w bs)):∀ b ∈ bs,Gd b:=by cases h with | nd a b=>exact b
theorem Gd.with {s b:Tr} (h:Gd s) (h':Gd b):Gd (s.with b):=by
 obtain ⟨w,bs⟩:=s
 refine .nd h.wi fun x hx=>?_
 rcases List.mem_append.mp hx with hx | hx
 ·exact h.bo x hx
 ·rw [List.mem_singleton.mp hx]; exact h'
theorem gd_leaf {ws:List Int} (h:∀ c ∈ ws,0≤c):∀ t ∈ leafL ws,Gd t:=fun t ht=>by
 cases ht with
 | head=>exact .nd (fun _ z=>by cases z) fun _ z=>by cases z
 | tail _ ht =>
  obtain ⟨c,hc,rfl⟩:=List.mem_map.mp ht
  exact .nd (fun _ z=>by cases z; exact h c hc) fun _ z=>by cases z
theorem leafL_len (ws:List Int):(leafL ws).length=1+ws.length:=by show (ws.map _).length+1=_; rw [List.length_map]; omega
end
section
variable {P:Program} {w:World} {K:PySem.W.Frag} {mg:Str→Option Value} {base:Heap}
def UnS (n m:Nat) (hs:List Int) (M:List (List Int)) (bs:List Addr) (S:List Tr) (uv:V):Prop :=
 (uv=.non∧∀ t ∈ S,tauF n m (Tr.val (n+m) (hueF hs) (ent M) t)=0) ∨ ∃ (i:Nat) (a:Addr) (t:Tr),uv=.ref a∧bs[i]? = some a∧S[i]? = some t∧tauF n m (Tr.val (n+m) (hueF hs) (ent M) t)≠0
structure Lps (C Pt kl:Addr) (Tb:Hp→Prop) (B0 H':Hp) (n m:Nat) (hs:List Int) (M:List (List Int)) (d Kn:Nat) (as:List Addr) (ks:List Tr) (ps:List Nat) (sl:Addr) (bs:List Addr) (S:List Tr) (uv:V):Prop where
 k1:1≤Kn
 chg:Chg (fun b=>b=kl ∨ b=Pt) B0 H'
 nod:∀ x,H' x=none→B0 x=none
 tb:Tb H'
 hk:H' kl=some (.lst (as.map V.ref))
 sr:Srch n m (hueF hs) (ent M) Kn ks.reverse ps.reverse
 ka:KeptAt C (fun x=>B0 x=none) H' hs M (n+m) as ks ps
 ct:Cnt d Kn ks.reverse
 hl:H' sl=some (.lst (bs.map V.ref))
 sp:Sprs C (fun x=>B0 x=none) H' bs S (trow hs M (n+m))
 ne:kl≠sl
 bz:∀ b ∈ bs,B0 b=none
 nd:bs.Nodup
 ds:∀ b ∈ bs,b ∉ as
 st:Sprt n m (hueF hs) (ent M) Kn ks.reverse S
 l2:2≤Kn→S.length=prC (knL ks.reverse) (knL ks.reverse) Kn
 l1:Kn=1→S.length≤1+d
 lt:S.length < 64
 un:UnS n m hs M bs S uv
 gk:∀ t ∈ ks,Gd t
 gs:∀ t ∈ S,Gd t
def spPTree (Pt:Addr) (Tb:Hp→Prop):Sp:=fun vs H Q _=>∃ (wA oA:Addr) (n m:Nat) (hs hs':List Int) (M M':List (List Int)),vs=[.ref wA,.ref oA]∧Wz H wA n hs M∧Wz H oA m hs' M'∧n≤6∧m≤6∧Tb H ∧
 (∀ (ls:List Int) (H':Hp),Chg (fun b=>b=Pt) H H'→(∀ x,H' x=none→H x=none)→Tb H'→Coarse (hs++hs') (besM n m M M') ls→(ls.take n).Perm (ls.drop n)→Q .non H') ∧
 ∀ (ls:List Int) (v:V) (t:Tr) (H':Hp),Chg (fun b=>b=Pt) H H'→(∀ x,H' x=none→H x=none)→Tb H'→Coarse (hs++hs') (besM n m M M') ls→¬ (ls.take n).Perm (ls.drop n)→TrAt (Nw H) H' v t→Gd t→t.deep≤12→t.knots≤4096→(trow hs M n t).sum≠(trow hs' M' m t).sum→Q v H'
abbrev nPTree:List Str:=["web","other","both","kept","knots","sprouts","unlike"]
theorem scPTree:FnScope nPTree ["web","other"] (defScope sPTree):=by constructor<;>first|rfl|decide +kernel
theorem sq_rows {n:Nat} {M:List (List Int)} (S:SqN n M):∀ x ∈ M,x.length=n:=fun x hx=>by
 obtain ⟨i,hi⟩:=List.mem_iff_getElem?.mp hx
 exact (S.row i x hi).1
theorem ok_ptree {f fA fS fL fU fK fG fC C Pt:Addr} {fd fdA fdS fdL fdU fdK fdG fdC:FuncData} {Tb:Hp→Prop} (TT:Tab Tb Pt) (B:BltS mg) (T:ClsS K C) (F:Fun K "parting_tree" "parting_tree" sPTree f fd)
  (DA':Dn K mg "part_alike" sAlike ["web","other"] fA fdA) (GA:FnOk P w K mg base CX0 5 fA fdA ["web","other"] spAlike) (DS:Dn K mg "side_by_side" sSide ["web","other"] fS fdS) (GS:FnOk P w K mg base CX0 1 fS fdS ["web","other"] spSide)
  (DL:Dn K mg "leaf_sprouts" sLeafs ["hues"] fL fdL) (GL:FnOk P w K mg base CX0 42 fL fdL ["hues"] (spLeafs C)) (DU:Dn K mg "first_unlike" sUnlike ["sprouts","ahead"] fU fdU) (GU:FnOk P w K mg base CX0 1 fU fdU ["sprouts","ahead"] (spUnlike C))
  (DK:Dn K mg "keep_free_ones" sKeep ["kept","sprouts"] fK fdK) (GK:FnOk P w K mg base CX0 42 fK fdK ["kept","sprouts"] (spKeep C)) (DG:Dn K mg "grown_sprouts" sGrown ["kept","knots","weights"] fG fdG) (GG:FnOk P w K mg base CX0 42 fG fdG ["kept","knots","weights"] (spGrown C Pt Tb))
  (DC:Dn K mg "copied" sCopied ["tree"] fC fdC) (GC:FnOk P w K mg base CX0 14 fC fdC ["tree"] (spCopy K 13)):FnOk P w K mg base CX0 43 f fd ["web","other"] (spPTree Pt Tb):=by
 refine F.ok scPTree (fun vs H Q E h=>?_) (fun cdv A outer s H vs Q E hr h=>?_)
 ·obtain ⟨wA,oA,n,m,hs,hs',M,M',rfl,_⟩:=h
  rfl
 ·obtain ⟨wA,oA,n,m,hs,hs',M,M',rfl,W1,W2,hn,hm,t0,q0,q1⟩:=h
  refine ⟨_,pss_cons (ps_if (pt_val (pe_fn DA' GA (hr.mono (by decide)) rfl (pa_cons (pv 0) (pa_cons (pv 1) pa_nil)))) (pss_one (ps_ret pe_non)) pss_nil)
   (pss_cons (ps_set (i:=2) scPTree.nd rfl (Or.inl rfl) (pe_fn DS GS (hr.mono (by decide)) rfl (pa_cons (pv 0) (pa_cons (pv 1) pa_nil))))
   (pss_cons (ps_set (i:=3) scPTree.nd rfl (Or.inl rfl) (pe_lst pa_nil))
   (pss_cons (ps_set (i:=4) scPTree.nd rfl (Or.inl rfl) pe_int)
   (pss_cons (ps_set (i:=5) scPTree.nd rfl (Or.inl rfl) (pe_fn DL GL hr rfl (pa_cons (pe_ix ix_tup (pv 2) pe_int (fun _ _=>rfl)) pa_nil)))
   (pss_mid (ps_set (i:=6) scPTree.nd rfl (Or.inl rfl) (pe_fn DU GU (hr.mono (by decide)) rfl (pa_cons (pv 5) (pa_cons (pe_callB call_len_seq (by rfl) B.len PySem.boot_len (pa_cons (pe_ix ix_tup (pv 0) pe_int (fun _ _=>rfl)) pa_nil)) pa_nil))))
   (pss_cons (ps_while PassesOwn.never (pt_cmpR op_isN (pv 6) pe_non (nomark _))
    (pss_cons (ps_expr (pe_fn DK GK hr rfl (pa_cons (pv 3) (pa_cons (pv 5) pa_nil))))
    (pss_cons (ps_aug (i:=4) scPTree.nd rfl (Or.inl rfl) pe_int ip_add)
    (pss_cons (ps_set (i:=5) scPTree.nd rfl (Or.inl rfl) (pe_fn DG GG hr rfl (pa_cons (pv 3) (pa_cons (pv 4) (pa_cons (pe_ix ix_tup (pv 2) pe_int (fun _ _=>rfl)) pa_nil)))))
    (pss_one (ps_set (i:=6) scPTree.nd rfl (Or.inl rfl) (pe_fn DU GU (hr.mono (by decide)) rfl (pa_cons (pv 5) (pa_cons (pe_callB call_len_seq (by rfl) B.len PySem.boot_len (pa_cons (pe_ix ix_tup (pv 0) pe_int (fun _ _=>rfl)) pa_nil)) pa_nil)))))))))
   (pss_one (ps_ret (pe_fn DC GC (hr.mono (by decide)) rfl (pa_cons (pe_fld (pv 6) rfl) pa_nil)))))))))),?_⟩
  obtain ⟨tb0,ePt⟩:=TT.at' H t0
  refine ⟨_,rfl,_,rfl,wA,oA,n,m,hs,hs',M,M',rfl,W1,W2,by omega,by omega,fun r ls H1 s1 Co iff=>⟨r,rfl,?_⟩⟩
  have t1:Tb H1:=TT.keep H H1 t0 fun _ o _ e=>s1 _ _ e
  cases r with
  | true=>exact iteT (q0 ls H1 (fun b o _ e=>s1 _ _ e) (fun x e=>s1.free e) t1 Co (iff.mp rfl))
  | false =>
   have na:¬ (ls.take n).Perm (ls.drop n):=fun z=>by have:=iff.mpr z; cases this
   refine iteF ?_
   refine ⟨_,rfl,_,rfl,wA,oA,n,m,hs,hs',M,M',rfl,(W1.same s1).wr,(W2.same s1).wr,W1.len,W2.len,W1.sq,W2.sq,by omega,by omega,fun pS H2 s2 WN2=>?_⟩
   obtain ⟨hA,rA,rs,b1,b2,b3,RR,bn,_⟩:=WN2.ex
   refine ⟨Nat.zero_le _,fun kl hkl=>?_⟩
   have s3:Same H2 (L2.upd H2 kl (.lst [])):=Same.upd hkl
   have ekl:L2.upd H2 kl (.lst []) kl=some (.lst []):=upd_same
   generalize L2.upd H2 kl (.lst [])=B0 at s3 ekl ⊢
   have s03:Same H B0:=s1.trans (s2.trans s3)
   have lu:(hs++hs').length=n+m:=by rw [List.length_append,W1.len,W2.len]
   have lM:=bes_len (n:=n) (m:=m) W1.sq.len W2.sq.len
   have rM:=bes_rows (n:=n) (m:=m) W1.sq W2.sq
   have ex:=some_parts lu lM rM Co na
   have hN0:0 < n+m:=by
    refine Nat.pos_of_ne_zero fun z=>na ?_
    have:ls=[]:=List.eq_nil_of_length_eq_zero (by rw [←Co.len,lu,z])
    subst this
    simp
   have hbd:∀ q,q < n+m→∀ v,v < n+m→(ent (besM n m M M') q v).natAbs≤2 ^ 72:=fun q hq v _=>ent_bes W1.sq W2.sq hq
   have tB:Tb B0:=TT.keep H B0 t0 fun _ o _ e=>s03 _ _ e
   have hue3:∀ z ∈ hs++hs',0≤z∧z≤3:=fun z hz=>(List.mem_append.mp hz).elim (W1.hb z) (W2.hb z)
   have stay:∀ {H':Hp},Chg (fun b=>b=kl ∨ b=Pt) B0 H'→∀ {x:Addr} {o:HO},B0 x=some o→(∀ tb,o≠.tbl tb)→x≠kl→H' x=some o:=fun {H'} c {x o} e nt nk=>c x o (fun z=>z.elim nk fun z=>by rw [z,s03 _ _ ePt] at e; cases e; exact nt _ rfl) e
   obtain ⟨hA1,rA1,rs1,w1,w2,w3,R1⟩:=W1.wr.ex
   have s02:=s1.trans s2
   have old:∀ {x:Addr} {o:HO},H2 x=some o→x≠kl:=fun e=>ne_of_none e hkl
   have toH:∀ {H':Hp},Chg (fun b=>b=kl ∨ b=Pt) B0 H'→(∀ x,H' x=none→B0 x=none)→Chg (fun b=>b=Pt) H H'∧∀ x,H' x=none→H x=none:=fun {H'} c nn=>⟨fun b o nb e=>c b o (fun z=>z.elim (old (s02 _ _ e)) nb) (s03 _ _ e),fun x e=>s03.free (nn x e)⟩
   have lenW:∀ {H':Hp},Chg (fun b=>b=kl ∨ b=Pt) B0 H'→H' wA=some (.tup [.ref hA1,.ref rA1])∧H' hA1=some (.lst (hs.map V.int)):=fun {H'} c=>⟨stay c (s03 _ _ w1) (fun _ z=>by cases z) (old (s02 _ _ w1)),stay c (s03 _ _ w2) (fun _ z=>by cases z) (old (s02 _ _ w2))⟩
   have bothW:∀ {H':Hp},Chg (fun b=>b=kl ∨ b=Pt) B0 H'→H' pS=some (.tup [.ref hA,.ref rA]):=fun {H'} c=>stay c (s3 _ _ b1) (fun _ z=>by cases z) (old b1)
   have bth:∀ {H':Hp},Chg (fun b=>b=kl ∨ b=Pt) B0 H'→Bth H' rA (n+m) (hs++hs') (besM n m M M'):=fun {H'} c=>⟨⟨rs,stay c (s3 _ _ b3) (fun _ z=>by cases z) (old b3),by rw [gI_len]; exact RR.len,fun i r x h1 h2=>by
    obtain ⟨y,hy,rfl⟩:=map_get h2
    have e:=RR.row i r y h1 hy
    exact stay c (s3 _ _ e) (fun _ z=>by cases z) (old e)⟩,lu,lM,rM,by omega,hbd⟩
   refine ⟨_,rfl,pS,_,_,_,rfl,rfl,SqT.of (s3 _ _ b1),rfl,(fun x=>B0 x=none),hA,hs++hs',besM n m M M',n+m,rfl,s3 _ _ b2,lu,by omega,hue3,(fun x e=>e),fun sl bs ws H4 s4 Nw4 wnd wi wo w4=>?_⟩
   have c4:Chg (fun b=>b=kl ∨ b=Pt) B0 H4:=fun b o _ e=>s4 _ _ e
   have hws:∀ c ∈ ws,∃ q,q < n+m∧hueF (hs++hs') q=c:=fun c hc=>by
    obtain ⟨i,hi⟩:=List.mem_iff_getElem?.mp (wi c hc)
    exact ⟨i,by have:=lt_get hi; rw [lu] at this; exact this,by show (hs++hs')[i]?.getD 0=c; rw [hi]; rfl⟩
   let Wl:Nat→L2.St→Hp→Prop:=fun mm σ H'=>∃ (Kn:Nat) (as:List Addr) (ks:List Tr) (ps:List Nat) (sl:Addr) (bs:List Addr) (S:List Tr) (uv:V),σ=[some (.ref wA),some (.ref oA),some (.ref pS),some (.ref kl),some (.int (Kn:Int)),some (.ref sl),some uv]∧mm=5000 - Kn∧Lps C Pt kl Tb B0 H' n m (hs++hs') (besM n m M M') ws.length Kn as ks ps sl bs S uv
   refine ⟨Wl 4999,?_,?_⟩
   ·have beg:∀ (uv:V) (H5:Hp),Same H4 H5→UnS n m (hs++hs') (besM n m M M') bs (leafL ws) uv→Wl 4999 [some (.ref wA),some (.ref oA),some (.ref pS),some (.ref kl),some (.int 1),some (.ref sl),some uv] H5:=fun uv H5 s5 hu =>
     ⟨1,[],[],[],sl,bs,leafL ws,uv,rfl,rfl,⟨Nat.le_refl _,fun b o _ e=>s5 _ _ (s4 _ _ e),fun x e=>s4.free (s5.free e),TT.keep B0 H5 tB fun _ o _ e=>s5 _ _ (s4 _ _ e),s5 _ _ (s4 _ _ ekl),.start,⟨rfl,rfl,(fun i a t p h=>by cases h),fun i hi=>by rw [List.take_nil,List.take_nil]; exact .nil⟩,.start _,s5 _ _ Nw4.at',Nw4.sp.mono s5,(fun z=>by have e:=Nw4.free; rw [←z,ekl] at e; cases e),Nw4.nw,Nw4.nd,(fun b _ z=>by cases z),sprt_leaf lu wo,(fun z=>absurd z (by omega)),(fun _=>Nat.le_of_eq (leafL_len ws)),by rw [leafL_len]; omega,hu,(fun _ z=>by cases z),gd_leaf fun c hc=>(hue3 c (wi c hc)).1⟩⟩
    obtain ⟨y1,y2⟩:=lenW c4
    refine ⟨_,rfl,_,rfl,wA,_,_,_,rfl,rfl,SqT.of y1,rfl,hA1,_,rfl,.inl (SqL.of y2),?_⟩
    rw [List.length_map,W1.len]
    refine ⟨(fun x=>B0 x=none),sl,bs,leafL ws,n,m,hs++hs',besM n m M M',rfl,Nw4.at',Nw4.sp,by omega,fun H5 s5 al=>beg .non H5 s5 (.inl ⟨rfl,al⟩),fun H5 i a t s5 ha ht ne=>beg (.ref a) H5 s5 (.inr ⟨i,a,t,rfl,ha,ht,ne⟩)⟩
   ·intro σ H5 hW
    refine ⟨Wl,⟨_,hW⟩,?_⟩
    rintro mm σ H6 ⟨Kn,as,ks,ps,sl,bs,S,uv,rfl,rfl,L⟩
    have kb:=L.sr.near ex
    have ll:=most_of L.sr.free L.sr.lt L.sr.alk hN0
    rw [List.length_reverse] at kb ll
    have p11:2 ^ ks.length≤2 ^ 11:=Nat.pow_le_pow_right (by decide) (by omega)
    have e11:(2:Nat) ^ 11=2048:=by decide
    refine ⟨_,rfl,rfl,_,rfl,?_⟩
    rcases L.un with ⟨rfl,al⟩ | ⟨i,a,t,rfl,ha,ht,hne⟩
    ·refine iteT ⟨_,fun σ' H' z=>z,?_⟩
     obtain ⟨x1,x2⟩:=toH L.chg L.nod
     have nPt:B0 Pt≠none:=fun z=>by rw [s03 _ _ ePt] at z; cases z
     have nkl:B0 kl≠none:=fun z=>by rw [ekl] at z; cases z
     have klPt:kl≠Pt:=fun z=>by rw [z,s03 _ _ ePt] at ekl; cases ekl
     have n11:n+m≤12:=by omega
     refine ⟨_,rfl,_,rfl,(fun x=>B0 x=none),kl,sl,as,bs,ks,S,ps,hs++hs',besM n m M M',n,m,Kn,rfl,L.hk,L.hl,⟨L.ka,L.sr.mid⟩,L.sp,nkl,L.nod,L.ne,L.nd,L.ds,n11,hN0,hbd,L.st,al,L.lt,fun as' ks' ps' H7 c7 nn7 hk7 Ke7 sub7=>?_⟩
     have sr7:=Mid.done L.sr L.st L.k1 Ke7.mid
     have ct7:=Cnt.next L.ct L.sr Ke7.mid L.l2 L.l1
     have few:=Cnt.few sr7 ct7 n11 hN0 wnd hws w4
     rw [prC_rev] at few
     have chg7:Chg (fun b=>b=kl ∨ b=Pt) B0 H7:=fun b o nb e=>c7 b o (fun z=>z.elim (fun z=>nb (.inl z)) fun z=>by rw [L.bz b z] at e; cases e) (L.chg b o nb e)
     have nod7:∀ x,H7 x=none→B0 x=none:=fun x e=>L.nod x (nn7 x e)
     have ePt6:∀ b o,(b=Pt ∨ ∃ φ,o=.ext φ)→H6 b=some o→H7 b=some o:=fun b o hb e=>c7 b o (fun z=>by
      rcases hb with rfl | ⟨φ,rfl⟩
      ·exact z.elim (fun z=>klPt z.symm) fun z=>nPt (L.bz _ z)
      ·rcases z with rfl | z
       ·rw [L.hk] at e; cases e
       ·obtain ⟨i,hi⟩:=List.mem_iff_getElem?.mp z
        have hil:=lt_get hi
        obtain ⟨r,Sa⟩:=L.sp.at' i b _ hi (List.getElem?_eq_getElem (by rw [←L.sp.len]; exact hil))
        obtain ⟨dx,p,l,ys,ra,sa,h1,_⟩:=Sa.ex
        rw [h1] at e; cases e) e
     have t7:Tb H7:=TT.keep H6 H7 L.tb ePt6
     have l7:=most_of sr7.free sr7.lt sr7.alk hN0
     rw [List.length_reverse] at l7
     have ec:((Kn:Int)+1)=((Kn+1:Nat):Int):=rfl
     have insA:∀ {H':Hp},KeptAt C (fun x=>B0 x=none) H' (hs++hs') (besM n m M M') (n+m) as' ks' ps'→∀ a ∈ as',∃ dx fs,H' a=some (.ins C dx fs):=fun {H'} A a ha=>by
      obtain ⟨i,hi⟩:=List.mem_iff_getElem?.mp ha
      have hil:=lt_get hi
      obtain ⟨sa,_⟩:=A.sp i a _ _ hi (List.getElem?_eq_getElem (by rw [←A.la]; exact hil)) (List.getElem?_eq_getElem (by rw [A.lp,←A.la]; exact hil))
      obtain ⟨dx,p,l,ys,ra,sa,h1,_⟩:=sa.ex
      exact ⟨dx,_,h1⟩
     have Sp7:Sprs C (fun x=>B0 x=none) H7 as' ks' (trow (hs++hs') (besM n m M M') (n+m)):=⟨Ke7.at'.la,fun i a t h1 h2=>by
      have hil:=lt_get h2
      exact ⟨_,(Ke7.at'.sp i a t _ h1 h2 (List.getElem?_eq_getElem (by rw [Ke7.at'.lp]; exact hil))).1⟩⟩
     obtain ⟨tb7,ePt7⟩:=TT.at' H7 t7
     have kn7:∀ t ∈ ks',t.knots≤4096:=fun t ht=>by have:=sr7.kn t (List.mem_reverse.mpr ht); omega
     refine ⟨_,rfl,_,_,rfl,rfl,⟨_,rfl,_,rfl,_,rfl,pS,_,_,_,rfl,rfl,SqT.of (bothW chg7),rfl,(fun x=>B0 x=none),kl,rA,as',ks',Kn+1,n+m,hs++hs',besM n m M M',rfl,hk7,Sp7,bth chg7,t7,nod7,nPt,kn7,by omega,few,fun sl8 bs8 S8 H8 c8 nn8 t8 Nw8 g1 g2 g3=>?_⟩⟩
     have chg8:Chg (fun b=>b=kl ∨ b=Pt) B0 H8:=fun b o nb e=>c8 b o (fun z=>nb (.inr z)) (chg7 b o nb e)
     have nod8:∀ x,H8 x=none→B0 x=none:=fun x e=>nod7 x (nn8 x e)
     have hk8:H8 kl=some (.lst (as'.map V.ref)):=c8 _ _ klPt hk7
     have ka8:KeptAt C (fun x=>B0 x=none) H8 (hs++hs') (besM n m M M') (n+m) as' ks' ps':=Ke7.at'.chg c8 (fun a ha z=>by obtain ⟨dx,fs,e⟩:=insA Ke7.at' a ha; rw [z,ePt7] at e; cases e) (fun b z=>.inr (by rw [z]; exact nPt))
     have ln8:S8.length=prC (knL ks'.reverse) (knL ks'.reverse) (Kn+1):=by rw [prC_rev]; exact g3
     have gk7:∀ t ∈ ks',Gd t:=fun t ht=>(Ke7.mid.fr t (List.mem_reverse.mpr ht)).elim (fun z=>L.gk t (List.mem_reverse.mp z)) (L.gs t)
     have gs8:∀ t ∈ S8,Gd t:=fun t ht=>by
      obtain ⟨s,hs,b,hb,rfl,_⟩:=g1 t ht
      exact (gk7 s hs).with (gk7 b hb)
     have st8:=sprt_grown (n:=n) (m:=m) (U:=hueF (hs++hs')) (W:=ent (besM n m M M')) sr7.bk (by have:=L.k1; omega) g1 g2
     have nx:∀ (uv:V) (H9:Hp),Same H8 H9→UnS n m (hs++hs') (besM n m M M') bs8 S8 uv→∃ m',m' < 5000 - Kn∧Wl m' [some (.ref wA),some (.ref oA),some (.ref pS),some (.ref kl),some (.int ((Kn+1:Nat):Int)),some (.ref sl8),some uv] H9:=fun uv H9 s9 hu =>
      ⟨5000 - (Kn+1),by omega,Kn+1,as',ks',ps',sl8,bs8,S8,uv,rfl,rfl,⟨by omega,fun b o nb e=>s9 _ _ (chg8 b o nb e),fun x e=>nod8 x (s9.free e),TT.keep H8 H9 t8 fun _ o _ e=>s9 _ _ e,s9 _ _ hk8,sr7,ka8.mono s9,ct7,s9 _ _ Nw8.at',Nw8.sp.mono s9,(fun z=>by have e:=Nw8.free; rw [←z,hk7] at e; cases e),(fun b hb=>nod7 b (Nw8.nw b hb)),Nw8.nd,(fun b hb hb'=>by obtain ⟨dx,fs,e⟩:=insA Ke7.at' b hb'; rw [Nw8.nw b hb] at e; cases e),st8,(fun _=>ln8),(fun z=>by have:=L.k1; omega),by rw [g3]; exact few,hu,gk7,gs8⟩⟩
     obtain ⟨y1,y2⟩:=lenW chg8
     refine ⟨_,rfl,_,rfl,wA,_,_,_,rfl,rfl,SqT.of y1,rfl,hA1,_,rfl,.inl (SqL.of y2),?_⟩
     rw [List.length_map,W1.len]
     refine ⟨(fun x=>B0 x=none),sl8,bs8,S8,n,m,hs++hs',besM n m M M',rfl,Nw8.at',Nw8.sp,by omega,fun H9 s9 al=>nx .non H9 s9 (.inl ⟨rfl,al⟩),fun H9 i a t s9 ha ht ne=>nx (.ref a) H9 s9 (.inr ⟨i,a,t,rfl,ha,ht,ne⟩)⟩
    ·refine iteF ?_
     obtain ⟨r,Sa⟩:=L.sp.at' i a t ha ht
     obtain ⟨dx,p,l,ys,ra,sa,h1,h2,h3,h4,h5,h6,z1,z2,z3,z4⟩:=Sa.ex
     have tm:t ∈ S:=List.mem_of_getElem? ht
     have td:=L.st.dp t tm
     have tk:=L.st.le t tm
     rw [List.length_reverse] at td tk
     refine ⟨_,rfl,a,C,dx,_,_,rfl,h1,T.cl,T.tr,rfl,.ref p,t,rfl,(Spr.tree (C:=C) z1 z2 h2 h3 h4).da,by omega,by omega,fun u H7 s7 d7=>?_⟩
     obtain ⟨x1,x2⟩:=toH L.chg L.nod
     refine q1 ls u t H7 (fun b o nb e=>s7 _ _ (x1 b o nb e)) (fun x e=>x2 x (s7.free e)) (TT.keep H6 H7 L.tb fun _ o _ e=>s7 _ _ e) Co na (d7.weak fun x hx _=>x2 x hx) (L.gs t tm) (by omega) (by omega) ?_
     rw [tau_rows W1.len W1.sq.len (sq_rows W1.sq) W2.sq.len] at hne
     omega
end
section
variable {prog:Program} {w:World} {A:Around} {E:Value→Shared→Prop} {s:Shared}
structure Hu where
 a:Option Tok
 b:Option Tok
 c:Option Tok
 d:Option Tok
def huE (z:Int):Option Tok→List (Int × Value)
 | none=>[]
 | some t=>[(z,.int z t)]
def huP (z:Nat):Option Tok→List Nat
 | none=>[]
 | some _=>[z]
def Hu.es (u:Hu):Array (Int × Value):=(huE 0 u.a++huE 1 u.b++huE 2 u.c++huE 3 u.d).toArray
def Hu.pl (u:Hu):Array Nat:=(huP 0 u.a++huP 1 u.b++huP 2 u.c++huP 3 u.d).toArray
def Hu.tb (u:Hu) (fg mv:Nat) (led:Bool):SetTable:={ mask:=7,place:=u.pl,dummies:=#[],finger:=fg,led:=led,moves:=mv,plain:=true }
def Hu.ob (u:Hu) (ep fg mv:Nat) (led:Bool):Obj:={ cls:=.type "set",dict:=none,data:=.set u.es ep (u.tb fg mv led) }
def Hu.add (u:Hu) (z:Nat) (t:Tok):Hu:=match z with
 | 0=>{ u with a:=u.a.orElse fun _=>some t }
 | 1=>{ u with b:=u.b.orElse fun _=>some t }
 | 2=>{ u with c:=u.c.orElse fun _=>some t }
 | _=>{ u with d:=u.d.orElse fun _=>some t }
def Hu.has (u:Hu) (z:Nat):Bool:=match z with
 | 0=>u.a.isSome
 | 1=>u.b.isSome
 | 2=>u.c.isSome
 | _=>u.d.isSome
theorem Hu.fits (u:Hu) (fg mv:Nat) (led:Bool):(u.tb fg mv led).fits u.es.size=true:=by
 obtain ⟨a,b,c,d⟩:=u
 cases a <;> cases b <;> cases c <;> cases d <;> rfl
theorem Hu.lay (u:Hu) (fg mv:Nat) (led:Bool) {z:Nat} (hz:z < 4) (t:Tok) (h:u.has z=false):layNew (u.tb fg mv led) u.es (z:Int) (.int z t)=((u.add z t).es,(u.add z t).tb fg mv led,false,false):=by
 obtain ⟨a,b,c,d⟩:=u
 have:z=0 ∨ z=1 ∨ z=2 ∨ z=3:=by omega
 rcases this with rfl | rfl | rfl | rfl <;> cases a <;> cases b <;> cases c <;> cases d <;> first | (cases h; done) | kernel_rfl
theorem Hu.full (u:Hu) (fg mv:Nat) (led:Bool):(u.tb fg mv led).tooFull=false:=by
 obtain ⟨a,b,c,d⟩:=u
 cases a <;> cases b <;> cases c <;> cases d <;> rfl
theorem Hu.old (u:Hu) {z:Nat} (t:Tok) (h:u.has z=true):u.add z t=u:=by
 obtain ⟨a,b,c,d⟩:=u
 unfold Hu.has at h
 unfold Hu.add
 split at h <;> simp_all [Option.isSome_iff_exists] <;> (obtain ⟨x,rfl⟩:=h; rfl)
end
section
variable {prog:Program} {w:World} {A:Around} {E:Value→Shared→Prop} {s:Shared}
theorem Hu.elems (u:Hu):ElemsOf (intKind prog w) u.es.toList:=by
 obtain ⟨a,b,c,d⟩:=u
 have one:∀ (z:Nat),z < 4→∀ o,ElemsOf (intKind prog w) (huE (z:Int) o):=fun z hz o=>by
  cases o with
  | none=>exact fun e he=>nomatch he
  | some t =>
   intro e he
   cases List.mem_singleton.mp he
   refine ⟨⟨(z:Int),intKind_is _ _ _ _,?_⟩,rfl⟩
   have:z=0 ∨ z=1 ∨ z=2 ∨ z=3:=by omega
   rcases this with rfl | rfl | rfl | rfl <;> rfl
 intro e he
 rcases List.mem_append.mp he with he | he
 ·rcases List.mem_append.mp he with he | he
  ·rcases List.mem_append.mp he with he | he
   ·exact one 0 (by decide) a e he
   ·exact one 1 (by decide) b e he
  ·exact one 2 (by decide) c e he
 ·exact one 3 (by decide) d e he
theorem Hu.small (u:Hu):u.es.size≤4:=by
 obtain ⟨a,b,c,d⟩:=u
 cases a <;> cases b <;> cases c <;> cases d <;> exact Nat.le_of_ble_eq_true rfl
theorem Hu.find (u:Hu) {z:Nat} (hz:z < 4):(u.es.toList.findIdx? fun e=>(intKind prog w).is (z:Int) e.2).isSome=u.has z:=by
 obtain ⟨a,b,c,d⟩:=u
 have:z=0 ∨ z=1 ∨ z=2 ∨ z=3:=by omega
 rcases this with rfl | rfl | rfl | rfl <;> cases a <;> cases b <;> cases c <;> cases d <;> rfl
theorem hu_add {a:Addr} {u:Hu} {ep fg mv:Nat} {led:Bool} {z:Nat} {t:Tok} {Q:Bool→Shared→Prop} (ho:s.heap.get? a=some (u.ob ep fg mv led)) (hz:z < 4)
  (h:∀ h' ep',Heap.SameBut a s.heap h'→h'.get? a=some ((u.add z t).ob ep' fg mv led)→Q (!u.has z) { s with heap:=h' }):wpAny (model prog w) A (setAddHashed a (.int z t) (z:Int)) Q E s:=by
 have hf:=u.fits fg mv led
 have hsm:=u.small
 have hb:u.es.size < scanBound:=by unfold scanBound; omega
 have hk:(intKind prog w).hash (z:Int)=(z:Int):=by
  have:z=0 ∨ z=1 ∨ z=2 ∨ z=3:=by omega
  rcases this with rfl | rfl | rfl | rfl <;> rfl
 unfold setAddHashed setAddHashedIn
 refine wpAny_holding (wpAny_bind (wpAny_setState_of ho rfl hf ?_))
 dsimp only
 rw [byScan_of (knd:=intKind prog w) rfl hb u.elems]
 simp only [↓reduceIte]
 unfold setAddByScan
 refine wpAny_bind (wpAny_bind (wpAny_rule (wpAny_bind ?_)))
 have sc:=fun Q'=>wpAny_setScan_of (knd:=intKind prog w) (A:=A) (E:=E) (s:=s) (x:=.int z t) (adding:=true) (Q:=Q') (intKind_is _ _ _ _) ho rfl hf u.elems
 rw [hk] at sc
 refine sc _ ?_
 have hfi:=u.find (prog:=prog) (w:=w) hz
 cases hr:List.findIdx? (fun e=>(intKind prog w).is (z:Int) e.2) u.es.toList with
 | some j =>
  rw [hr] at hfi
  have hh:u.has z=true:=hfi.symm
  dsimp only
  refine wpAny_pure (wpAny_pure ?_)
  have q:=h s.heap ep (Heap.SameBut.refl a s.heap) (by rw [u.old t hh]; exact ho)
  rw [hh] at q
  exact q
 | none =>
  rw [hr] at hfi
  have hh:u.has z=false:=hfi.symm
  dsimp only
  rw [u.lay fg mv led hz t hh]
  dsimp only
  refine wpAny_bind (wpAny_pure ?_)
  have hp:((u.add z t).tb fg mv led).plain=true:=rfl
  rw [hp]
  simp only [↓reduceIte]
  refine wpAny_bind ?_
  rw [hashByValue_scannable 8 rfl]
  refine wpAny_pure ?_
  simp only [plainKind,↓reduceIte]
  have hsz:(u.add z t).es.size≤sizeLine:=by have:=(u.add z t).small; rw [sizeLine_eq]; omega
  refine wpAny_bind (wpAny_storeSet_of ho rfl ?_ hsz)
  rw [(u.add z t).full fg mv led]
  simp only [Bool.and_false,Bool.false_eq_true,↓reduceIte]
  refine wpAny_pure (wpAny_pure ?_)
  have hg:=Heap.get?_update_self (Obj.putSet (u.add z t).es ((u.add z t).tb fg mv led)) ho rfl
  have q:=h _ (ep+1) (Heap.SameBut.update s.heap a (Obj.putSet (u.add z t).es ((u.add z t).tb fg mv led))) hg
  rw [hh] at q
  exact q
end
section
open PySem PySem.Spec
theorem Hu.has_add (u:Hu) {y z:Nat} (hy:y < 4) (hz:z < 4) (t:Tok):(u.add z t).has y=(u.has y || decide (y=z)):=by
 obtain ⟨a,b,c,d⟩:=u
 have h1:y=0 ∨ y=1 ∨ y=2 ∨ y=3:=by omega
 have h2:z=0 ∨ z=1 ∨ z=2 ∨ z=3:=by omega
 rcases h1 with rfl | rfl | rfl | rfl <;> rcases h2 with rfl | rfl | rfl | rfl <;> cases a <;> cases b <;> cases c <;> cases d <;> rfl
def Hu.upto (u:Hu) (val:Nat→Nat) (i:Nat):Prop:=∀ z,z < 4→(u.has z=true↔∃ j,j < i∧val j=z)
theorem Hu.upto_zero (val:Nat→Nat):Hu.upto ⟨none,none,none,none⟩ val 0:=fun z _=>by
 have no:Hu.has ⟨none,none,none,none⟩ z=false:=by unfold Hu.has; split <;> rfl
 rw [no]
 exact ⟨fun h=>(nomatch h),fun ⟨j,hj,_⟩=>absurd hj (Nat.not_lt_zero _)⟩
theorem Hu.upto.next {u:Hu} {val:Nat→Nat} {i:Nat} (h:u.upto val i) (hv:val i < 4) (t:Tok):(u.add (val i) t).upto val (i+1):=fun z hz=>by
 rw [u.has_add hz hv t,Bool.or_eq_true,decide_eq_true_eq,h z hz]
 constructor
 ·rintro (⟨j,hj,e⟩ | e)
  ·exact ⟨j,by omega,e⟩
  ·exact ⟨i,by omega,e.symm⟩
 ·rintro ⟨j,hj,e⟩
  by_cases c:j=i
  ·subst c; exact .inr e.symm
  ·exact .inl ⟨j,by omega,e⟩
variable {prog:Program} {w:World} {A:Around} {R:Result→Shared→Prop} {I:Addr} {fp wr:List Addr} {G:Array GenState→Array GenState→Prop} {n:Nat} {P:Nat→Value→Prop} {St:Nat→Shared→Prop}
theorem hu_loop (W:WalksS prog w A.in1 I fp wr G n P St) (S:Addr) (hSf:S ∉ fp) (val:Nat→Nat) (hv:∀ i v,P i v→val i < 4∧∃ t,v=.int (val i:Int) t) {fg mv:Nat} {led:Bool} :
  ∀ (k i:Nat) (s:Shared) (u:Hu) (ep:Nat),n - i=k→i≤n→St i s→s.heap.get? S=some (u.ob ep fg mv led)→u.upto val i →
   (∀ (s':Shared) (u':Hu) (ep':Nat),Moved (S :: wr) G s s'→s'.heap.get? S=some (u'.ob ep' fg mv led)→u'.upto val n→R (.ok (.ret .none)) s')→codeAny (model prog w) A (.builtin "set.update.loop" ⟨[.ref S,.ref I],[]⟩) R s:=by
 have hSw:S ∉ wr:=fun h=>hSf (W.sub _ h)
 intro k
 induction k with
 | zero =>
  intro i s u ep hk hi st hS hu hR
  obtain rfl:i=n:=by omega
  refine codeAny_builtin PyProof.Rows.F.entry_set_update_loop ?_
  rw [Around.under_plainId PyProof.Rows.F.plain_set_update_loop _]
  show wpAny _ A.in1 (pyNext (.ref I) >>= _) _ _ s
  refine wpAny_bind (W.done s _ _ st fun s' hm=>?_)
  exact wpAny_pure (hR s' u ep (hm.mono fun b hb=>List.mem_cons_of_mem _ hb) (hm.heap S _ hSw hS) hu)
 | succ k ih =>
  intro i s u ep hk hi st hS hu hR
  refine codeAny_builtin PyProof.Rows.F.entry_set_update_loop ?_
  rw [Around.under_plainId PyProof.Rows.F.plain_set_update_loop _]
  show wpAny _ A.in1 (pyNext (.ref I) >>= _) _ _ s
  refine wpAny_bind (W.item i s _ _ (by omega) st fun v s' hP st' hm=>?_)
  obtain ⟨h4,t,rfl⟩:=hv i v hP
  have hS':=hm.heap S _ hSw hS
  show wpAny _ A.in1 (holding [Value.int (val i:Int) t] (setAdd S (.int (val i:Int) t)) >>= _) _ _ s'
  refine wpAny_bind (wpAny_holding ?_)
  unfold setAdd
  refine wpAny_holding (wpAny_bind ((intKind prog w).pyHash (k:=(val i:Int)) (intKind_is _ _ _ _) ?_))
  have hk':(intKind prog w).hash (val i:Int)=(val i:Int):=by
   have:val i=0 ∨ val i=1 ∨ val i=2 ∨ val i=3:=by omega
   rcases this with e | e | e | e <;> rw [e] <;> rfl
  rw [hk']
  refine hu_add (s:={ s' with toks:=s'.toks+1 }) hS' h4 fun h' ep' hsb hS2=>?_
  refine wpAny_pure ⟨plainId_quiet PyProof.Rows.F.plain_set_update_loop _,ih (i+1) _ _ ep' (by omega) (by omega) (W.frame _ s' _ _ st' (Nat.le_succ _) fun b hb o e=>?_) hS2 (hu.next h4 t) fun s'' u' e' hm'' hS'' hu''=>?_⟩
  ·rw [hsb.2 b (fun h:b=S=>hSf (by rw [←h]; exact hb))]; exact e
  ·refine hR s'' u' e' (Moved.trans W.gtrans ((hm.mono fun b hb=>List.mem_cons_of_mem _ hb).then_heap (Nat.le_succ _) fun b o hb e=>?_) hm'') hS'' hu''
   rw [hsb.2 b (fun h:b=S=>hb (by rw [h]; exact List.mem_cons_self))]; exact e
end
section
open PySem PySem.Spec
variable {prog:Program} {w:World} {A:Around} {E:Value→Shared→Prop} {s:Shared}
def ledW (w:World):Bool:=!w.params.followText "set-order"
def hu0 (w:World):Obj:={ cls:=.type "set",dict:=none,data:=.set #[] 0 (.fresh 0 0 (ledW w)) }
theorem hu_new (a:Value) {Q₁:Value→Shared→Prop} (h:Q₁ (.ref s.heap.objs.size) { s with heap:=s.heap.push (hu0 w) }) :
  codeAny (model prog w) A (.call (.builtin "set.__new__") ⟨[.type "set",a],[]⟩) (wants Q₁ E) s:=by
 refine codeAny_of_tree ?_
 show wpAny _ A.in1 (do checkBuiltinCall "set.__new__" ⟨[.type "set",a],[]⟩; again (.builtin "set.__new__" ⟨[.type "set",a],[]⟩)) _ _ s
 refine wpAny_bind (wpAny_of_eq (F.newCall_set_1 a) (wpAny_pure ⟨plainId_quiet F.plain_set_new _,codeAny_builtin F.entry_set_new ?_⟩))
 rw [Around.under_plainId F.plain_set_new _]
 unfold Builtin.«set.__new__» Builtin.Frozenset.newClass
 have hsub:=sub_set_self
 obtain ⟨hp,g,d,tk,os⟩:=s
 dsimp only
 wp_walk
 refine wpAny_askSetting (wpAny_pure ?_)
 dsimp only
 simp only [newObj]
 refine wpAny_bind (wpAny_alloc (wpAny_pure ?_))
 exact wpAny_pure h
theorem hu_call {l:Addr} {items:Array Value} {val:Nat→Nat} {Q:Value→Shared→Prop} (hh:A.handled=none) (hl:s.heap.IsList l items) (hv:∀ (i:Nat) (v:Value),items[i]? = some v→val i < 4∧∃ t,v=.int (val i:Int) t)
  (h:∀ (h':Heap) (tk:Nat) (u:Hu) (ep:Nat),h'.get? s.heap.objs.size=some (u.ob ep 0 0 (ledW w))→u.upto val items.size→(∀ b o,b < s.heap.objs.size→s.heap.get? b=some o→h'.get? b=some o)→Q (.ref s.heap.objs.size) { s with heap:=h',toks:=tk }) :
  wpAny (model prog w) A (call (.type "set") [.ref l]) Q E s:=by
 obtain ⟨c,tl,hmro⟩:=F.called_set.mro
 have hmade:=F.called_set.made
 have hsub:=F.called_set.sub
 refine wpAny_call (codeAny_of_tree ?_)
 show wpAny _ _ (callAny (.type "set") _) _ _ _
 refine wpAny_pure ⟨Code.quiet_builtin _ (by decide +kernel),codeAny_builtin F.entry_type_call ?_⟩
 rw [Around.under_plain (weight_type_call_type "set" [.ref l] []) rfl]
 have h1:=F.called_set.notType
 have h2:=F.called_set.canCreate
 have hct:=F.typeCall_set_1 (.ref l)
 repeat (any_goals (first | assumption | wp_step))
 refine codeAny_mono (hu_new (.ref l) (E:=E) (Q₁:=fun obj s₁=>obj=.ref s.heap.objs.size∧s₁={ s with heap:=s.heap.push (hu0 w) }) ⟨rfl,rfl⟩) fun r s₁ hr=>?_
 cases r with
 | error e=>exact hr
 | ok fl =>
  cases fl with
  | ret obj =>
   obtain ⟨rfl,rfl⟩:=hr
   have hS:(s.heap.push (hu0 w)).get? s.heap.objs.size=some (hu0 w):=Heap.get?_push_size _ rfl
   have hT:Shared.TypeIs { s with heap:=s.heap.push (hu0 w) } (.ref s.heap.objs.size) "set":=⟨_,hS,rfl⟩
   have hli:=F.called_set.init.lookup
   have hbi:=F.called_set.init.bind (.ref s.heap.objs.size)
   repeat (any_goals (first | assumption | wp_step))
   refine codeAny_mono (codeAny_call_builtin (R:=wants (fun r s₂=>r=.none∧∃ h' tk u ep,s₂={ s with heap:=h',toks:=tk }∧h'.get? s.heap.objs.size=some (Hu.ob u ep 0 0 (ledW w))∧u.upto val items.size ∧
     (∀ b o,b < s.heap.objs.size→s.heap.get? b=some o→h'.get? b=some o)) E) F.called_set.init.plain F.entry_set_init (check_set_init_1 hT ?_)) fun r₂ s₂ hr₂=>?_
   ·obtain ⟨ol,hol,hcl,nl,hdl⟩:=hl
    obtain ⟨ocls,odict,odata,oslots⟩:=ol
    simp only at hcl hdl
    subst hcl; subst hdl
    have hol':(s.heap.push (hu0 w)).get? l=some { cls:=.type "list",dict:=odict,data:=.seq items nl,slots:=oslots }:=Heap.get?_push_of_some _ hol
    have hsls:=F.sub_list_set
    have hslf:=F.sub_list_frozenset
    have hne:(Value.type "list" == Value.type "dict")=false:=by decide
    have hl1:(s.heap.push (hu0 w)).IsList l items:=⟨_,hol',rfl,nl,rfl⟩
    unfold hu0 at hol' hl1 hS hT ⊢
    unfold Builtin.«set.__init__» noKeywords Builtin.Frozenset.updateFrom
    generalize hPI:pyIter=PI
    wp_walk
    subst hPI
    refine wpAny_pyIter_list hl1 ?_
    refine wpAny_bind (wpAny_runValue ?_)
    have hlS:l < s.heap.objs.size:=Heap.lt_size hol
    have hh3:A.in1.in1.in1.handled=none:=by simp [hh]
    refine hu_loop ((Walks.list hh3 _ l (by rw [Heap.size_push]; exact Nat.ne_of_lt (Nat.lt_succ_of_lt hlS)) items).toS) s.heap.objs.size
     (by rw [Heap.size_push]; simp only [List.mem_cons,List.not_mem_nil,or_false,not_or]; exact ⟨Nat.ne_of_lt (Nat.lt_succ_self _),Nat.ne_of_gt hlS⟩) val hv (items.size - 0) 0 _ ⟨none,none,none,none⟩ 0 rfl (Nat.zero_le _)
     ⟨⟨_,Heap.get?_push_size _ rfl,rfl,rfl⟩,(hl1.push _)⟩ (Heap.get?_push_of_some _ hS) (Hu.upto_zero val) ?_
    intro s' u' ep' hm hS' hu'
    obtain ⟨h',g',d',tk',os'⟩:=s'
    have eg:g'=s.gens:=hm.gens
    have ed:d'=s.drawn:=hm.drawn
    have eo:os'=s.os:=hm.os
    subst eg; subst ed; subst eo
    show wpAny _ _ _ _ _ _
    refine wpAny_pure ?_
    show wpAny _ _ (ret Value.none) _ _ _
    refine wpAny_pure ⟨rfl,h',tk',u',ep',rfl,hS',hu',fun b o hb e=>?_⟩
    refine hm.heap b o ?_ (Heap.get?_push_of_some _ (Heap.get?_push_of_some _ e))
    rw [Heap.size_push]
    simp only [List.mem_cons,List.not_mem_nil,or_false,not_or]
    exact ⟨Nat.ne_of_lt hb,Nat.ne_of_lt (Nat.lt_succ_of_lt hb)⟩
   ·cases r₂ with
    | error e=>exact hr₂
    | ok fl₂ =>
     cases fl₂ with
     | ret r =>
      obtain ⟨rfl,h',tk,u,ep,rfl,hS',hu',hk'⟩:=hr₂
      repeat (any_goals (first | assumption | wp_step))
      exact h _ _ _ _ hS' hu' hk'
     | _=>exact hr₂.elim
  | _=>exact hr.elim
end
section
open PySem PySem.Spec
theorem pick_go {α:Type} (next:Nat→Nat):∀ (f k:Nat) (l:List α) (out:Array α),f=l.length→(pickOrder.go next f k l out).toList.Perm (out.toList++l)
 | 0,k,l,out,h=>by
  have:l=[]:=List.eq_nil_of_length_eq_zero h.symm
  subst this
  unfold pickOrder.go
  rw [List.append_nil]
 | f+1,k,l,out,h=>by
  have lt:next k % l.length < l.length:=Nat.mod_lt _ (by omega)
  unfold pickOrder.go
  rw [List.getElem?_eq_getElem lt]
  refine (pick_go next f (k+1) _ _ (by rw [List.length_eraseIdx_of_lt lt]; omega)).trans ?_
  rw [Array.toList_push,List.append_assoc]
  refine List.Perm.append_left _ ?_
  rw [List.eraseIdx_eq_take_drop_succ]
  have e:l=l.take (next k % l.length)++l[next k % l.length] :: l.drop (next k % l.length+1):=by
   rw [List.getElem_cons_drop,List.take_append_drop]
  refine List.Perm.trans ?_ (List.Perm.of_eq e.symm)
  exact (List.perm_middle (l₁:=List.take (next k % l.length) l)).symm
theorem pick_perm {α:Type} (next:Nat→Nat) (xs:Array α):(pickOrder next xs).toList.Perm xs.toList:=pick_go next xs.size 0 xs.toList #[] (by rw [Array.length_toList])
def huO (w:World) (u:Hu) (a ep:Nat):Array (Int × Value):=if w.params.followText "set-order" then pickOrder (w.params.setOrder a ep) u.es else u.es
theorem huO_perm (w:World) (u:Hu) (a ep:Nat):(huO w u a ep).toList.Perm u.es.toList:=by
 unfold huO
 split
 ·exact pick_perm _ _
 ·exact .refl _
theorem huO_size (w:World) (u:Hu) (a ep:Nat):(huO w u a ep).size=u.es.size:=by
 rw [←Array.length_toList,(huO_perm w u a ep).length_eq,Array.length_toList]
def huS (w:World) (u:Hu):Nat→Nat
 | 0=>0
 | i+1=>if w.params.followText "set-order" then 0 else u.pl.getD i 0+1
theorem Hu.pl_size (u:Hu):u.pl.size=u.es.size:=by
 obtain ⟨a,b,c,d⟩:=u
 cases a <;> cases b <;> cases c <;> cases d <;> rfl
theorem Hu.below (u:Hu):SetTable.below u.pl 0=0∧∀ i,i < 4→i < u.es.size→SetTable.below u.pl (u.pl.getD i 0+1)=i+1:=by
 obtain ⟨a,b,c,d⟩:=u
 refine ⟨?_,fun i h4 hi=>?_⟩
 ·cases a <;> cases b <;> cases c <;> cases d <;> kernel_rfl
 ·have h:i=0 ∨ i=1 ∨ i=2 ∨ i=3:=by omega
  rcases h with rfl | rfl | rfl | rfl <;> cases a <;> cases b <;> cases c <;> cases d <;> first | exact absurd hi (Nat.not_lt_of_le (Nat.le_of_ble_eq_true rfl)) | kernel_rfl
theorem entry_set_iter:entryFor table "set.__iter__" = some Builtin.«frozenset.__iter__»:=entryFor_alias (id':="frozenset.__iter__") (by kernel_rfl) rfl (by decide +kernel) (by kernel_rfl)
theorem slot_setit_next:Slot "set_iterator" "__next__" "set_iterator.__next__" :=
 .of (owner:="set_iterator") (n:="__next__") (by rw [typeLookup_type,builtinLookup_eq_fast]; kernel_rfl) (by decide +kernel) (by decide +kernel) (by decide +kernel)
  (by first | exact .inl (by decide +kernel) | exact .inr (by decide +kernel)) (by rw [isSubtype_type]; kernel_rfl)
theorem entry_setit_next:entryFor table "set_iterator.__next__" = some Builtin.«set_iterator.__next__»:=entryFor_of_tree (by kernel_rfl)
end
section
open PySem PySem.Spec
variable {prog:Program} {w:World} {A:Around} {E:Value→Shared→Prop} {s:Shared}
theorem owner_setit:Manifest.owners.lookup (String.ofList ['r','o','t','a','r','e','t','i','_','t','e','s'].reverse)=some Manifest.sig_set_iterator:=by kernel_rfl
theorem args_setit_next (a:Value):argsOk "set_iterator.__next__" ⟨[a],[]⟩:=by
 unfold argsOk; rw [signature?_of (id:="set_iterator.__next__") (n:=['_','_','t','x','e','n','_','_']) (o:=['r','o','t','a','r','e','t','i','_','t','e','s']) (by kernel_rfl) owner_setit]; kernel_rfl
def huI (w:World) (u:Hu) (a ep i:Nat):Obj:={ cls:=.type "set_iterator",data:=.fields #[.int (huS w u i) 0,.int i 0,.ref a,.int u.es.size 0,.int ep 0] }
theorem hu_iter {a:Addr} {u:Hu} {ep fg mv:Nat} {led:Bool} {Q:Value→Shared→Prop} (ho:s.heap.get? a=some (u.ob ep fg mv led)) (hQ:Q (.ref s.heap.objs.size) { s with heap:=s.heap.push (huI w u a ep 0) }):wpAny (model prog w) A (pyIter (.ref a)) Q E s:=by
 have hT:s.TypeIs (.ref a) "set":=⟨_,ho,rfl⟩
 have hf:=u.fits fg mv led
 refine wpAny_pyIter_slot hT F.slot_set_iter (wpAny_call_entry F.slot_set_iter hT entry_set_iter ?_ (F.args_set_iter_1 _))
 unfold Builtin.«frozenset.__iter__» Builtin.Frozenset.slot0 slotArgs
 simp only [List.isEmpty_nil,Bool.not_true,Bool.false_eq_true,↓reduceIte,bind_assoc,List.length_nil,bne_self_eq_false]
 unfold Builtin.Frozenset.addrOf Builtin.Frozenset.sizeOf
 refine wpAny_bind (wpAny_pure ?_)
 try dsimp only
 refine wpAny_bind (wpAny_pure ?_)
 refine wpAny_bind (wpAny_bind (wpAny_setEntries_of ho rfl hf (wpAny_pure ?_)))
 unfold setDrawn
 refine wpAny_bind ?_
 refine wpAny_bind (wpAny_setState_of ho rfl hf ?_)
 dsimp only
 unfold setsByText
 refine wpAny_bind (wpAny_bind (wpAny_askSetting (wpAny_pure ?_)))
 refine wpAny_pure ?_
 refine wpAny_ite_split (fun h=>Bool.noConfusion (show false=true from (Bool.and_eq_true_iff.mp h).2)) (fun _=>?_)
 refine wpAny_bind (wpAny_pure ?_)
 refine wpAny_bind (wpAny_setEpoch_of ho rfl hf ?_)
 refine wpAny_bind (wpAny_newObj_type (wpAny_pure ⟨_,rfl,"set_iterator",_,⟨_,Heap.get?_push_size _ rfl,rfl⟩,slot_setit_next.lookup,?_⟩))
 exact hQ
end
section
open PySem PySem.Spec
variable {prog:Program} {w:World} {A:Around} {E:Value→Shared→Prop} {s:Shared}
theorem hu_step {a:Addr} {u:Hu} {ep fg mv i:Nat} {Q:Option (Value × Nat)→Shared→Prop} (ho:s.heap.get? a=some (u.ob ep fg mv (ledW w))) (hi:i≤u.es.size)
  (hQ:Q ((huO w u a ep)[i]?.map fun e=>(e.2,huS w u (i+1))) s):wpAny (model prog w) A (setNext a (huS w u i) i ep) Q E s:=by
 have hf:=u.fits fg mv (ledW w)
 have hsm:=u.small
 unfold setNext
 refine wpAny_bind (wpAny_setState_of ho rfl hf ?_)
 dsimp only
 unfold setsByText
 refine wpAny_bind (wpAny_bind (wpAny_askSetting (wpAny_pure ?_)))
 cases hb:w.params.followText "set-order" with
 | true =>
  have hb':(model prog w).w.params.followText "set-order" = true:=hb
  have eO:huO w u a ep=pickOrder (w.params.setOrder a ep) u.es:=by unfold huO; rw [if_pos hb]
  have eS:∀ j,huS w u j=0:=fun j=>by cases j with
   | zero=>rfl
   | succ j=>show (if w.params.followText "set-order" = true then 0 else u.pl.getD j 0+1)=0; rw [if_pos hb]
  rw [eO,eS] at hQ
  dsimp only
  rw [hb',eS]
  simp only [↓reduceIte]
  refine wpAny_ite_split (fun h=>absurd h (by simp)) (fun _=>?_)
  unfold setWalk
  refine wpAny_bind ?_
  refine wpAny_bind (wpAny_setState_of ho rfl hf ?_)
  dsimp only
  unfold setsByText
  refine wpAny_bind (wpAny_bind (wpAny_askSetting (wpAny_pure ?_)))
  dsimp only
  rw [hb']
  simp only [↓reduceIte]
  refine wpAny_bind (wpAny_askSetting (wpAny_pure ?_))
  exact wpAny_pure hQ
 | false =>
  have hb':(model prog w).w.params.followText "set-order" = false:=hb
  have eO:huO w u a ep=u.es:=by unfold huO; rw [if_neg (by rw [hb]; decide)]
  have eS:huS w u (i+1)=u.pl.getD i 0+1:=by show (if w.params.followText "set-order" = true then 0 else u.pl.getD i 0+1)=_; rw [if_neg (by rw [hb]; decide)]
  rw [eO,eS] at hQ
  dsimp only
  rw [hb']
  simp only [Bool.false_eq_true,↓reduceIte]
  refine wpAny_ite_split (fun h=>Bool.noConfusion (show false=true from h)) (fun _=>?_)
  refine wpAny_bind ?_
  have hl:(u.tb fg mv (ledW w)).led=true:=by show ledW w=true; unfold ledW; rw [hb]; rfl
  show wpAny _ _ (if (!(u.tb fg mv (ledW w)).led && !u.es.isEmpty)=true then unsupported _ else pure ()) _ _ _
  refine wpAny_ite_split (fun h=>absurd h (by rw [hl]; simp)) (fun _=>wpAny_pure ?_)
  have hbl:SetTable.below u.pl (huS w u i)=i:=by
   cases i with
   | zero=>exact u.below.1
   | succ j =>
    have e:huS w u (j+1)=u.pl.getD j 0+1:=by show (if w.params.followText "set-order" = true then 0 else u.pl.getD j 0+1)=_; rw [if_neg (by rw [hb]; decide)]
    rw [e]
    exact u.below.2 j (by omega) (by omega)
  show wpAny _ _ (pure (match u.es[SetTable.below u.pl (huS w u i)]?,u.pl[SetTable.below u.pl (huS w u i)]? with
   | some (_,x),some j=>some (x,j+1)
   | _,_=>none)) _ _ _
  rw [hbl]
  refine wpAny_pure ?_
  by_cases c:i < u.es.size
  ·rw [Array.getElem?_eq_getElem c,Array.getElem?_eq_getElem (by rw [u.pl_size]; exact c)]
   rw [Array.getElem?_eq_getElem c] at hQ
   have eg:u.pl.getD i 0=u.pl[i]'(by rw [u.pl_size]; exact c):=by rw [Array.getD_eq_getD_getElem?,Array.getElem?_eq_getElem (by rw [u.pl_size]; exact c)]; rfl
   rw [eg] at hQ
   exact hQ
  ·rw [Array.getElem?_eq_none (by omega)]
   rw [Array.getElem?_eq_none (by omega)] at hQ
   exact hQ
end
section
open PySem PySem.Spec
variable {prog:Program} {w:World} {A:Around} {E:Value→Shared→Prop} {s:Shared}
theorem hu_item {it a:Addr} {u:Hu} {ep fg mv i:Nat} {e:Int × Value} {Q:Option Value→Shared→Prop} (hit:s.heap.get? it=some (huI w u a ep i)) (ho:s.heap.get? a=some (u.ob ep fg mv (ledW w))) (hx:(huO w u a ep)[i]? = some e)
  (hQ:∀ h',h'.get? it=some (huI w u a ep (i+1))→Heap.SameBut it s.heap h'→Q (some e.2) { s with heap:=h' }):wpAny (model prog w) A (pyNext (.ref it)) Q E s:=by
 have hf:=u.fits fg mv (ledW w)
 have hT:s.TypeIs (.ref it) "set_iterator":=⟨_,hit,rfl⟩
 have hi:i < u.es.size:=by
  rw [←huO_size w u a ep]
  exact (Array.getElem?_eq_some_iff.mp hx).1
 unfold pyNext
 refine wpAny_bind (wpAny_attempt (wpAny_callSpecial?_slot (name:=Str.ofString "__next__") hT slot_setit_next (wpAny_call_entry slot_setit_next hT entry_setit_next ?_ (args_setit_next _))))
 unfold Builtin.«set_iterator.__next__» slotArgs
 simp only [List.isEmpty_nil,Bool.not_true,Bool.false_eq_true,↓reduceIte,bind_assoc,List.length_nil,bne_self_eq_false]
 refine wpAny_bind (wpAny_pure ?_)
 dsimp only
 refine wpAny_bind (wpAny_fieldsOf hit rfl ?_)
 dsimp only
 refine wpAny_bind (wpAny_setEntries_of ho rfl hf ?_)
 refine wpAny_ite_split (fun h=>absurd h (by simp)) (fun _=>?_)
 refine wpAny_bind (hu_step ho (Nat.le_of_lt hi) ?_)
 have hx':(huO w u a (ep:Int).toNat)[i]? = some e:=hx
 rw [hx']
 dsimp only [Option.map]
 refine wpAny_bind (wpAny_setField hit rfl (by show 0 < 5; decide) ?_)
 have h1:=Heap.get?_update_self (Obj.mapFields (·.setIfInBounds 0 (rawInt (huS w u (i+1):Int)))) hit rfl
 refine wpAny_bind (wpAny_setField h1 rfl (by show 1 < 5; decide) ?_)
 have h2:=Heap.get?_update_self (Obj.mapFields (·.setIfInBounds 1 (rawInt ((i:Int)+1)))) h1 rfl
 exact wpAny_pure ⟨_,rfl,wpAny_pure (hQ _ h2 ((Heap.SameBut.update ..).trans (Heap.SameBut.update ..)))⟩
theorem hu_end {it a:Addr} {u:Hu} {ep fg mv:Nat} {Q:Option Value→Shared→Prop} (hh:A.handled=none) (hit:s.heap.get? it=some (huI w u a ep u.es.size)) (ho:s.heap.get? a=some (u.ob ep fg mv (ledW w)))
  (hQ:∀ h',Heap.ExtBut it s.heap h'→Q none { s with heap:=h' }):wpAny (model prog w) A (pyNext (.ref it)) Q E s:=by
 have hf:=u.fits fg mv (ledW w)
 have hT:s.TypeIs (.ref it) "set_iterator":=⟨_,hit,rfl⟩
 unfold pyNext
 refine wpAny_bind (wpAny_attempt (wpAny_callSpecial?_slot (name:=Str.ofString "__next__") hT slot_setit_next (wpAny_call_entry slot_setit_next hT entry_setit_next ?_ (args_setit_next _))))
 unfold Builtin.«set_iterator.__next__» slotArgs
 simp only [List.isEmpty_nil,Bool.not_true,Bool.false_eq_true,↓reduceIte,bind_assoc,List.length_nil,bne_self_eq_false]
 refine wpAny_bind (wpAny_pure ?_)
 dsimp only
 refine wpAny_bind (wpAny_fieldsOf hit rfl ?_)
 dsimp only
 refine wpAny_bind (wpAny_setEntries_of ho rfl hf ?_)
 refine wpAny_ite_split (fun h=>absurd h (by simp)) (fun _=>?_)
 refine wpAny_bind (hu_step ho (Nat.le_refl _) ?_)
 have hx':(huO w u a (ep:Int).toNat)[u.es.size]? = none:=Array.getElem?_eq_none (by rw [huO_size]; exact Nat.le_refl _)
 rw [hx']
 dsimp only [Option.map]
 refine wpAny_bind (wpAny_setField hit rfl (by show 2 < 5; decide) ?_)
 refine wpAny_bind ?_
 simp only [newExc,newTuple]
 refine wpAny_bind (wpAny_newObj_type ?_ (by size_fits))
 refine wpAny_bind (m:=firstArgMember _ _) (wpAny_of_eq (a:=Value.none) (by first | rfl | (simp only [firstArgMember]; rfl)) ?_)
 refine wpAny_newObj_type ?_ (by size_fits)
 simp only [raiseNew]
 refine wpAny_bind (wpAny_handled ?_)
 rw [show A.in1.handled=none from hh]
 refine wpAny_bind (wpAny_pure (wpAny_throw ?_))
 refine wpAny_bind (wpAny_isInstance (T:="StopIteration") (b:=true) ⟨_,Heap.get?_push_size _ rfl,rfl⟩ isSubtype_stop ?_)
 exact wpAny_pure (hQ _ (((Heap.SameBut.update ..).extBut.push _).push _))
theorem slot_setit_iter:Slot "set_iterator" "__iter__" "set_iterator.__iter__" :=
 .of (owner:="set_iterator") (n:="__iter__") (by rw [typeLookup_type,builtinLookup_eq_fast]; kernel_rfl) (by decide +kernel) (by decide +kernel) (by decide +kernel)
  (by first | exact .inl (by decide +kernel) | exact .inr (by decide +kernel)) (by rw [isSubtype_type]; kernel_rfl)
theorem entry_setit_iter:entryFor table "set_iterator.__iter__" = some Builtin.«dict_keyiterator.__iter__»:=entryFor_alias (id':="dict_keyiterator.__iter__") (by kernel_rfl) rfl (by decide +kernel) (by kernel_rfl)
theorem args_setit_iter (a:Value):argsOk "set_iterator.__iter__" ⟨[a],[]⟩:=by
 unfold argsOk; rw [signature?_of (id:="set_iterator.__iter__") (n:=['_','_','r','e','t','i','_','_']) (o:=['r','o','t','a','r','e','t','i','_','t','e','s']) (by kernel_rfl) owner_setit]; kernel_rfl
theorem hu_self {it a:Addr} {u:Hu} {ep i:Nat} {Q:Value→Shared→Prop} (hit:s.heap.get? it=some (huI w u a ep i)) (h:Q (.ref it) s):wpAny (model prog w) A (pyIter (.ref it)) Q E s:=by
 have hT:s.TypeIs (.ref it) "set_iterator":=⟨_,hit,rfl⟩
 refine wpAny_pyIter_slot hT slot_setit_iter (wpAny_call_entry slot_setit_iter hT entry_setit_iter ?_ (args_setit_iter _))
 show wpAny _ _ (ret (.ref it)) _ _ s
 exact wpAny_pure ⟨_,rfl,"set_iterator",_,hT,slot_setit_next.lookup,h⟩
theorem hu_walks (hh:A.handled=none) (I a:Addr) (hne:a≠I) (u:Hu) (ep fg mv:Nat):Walks prog w A I [I,a] [I] u.es.size (fun i v=>∃ z,(huO w u a ep)[i]? = some (z,v)) (fun i h=>h.get? I=some (huI w u a ep i)∧h.get? a=some (u.ob ep fg mv (ledW w))) where
 sub:=fun b hb=>by simp at hb; simp [hb]
 frame:=fun _ _ _ st hk=>⟨hk I (by simp) _ st.1,hk a (by simp) _ st.2⟩
 item:=fun i s Q E hi st hQ=>by
  have hlt:i < (huO w u a ep).size:=by rw [huO_size]; exact hi
  refine hu_item st.1 st.2 (Array.getElem?_eq_getElem hlt) fun h' hit' hs'=>?_
  exact hQ _ h' s.toks ⟨_,Array.getElem?_eq_getElem hlt⟩ ⟨hit',by rw [hs'.2 a hne]; exact st.2⟩ fun b o hb e=>hs'.extBut b o (fun h=>hb (by simp [h])) e
 done:=fun s Q E st hQ=>hu_end hh st.1 st.2 fun h' he'=>hQ h' s.toks fun b o hb e=>he' b o (fun h=>hb (by simp [h])) e
 self:=fun _ _ _ _ st hQ=>hu_self st.1 hQ
end
section
open PySem PySem.Spec PySem.W
variable {prog:Program} {w:World} {A:Around} {E:Value→Shared→Prop} {s:Shared} {r:Addr}
theorem hu_hint {Q:Bool→Shared→Prop} (hT:s.TypeIs (.ref r) "set") (h:Q false s):wpAny (model prog w) A (Builtin.List.listLengthHint (.ref r)) Q E s:=by
 unfold Builtin.List.listLengthHint
 refine wpAny_bind (wpAny_specialOf hT PySem.F.slot_set_len.lookup ?_)
 generalize hid:("set.__len__" : String)=id0
 wp_delta
 rw [show splitId id0=some ("set","__len__") from by subst hid; decide +kernel]
 subst hid
 refine wpAny_bind (wpAny_isInstance (T:="set") (b:=true) hT (by rw [isSubtype_type]; kernel_rfl) ?_)
 refine wpAny_ite_split (fun hab=>absurd hab (by decide)) (fun _=>?_)
 refine wpAny_ite_split (fun _=>?_) (fun hab=>absurd (by decide +kernel) hab)
 refine wpAny_bind (wpAny_typeOf hT ?_)
 exact wpAny_pure h
theorem hu_src (u:Hu) (ep fg mv:Nat):KdlSrc prog w "set" r r u.es.size (fun i v=>∃ z,(huO w u r ep)[i]? = some (z,v)) (fun h=>h.get? r=some (u.ob ep fg mv (ledW w))) where
 type:=fun _ hm=>⟨_,hm,rfl⟩
 there:=fun _ hm=>⟨Heap.lt_size hm,Heap.lt_size hm⟩
 keep:=fun _ _ hm hk=>hk r (.inl rfl) _ hm
 notList:=by decide
 notTuple:=by decide
 hint:=fun _ _ _ _ hm hq=>hu_hint ⟨_,hm,rfl⟩ hq
 iter:=fun _ s hh hm=>⟨_,_,(fun _ _ hq=>hu_iter hm hq),hu_walks hh _ r (Nat.ne_of_lt (Heap.lt_size hm)) u ep fg mv,⟨Heap.get?_push_size _ rfl,Heap.get?_push_of_some _ hm⟩⟩
end
section
open PySem PySem.Spec PySem.W
variable {prog:Program} {w:World} {A:Around} {E:Value→Shared→Prop} {s:Shared}
def huV (u:Hu):List Int:=u.es.toList.map (·.1)
theorem Hu.val_at (u:Hu) {e:Int × Value} (h:e ∈ u.es.toList):∃ t,e.2=.int e.1 t:=by
 obtain ⟨a,b,c,d⟩:=u
 have one:∀ z o,e ∈ huE z o→∃ t,e.2=.int e.1 t:=fun z o h=>by
  cases o with
  | none=>cases h
  | some t=>cases List.mem_singleton.mp h; exact ⟨t,rfl⟩
 rcases List.mem_append.mp h with h | h
 ·rcases List.mem_append.mp h with h | h
  ·rcases List.mem_append.mp h with h | h
   ·exact one _ _ h
   ·exact one _ _ h
  ·exact one _ _ h
 ·exact one _ _ h
theorem ints_of:∀ (l:List (Int × Value)),(∀ e ∈ l,∃ t,e.2=.int e.1 t)→IntsAre (l.map (·.2)) (l.map (·.1))
 | [],_=>.nil
 | e :: l,h=>by
  obtain ⟨t,et⟩:=h e List.mem_cons_self
  rw [List.map_cons,List.map_cons,et]
  exact .cons _ t (ints_of l fun x hx=>h x (List.mem_cons_of_mem _ hx))
theorem hu_sorted {a:Addr} {u:Hu} {ep fg mv:Nat} {Q:Value→Shared→Prop} (hh:A.handled=none) (ho:s.heap.get? a=some (u.ob ep fg mv (ledW w)))
  (h:∀ (h':Heap) (tk:Nat) (D:Addr) (c:Nat) (out:Array Value) (ns:List Int),(∀ b o,s.heap.get? b=some o→h'.get? b=some o)→a < D→h'.get? D=some (seqObj "list" out c)→IntsAre out.toList ns→ns.Perm (huV u)→ns.Pairwise (·≤·)→Q (.ref D) { s with heap:=h',toks:=tk }) :
  wpAny (model prog w) A (call (.builtin "sorted") [.ref a]) Q E s:=by
 refine Calls.call_function_entry kind_sorted plain_sorted entry_sorted (args_sorted1 _) ?_
 unfold Builtin.«sorted»
 refine wpAny_bind (m:=checkCount "sorted" 1 1 _) (wpAny_pure ?_)
 have hsm:=u.small
 have hz:u.es.size≤sizeLine:=by rw [sizeLine_eq]; omega
 refine wpAny_bind (kdu_collect (A:=A.in1) (hu_src u ep fg mv) hh ho hz fun h' tk acc hk hacc=>?_)
 have hl:acc.toList.length=u.es.size:=by rw [Array.length_toList]; exact hacc.1
 have eacc:acc.toList=(huO w u a ep).toList.map (·.2):=by
  refine List.ext_getElem? fun j=>?_
  by_cases c:j < u.es.size
  ·obtain ⟨v,hv⟩:∃ v,acc[j]? = some v:=⟨acc[j]'(by have:=hacc.1; omega),Array.getElem?_eq_getElem _⟩
   obtain ⟨z,e⟩:=hacc.2 j v hv
   rw [List.getElem?_map,Array.getElem?_toList,Array.getElem?_toList,hv,e]
   rfl
  ·rw [List.getElem?_eq_none (by omega),List.getElem?_eq_none (by rw [List.length_map,Array.length_toList,huO_size]; omega)]
 have hI:IntsAre acc.toList ((huO w u a ep).toList.map (·.1)):=by
  rw [eacc]
  exact ints_of _ fun e he=>u.val_at ((huO_perm w u a ep).mem_iff.mp he)
 refine wpAny_bind (wpAny_newList ?_ (by rw [hl]; exact hz))
 have hoL:(h'.push (seqObj "list" acc.toList.toArray 0)).get? h'.objs.size=some (seqObj "list" acc.toList.toArray 0):=Heap.get?_push_size _ rfl
 refine wpAny_bind (wpAny_holding (wpAny_call_entry slot_list_sort ⟨_,hoL,rfl⟩ entry_list_sort (list_sort_tree hoL hI (by omega) fun out ns' a1 a2 a3=>⟨_,rfl,?_⟩) (args_list_sort _)))
 obtain ⟨c,hD⟩:=L2.sortedHeap_at (vs:=acc.toList) (out:=out) hoL
 refine wpAny_pure ⟨_,rfl,h _ tk h'.objs.size c out ns' (fun b o e=>?_) ?_ hD a1 (a2.trans ((huO_perm w u a ep).map _)) a3⟩
 ·have e':=hk b o e
  exact L2.sortedHeap_old (Nat.ne_of_lt (Heap.lt_size e')) (Heap.get?_push_of_some _ e')
 ·exact Heap.lt_size (hk _ _ ho)
end
section
open PySem PySem.Spec PySem.W
variable {X:Cx}
theorem huV_nodup (u:Hu):(huV u).Nodup:=by
 obtain ⟨a,b,c,d⟩:=u
 cases a <;> cases b <;> cases c <;> cases d <;> (show List.Nodup (_:List Int); simp [huV,Hu.es,huE])
theorem huV_mem (u:Hu) (z:Int):z ∈ huV u↔∃ y:Nat,y < 4∧z=(y:Int)∧u.has y=true:=by
 obtain ⟨a,b,c,d⟩:=u
 have one:∀ (y:Nat) (o:Option Tok),z ∈ (huE (y:Int) o).map (·.1)↔z=(y:Int)∧o.isSome=true:=fun y o=>by cases o <;> simp [huE]
 have e:huV ⟨a,b,c,d⟩=(huE 0 a).map (·.1)++(huE 1 b).map (·.1)++(huE 2 c).map (·.1)++(huE 3 d).map (·.1):=by simp [huV,Hu.es]
 rw [e,List.mem_append,List.mem_append,List.mem_append]
 have o0:=one 0 a
 have o1:=one 1 b
 have o2:=one 2 c
 have o3:=one 3 d
 constructor
 ·rintro (((h | h) | h) | h)
  ·exact ⟨0,by decide,o0.mp h⟩
  ·exact ⟨1,by decide,o1.mp h⟩
  ·exact ⟨2,by decide,o2.mp h⟩
  ·exact ⟨3,by decide,o3.mp h⟩
 ·rintro ⟨y,hy,h1,h2⟩
  have:y=0 ∨ y=1 ∨ y=2 ∨ y=3:=by omega
  rcases this with rfl | rfl | rfl | rfl
  ·exact .inl (.inl (.inl (o0.mpr ⟨h1,h2⟩)))
  ·exact .inl (.inl (.inr (o1.mpr ⟨h1,h2⟩)))
  ·exact .inl (.inr (o2.mpr ⟨h1,h2⟩))
  ·exact .inr (o3.mpr ⟨h1,h2⟩)
def tSS (K:PySem.W.Frag) (ta:TA):TE:=fun σ H Q=>ta σ H fun vs H1=>∃ (p:Addr) (ns:List Int),vs=[.ref p]∧SqL K H1 p (ns.map V.int)∧(∀ z ∈ ns,0≤z∧z≤3) ∧
 ∀ (l:Addr) (ws:List Int),H1 l=none→ws.Nodup→ws.Pairwise (·≤·)→(∀ c,c ∈ ws↔c ∈ ns)→Q (.ref l) (upd H1 l (.lst (ws.map V.int)))
theorem boot_setT:bootBuiltins "set" = some (.type "set"):=by decide +kernel
theorem pe_sortedSet {a:Expr} {ta:TA} {p p' pos pos':Pos} (hc:X.calm=true) (hg:Gl X "set") (hm:X.mg "set" = none) (hg':Gl X "sorted") (hm':X.mg "sorted" = none) (ha:PA X [a] ta)
  (hs:starEach [a] X.env=(false,eval a X.env) :: starEach [] X.env:=by rfl) (hpl:(backTo pos (starEach [] X.env)).any (·.1)=false:=by rfl)
  (hs2:starEach [Expr.Call (.Name "set" p) [a] [] pos] X.env=[(false,eval (.Call (.Name "set" p) [a] [] pos) X.env)]:=by rfl) :
  PE X (.Call (.Name "sorted" p') [.Call (.Name "set" p) [a] [] pos] [] pos') (tSS X.K ta):=by
 intro pins s σ H Q I h
 refine wpAny_Call_Name_kw (ld_blt I hg' hm' boot_srt ?_)
 refine PyProof.Rows.callWith_builtin1 ?_ hs2 rfl
 rw [hs2]
 show wpAny _ _ (spliced ((false,eval (.Call (.Name "set" p) [a] [] pos) X.env) :: backTo pos' [])) _ _ _
 refine Calls.spliced_cons ?_
 refine wpAny_Call_Name_kw (ld_blt I hg hm boot_setT (PyProof.Rows.callWith_type1 (thn (ha pos pins s σ H _ I h) fun us s1 ⟨vs,H1,I1,r1,q1⟩=>?_) hs hpl))
 obtain ⟨l,ns,rfl,hx,h3,q⟩:=q1
 obtain ⟨u0,rfl,rx⟩:=vals1 r1
 cases rx
 obtain ⟨its,rv,pl,hz⟩:=I1.list hx
 have hh:X.A.handled=none:=I1.ok.hd hc
 have hlen:=rv.length
 rw [List.length_map] at hlen
 have vat:∀ (i:Nat) (x:Int),ns[i]? = some x→((ns.getD i 0).toNat < 4∧x=((ns.getD i 0).toNat:Int)):=fun i x hi=>by
  have b:=h3 x (List.mem_of_getElem? hi)
  rw [List.getD_eq_getElem?_getD,hi]
  show x.toNat < 4∧x=(x.toNat:Int)
  omega
 refine hu_call (val:=fun i=>(ns.getD i 0).toNat) hh pl.isList (fun i v e=>?_) fun h1 tk1 u ep e1 up k1=>?_
 ·rw [List.getElem?_toArray] at e
  obtain ⟨x,t,ex,rfl⟩:=int_at rv i v e
  obtain ⟨b1,b2⟩:=vat i x ex
  exact ⟨b1,t,by rw [←b2]⟩
 refine Calls.spliced_nil ?_
 refine hu_sorted (s:={ s1 with heap:=h1,toks:=tk1 }) hh e1 fun h' tk D c out ws k2 lt eD iw pw sw=>?_
 have hD:H1 D=none:=I1.hok.fresh (Nat.le_of_lt lt)
 have hmem:∀ z,z ∈ ws↔z ∈ ns:=fun z=>by
  rw [pw.mem_iff,huV_mem]
  rw [List.size_toArray,←hlen] at up
  constructor
  ·rintro ⟨y,hy,rfl,hu⟩
   obtain ⟨j,hj,e⟩:=(up y hy).mp hu
   have ej:ns[j]? = some ns[j]:=List.getElem?_eq_getElem hj
   obtain ⟨_,b2⟩:=vat j _ ej
   have:((y:Nat):Int)=ns[j]:=by rw [b2,←e]
   rw [this]
   exact List.mem_of_getElem? ej
  ·intro hz
   obtain ⟨j,hj⟩:=List.mem_iff_getElem?.mp hz
   obtain ⟨b1,b2⟩:=vat j z hj
   exact ⟨(ns.getD j 0).toNat,b1,b2,(up _ b1).mpr ⟨j,(List.getElem?_eq_some_iff.mp hj).1,rfl⟩⟩
 have small:ws.length≤4:=by
  rw [pw.length_eq]
  show (u.es.toList.map (·.1)).length≤4
  rw [List.length_map,Array.length_toList]
  exact u.small
 refine ⟨.ref D,_,I1.laid (t':=tk) (fun b o z=>k2 b o (k1 b o (Heap.lt_size z) z)) (Nat.le_of_lt lt) ?_,rfl,q D ws hD (pw.nodup_iff.mpr (huV_nodup u)) sw hmem⟩
 refine ⟨?_,out.toList,c,vals_ints iw,eD⟩
 rw [List.length_map]
 exact Nat.le_of_lt (small1000 (by omega))
end
theorem leaf_none (hs:List Int) (M:List (List Int)) (N:Nat):trow hs M N (.nd none [])=List.replicate N 1:=by
 refine List.ext_getElem? fun i=>?_
 unfold trow
 by_cases c:i < N
 ·rw [List.getElem?_map,List.getElem?_range c,List.getElem?_replicate,if_pos c]
  rfl
 ·rw [List.getElem?_eq_none (by rw [List.length_map,List.length_range]; omega),List.getElem?_replicate,if_neg c]
theorem leaf_some {hs:List Int} (M:List (List Int)) {N:Nat} (hl:hs.length=N) (c:Int):trow hs M N (.nd (some c) [])=hs.map fun h=>if h=c then 1 else 0:=by
 refine List.ext_getElem? fun i=>?_
 unfold trow
 by_cases ci:i < N
 ·have e:hs[i]? = some (hueF hs i):=by
   show hs[i]? = some (hs[i]?.getD 0)
   rw [List.getElem?_eq_getElem (by omega)]
   rfl
  rw [List.getElem?_map,List.getElem?_range ci,List.getElem?_map,e]
  show some (Tr.val N (hueF hs) (ent M) (.nd (some c) []) i)=some (if hueF hs i=c then 1 else 0)
  congr 1
  show (if hueF hs i=c then (1:Int) else 0) * 1=_
  rw [Int.mul_one]
 ·rw [List.getElem?_eq_none (by rw [List.length_map,List.length_range]; omega),List.getElem?_eq_none (by rw [List.length_map]; omega)]
section
variable {P:Program} {w:World} {K:PySem.W.Frag} {mg:Str→Option Value} {base:Heap}
abbrev nLeafs:List Str:=["hues","leaves","wish"]
theorem scLeafs:FnScope nLeafs ["hues"] (defScope sLeafs):=by constructor<;>first|rfl|decide +kernel
def exprOf (s:Stmt):Expr:=match s with
 | .Expr e _=>e
 | _=>.Name "x" ⟨0,0,0,0⟩
theorem lcLeafs:LcScopes (defScope sLeafs) nLeafs (lcScope (argAt (argAt (exprOf (forBody (bodyAt sLeafs 1) 0)) 0) 3)) ["hue"]:=by constructor<;>first|rfl|decide +kernel
theorem Spr.weak {C:Addr} {Z Z':Addr→Prop} {H:Hp} {a:Addr} {t:Tr} {row rest:List Int} (S:Spr C Z H a t row rest) (hZ:∀ x,Z x→H x≠none→Z' x):Spr C Z' H a t row rest:=by
 obtain ⟨dx,p,l,ys,ra,sa,h1,h2,h3,h4,h5,h6,z1,z2,z3,z4⟩:=S.ex
 exact ⟨dx,p,l,ys,ra,sa,h1,h2,h3,h4.weak hZ,h5,h6,hZ _ z1 (by rw [h2]; exact nofun),hZ _ z2 (by rw [h3]; exact nofun),hZ _ z3 (by rw [h5]; exact nofun),hZ _ z4 (by rw [h6]; exact nofun)⟩
theorem Sprs.weak {C:Addr} {Z Z':Addr→Prop} {H:Hp} {as:List Addr} {ts:List Tr} {row:Tr→List Int} (S:Sprs C Z H as ts row) (hZ:∀ x,Z x→H x≠none→Z' x):Sprs C Z' H as ts row:=⟨S.len,fun i a t h1 h2=>let ⟨r,h⟩:=S.at' i a t h1 h2; ⟨r,h.weak hZ⟩⟩
structure Grw (C:Addr) (Z:Addr→Prop) (H H':Hp) (row:Tr→List Int) (lv:Addr) (bs:List Addr) (S:List Tr):Prop where
 same:Same H H'
 free:H lv=none
 at':H' lv=some (.lst (bs.map V.ref))
 sp:Sprs C (fun x=>Z x∧x≠lv) H' bs S row
 nd:bs.Nodup
 nw:∀ b ∈ bs,H b=none
theorem Grw.new {C:Addr} {Z:Addr→Prop} {H H':Hp} {row:Tr→List Int} {lv:Addr} {bs:List Addr} {S:List Tr} (G:Grw C Z H H' row lv bs S):New C Z H H' row lv bs S:=⟨G.free,G.at',G.sp.weak fun _ z _=>z.1,G.nd,G.nw⟩
theorem Grw.mono {C:Addr} {Z:Addr→Prop} {H H' H2:Hp} {row:Tr→List Int} {lv:Addr} {bs:List Addr} {S:List Tr} (G:Grw C Z H H' row lv bs S) (s:Same H' H2):Grw C Z H H2 row lv bs S:=⟨G.same.trans s,G.free,s _ _ G.at',G.sp.mono s,G.nd,G.nw⟩
theorem Sprs.ins {C:Addr} {Z:Addr→Prop} {H:Hp} {as:List Addr} {ts:List Tr} {row:Tr→List Int} (S:Sprs C Z H as ts row) {b:Addr} (hb:b ∈ as):∃ dx fs,H b=some (.ins C dx fs):=by
 obtain ⟨i,hi⟩:=List.mem_iff_getElem?.mp hb
 have hil:=lt_get hi
 obtain ⟨r,Sa⟩:=S.at' i b _ hi (List.getElem?_eq_getElem (by rw [←S.len]; exact hil))
 obtain ⟨dx,p,l,ys,ra,sa,h1,_⟩:=Sa.ex
 exact ⟨dx,_,h1⟩
theorem Grw.push {C:Addr} {Z:Addr→Prop} {H H' H2:Hp} {row:Tr→List Int} {lv:Addr} {bs:List Addr} {S:List Tr} (G:Grw C Z H H' row lv bs S) {c:Addr} {t:Tr} (s:Same H' H2) (hc:H' c=none) (Sp:Spr C (fun x=>Z x∧x≠lv) H2 c t (row t) (row t)) :
  Grw C Z H (upd H2 lv (.lst ((bs++[c]).map V.ref))) row lv (bs++[c]) (S++[t]):=by
 have G2:=G.mono s
 have cl:c≠lv:=fun z=>by have:=G.at'; rw [←z,hc] at this; cases this
 have chg:Chg (fun b=>b=lv) H2 (upd H2 lv (.lst ((bs++[c]).map V.ref))):=fun b o nb e=>by rw [upd_ne nb]; exact e
 have hS:∀ b,b=lv→(∃ C dx fs,H2 b=some (.ins C dx fs)) ∨ ¬ (Z b∧b≠lv):=fun b e=>.inr fun z=>z.2 e
 refine ⟨fun b o e=>by rw [upd_ne (ne_of_none e G.free)]; exact G2.same b o e,G.free,upd_same,⟨by rw [List.length_append,List.length_append,G.sp.len]; rfl,fun i a t' h1 h2=>?_⟩,?_,fun b hb=>?_⟩
 ·by_cases hi:i < bs.length
  ·rw [List.getElem?_append_left hi] at h1
   rw [List.getElem?_append_left (by rw [←G.sp.len]; exact hi)] at h2
   obtain ⟨r,Sa⟩:=G2.sp.at' i a t' h1 h2
   exact ⟨r,Sa.chg chg (fun z=>by
    obtain ⟨dx,fs,e⟩:=G2.sp.ins (List.mem_of_getElem? h1)
    rw [z,G2.at'] at e; cases e) hS⟩
  ·rw [List.getElem?_append_right (by omega)] at h1
   rw [List.getElem?_append_right (by rw [←G.sp.len]; omega),←G.sp.len] at h2
   have hz:i - bs.length=0:=by have:=lt_get h1; rw [List.length_singleton] at this; omega
   rw [hz] at h1 h2
   cases h1
   cases h2
   exact ⟨_,Sp.chg chg cl hS⟩
 ·refine List.nodup_append.mpr ⟨G.nd,List.nodup_cons.mpr ⟨List.not_mem_nil,List.nodup_nil⟩,fun a ha b hb z=>?_⟩
  rw [List.mem_singleton.mp hb] at z
  obtain ⟨dx,fs,e⟩:=G.sp.ins ha
  rw [z,hc] at e; cases e
 ·rcases List.mem_append.mp hb with hb | hb
  ·exact G.nw b hb
  ·rw [List.mem_singleton.mp hb]; exact G.same.free hc
theorem leaf_spr {C:Addr} {Z:Addr→Prop} {H:Hp} {c cx tp y rA:Addr} {wi:Option Int} {row:List Int} (e1:H c=some (.ins C cx (sprF (.ref tp) 1 1 rA rA))) (e2:H tp=some (.tup [vWish wi,.ref y])) (e3:H y=some (.lst [])) (e4:H rA=some (.lst (row.map V.int))) (z1:Z tp) (z2:Z y) (z3:Z rA):Spr C Z H c (.nd wi []) row row :=
 ⟨cx,tp,y,[],rA,rA,e1,e2,e3,.nil,e4,e4,z1,z2,z3,z3⟩
theorem hue_len {ws:List Int} (nd:ws.Nodup) (h:∀ z ∈ ws,0≤z∧z≤3):ws.length≤4:=by
 have e:=nd_len 4 (ws.map Int.toNat) (List.pairwise_map.mpr (nd.imp_of_mem fun {a b} ha hb hne z=>hne (by have:=h a ha; have:=h b hb; omega))) fun x hx=>by
  obtain ⟨z,hz,rfl⟩:=List.mem_map.mp hx
  have:=h z hz
  omega
 rw [List.length_map] at e
 exact e
theorem flat_ones (n:Nat):(List.replicate n [V.int 1]).flatten=(List.replicate n (1:Int)).map V.int:=by
 induction n with
 | zero=>rfl
 | succ n ih=>rw [List.replicate_succ,List.flatten_cons,ih]; rfl
theorem ok_leafs {f fI C:Addr} {fd fdI:FuncData} (B:BltS mg) (T:ClsS K C) (F:Fun K "leaf_sprouts" "leaf_sprouts" sLeafs f fd)
  (hC:mg "Sprout" = some (.ref C)) (MK:Mk K C fI) (bI:Binds K fdI aInitS []) (GI:FnOk P w K mg base CX0 1 fI fdI aInitS (spInitS C)):FnOk P w K mg base CX0 42 f fd ["hues"] (spLeafs C):=by
 refine F.ok scLeafs (fun vs H Q E h=>?_) (fun cdv A outer s H vs Q E hr h=>?_)
 ·obtain ⟨Z,hA,hs,M,N,rfl,_⟩:=h
  rfl
 ·obtain ⟨Z,hA,hs,M,N,rfl,hH,hN,h12,h3,hz,q⟩:=h
  refine ⟨_,pss_cons (ps_set (i:=1) scLeafs.nd rfl (Or.inl rfl) (pe_lst (pa_cons (pe_make MK GI (hr.mono (by decide)) rfl hC bI .nil pass0 (pa_cons (pe_tup (pa_cons pe_non (pa_cons (pe_lst pa_nil) pa_nil))) (pa_cons pe_int (pa_cons pe_int (pa_cons (pe_op op_rep (pe_lst (pa_cons pe_int pa_nil)) (pe_callB call_len_seq (by rfl) B.len PySem.boot_len (pa_cons (pv 0) pa_nil))) pa_nil))))) pa_nil)))
   (pss_cons (ps_for PassesOwn.never rfl (pi_list (pe_sortedSet rfl (by rfl) B.set (by rfl) B.sorted (pa_cons (pv 0) pa_nil))) (pg_name (i:=2) scLeafs.nd rfl (Or.inr rfl))
    (pss_one (ps_expr (pe_bm PySem.F.plainAttrs_list PySem.F.slot_list_append PySem.F.type_list_append mt_append (pv 1) (pa_cons (pe_make MK GI (hr.mono (by decide)) rfl hC bI .nil pass0 (pa_cons (pe_tup (pa_cons (pv 2) (pa_cons (pe_lst pa_nil) pa_nil))) (pa_cons pe_int (pa_cons pe_int (pa_cons (pe_lc1 rfl lcLeafs rfl (pi_list (pv 0)) (fun _ _ _=>pe_ifExp (pt_cmpR op_eq (pv 3) (pv 2) (nomark _)) pe_int pe_int)) pa_nil))))) pa_nil)))))
   (pss_one (ps_ret (pv 1)))),?_⟩
  refine ⟨Nat.zero_le _,fun y hy=>⟨(by show 2≤sizeLine; decide),fun tp htp=>⟨(by show 1≤sizeLine; decide),fun x1 hx1=>?_⟩⟩⟩
  have s1:=(Same.upd (o:=.lst []) hy).trans ((Same.upd (o:=.tup [.non,.ref y]) htp).trans (Same.upd (o:=.lst [.int 1]) hx1))
  have ey:L2.upd (L2.upd (L2.upd H y (.lst [])) tp (.tup [.non,.ref y])) x1 (.lst [.int 1]) y=some (.lst []):=((Same.upd htp).trans (Same.upd hx1)) _ _ upd_same
  have et:L2.upd (L2.upd (L2.upd H y (.lst [])) tp (.tup [.non,.ref y])) x1 (.lst [.int 1]) tp=some (.tup [.non,.ref y]):=(Same.upd hx1) _ _ upd_same
  have ex:L2.upd (L2.upd (L2.upd H y (.lst [])) tp (.tup [.non,.ref y])) x1 (.lst [.int 1]) x1=some (.lst [.int 1]):=upd_same
  have ht0:H tp=none:=(Same.upd hy).free htp
  generalize L2.upd (L2.upd (L2.upd H y (.lst [])) tp (.tup [.non,.ref y])) x1 (.lst [.int 1])=H1 at *
  refine ⟨_,rfl,hA,_,rfl,.inl (SqL.of (s1 _ _ hH)),x1,_,_,rfl,rfl,ex,by rw [List.length_map]; omega,by rw [List.length_map]; omega,?_,fun rA hrA=>?_⟩
  ·rw [List.length_map,List.length_singleton]; exact Nat.le_of_lt (small1000 (by omega))
  ·have e0:(List.replicate (((List.map V.int hs).length:Nat):Int).toNat [V.int 1]).flatten=(trow hs M N (.nd none [])).map V.int:=by
    rw [leaf_none,←flat_ones,List.length_map,hN]; rfl
   rw [e0]
   have s2:=s1.trans (Same.upd (o:=.lst ((trow hs M N (.nd none [])).map V.int)) hrA)
   have ey2:=(Same.upd (o:=.lst ((trow hs M N (.nd none [])).map V.int)) hrA) _ _ ey
   have et2:=(Same.upd (o:=.lst ((trow hs M N (.nd none [])).map V.int)) hrA) _ _ et
   have er2:L2.upd H1 rA (.lst ((trow hs M N (.nd none [])).map V.int)) rA=some (.lst ((trow hs M N (.nd none [])).map V.int)):=upd_same
   have hr0:=s1.free hrA
   generalize L2.upd H1 rA (.lst ((trow hs M N (.nd none [])).map V.int))=H2 at *
   refine fun c cx hc hcx hne=>?_
   have sc:Same H2 (L2.upd (L2.upd H2 cx (.own c)) c (.ins C cx [])):=fun b o e=>by rw [upd_ne (ne_of_none e hc),upd_ne (ne_of_none e hcx)]; exact e
   refine ⟨c,cx,rA,.ref tp,1,1,rfl,upd_same,fun H4 b4 e4=>⟨rfl,?_⟩⟩
   have s4:Same H2 H4:=fun x o e=>b4 x o (ne_of_none e hc) (sc x o e)
   refine ⟨(by show 1≤sizeLine; decide),fun lv hlv=>?_⟩
   have s5:Same H4 (L2.upd H4 lv (.lst [.ref c])):=Same.upd hlv
   have el:L2.upd H4 lv (.lst [.ref c]) lv=some (.lst ([c].map V.ref)):=upd_same
   generalize L2.upd H4 lv (.lst [.ref c])=H5 at *
   have s04:=s2.trans s4
   have lv0:H lv=none:=s04.free hlv
   have apart:∀ {x:Addr} {o:HO},H4 x=some o→x≠lv:=fun e=>ne_of_none e hlv
   have Sp0:Spr C (fun x=>Z x∧x≠lv) H5 c (.nd none []) (trow hs M N (.nd none [])) (trow hs M N (.nd none [])) :=
    leaf_spr (s5 _ _ e4) (s5 _ _ (s4 _ _ et2)) (s5 _ _ (s4 _ _ ey2)) (s5 _ _ (s4 _ _ er2)) ⟨hz _ ht0,apart (s4 _ _ et2)⟩ ⟨hz _ hy,apart (s4 _ _ ey2)⟩ ⟨hz _ hr0,apart (s4 _ _ er2)⟩
   have G0:Grw C Z H H5 (trow hs M N) lv [c] (leafL []):=⟨s04.trans s5,lv0,el,⟨rfl,fun i a t h1 h2=>by
    have:i=0:=by have:=lt_get h1; rw [List.length_singleton] at this; omega
    subst this; cases h1; cases h2; exact ⟨_,Sp0⟩⟩,List.nodup_cons.mpr ⟨List.not_mem_nil,List.nodup_nil⟩,fun b hb=>by rw [List.mem_singleton.mp hb]; exact s2.free hc⟩
   refine ⟨_,rfl,hA,hs,rfl,SqL.of (G0.same _ _ hH),h3,fun ls ws hls wnd _ wiff=>?_⟩
   have s6:Same H5 (L2.upd H5 ls (.lst (ws.map V.int))):=Same.upd hls
   have els:L2.upd H5 ls (.lst (ws.map V.int)) ls=some (.lst (ws.map V.int)):=upd_same
   generalize L2.upd H5 ls (.lst (ws.map V.int))=H6 at *
   have nls:ls≠lv:=fun z=>by rw [z,el] at hls; cases hls
   have w4:ws.length≤4:=by
    exact hue_len wnd fun z hz'=>h3 z ((wiff z).mp hz')
   refine ⟨ls,rfl,⟨_,SqL.of els⟩,for_list (K:=K) (xs:=ws.map V.int) (fun i σ H'=>∃ (o2:Option V) (bs:List Addr),σ=[some (.ref hA),some (.ref lv),o2]∧Grw C Z H H' (trow hs M N) lv bs (leafL (ws.take i))∧H' ls=some (.lst (ws.map V.int))) ⟨none,[c],rfl,G0.mono s6,els⟩ (fun i σ H' _ ⟨_,_,_,_,e⟩=>SqL.of e) ?_ ?_⟩
   ·rintro i x σ H7 hx ⟨o2,bs,rfl,G,e7⟩
    obtain ⟨z,hz',rfl⟩:=map_get hx
    refine ⟨_,rfl,.inl ⟨rfl,_,SqL.of G.at'⟩,_,rfl,Nat.zero_le _,fun y hy=>⟨(by show 2≤sizeLine; decide),fun tp htp=>?_⟩⟩
    have s7:=(Same.upd (o:=.lst []) hy).trans (Same.upd (o:=.tup [.int z,.ref y]) htp)
    have ey:L2.upd (L2.upd H7 y (.lst [])) tp (.tup [.int z,.ref y]) y=some (.lst []):=(Same.upd htp) _ _ upd_same
    have et:L2.upd (L2.upd H7 y (.lst [])) tp (.tup [.int z,.ref y]) tp=some (.tup [.int z,.ref y]):=upd_same
    have ht0:H7 tp=none:=(Same.upd hy).free htp
    generalize L2.upd (L2.upd H7 y (.lst [])) tp (.tup [.int z,.ref y])=H8 at *
    refine ⟨_,rfl,hA,rfl,⟨_,SqL.of (s7 _ _ (G.same _ _ hH))⟩,fun rA hrA=>?_⟩
    refine lc_ints (xs:=hs.map V.int) (trow hs M N (.nd (some z) [])) (by rw [trow_len,List.length_map,hN]) (by rw [List.length_map]; omega) hrA (SqL.of (s7 _ _ (G.same _ _ hH))) ?_ ?_ ?_
    ·intro j x c H' hx hc s'
     obtain ⟨h,eh,rfl⟩:=map_get hx
     rw [leaf_some M hN,List.getElem?_map,eh] at hc
     cases hc
     refine ⟨_,rfl,_,rfl,rfl,_,rfl,?_⟩
     by_cases e:h=z
     ·have d:decide (V.int h=V.int z)=true:=by rw [e]; simp
      rw [d]
      exact iteT ⟨by show V.int 1=V.int (if h=z then 1 else 0); rw [if_pos e],rfl⟩
     ·rw [decide_eq_false (fun y=>e (V.int.inj y))]
      exact iteF ⟨by show V.int 0=V.int (if h=z then 1 else 0); rw [if_neg e],rfl⟩
    ·have s9:=s7.trans (Same.upd (o:=.lst ((trow hs M N (.nd (some z) [])).map V.int)) hrA)
     have ey2:=(Same.upd (o:=.lst ((trow hs M N (.nd (some z) [])).map V.int)) hrA) _ _ ey
     have et2:=(Same.upd (o:=.lst ((trow hs M N (.nd (some z) [])).map V.int)) hrA) _ _ et
     have er2:L2.upd H8 rA (.lst ((trow hs M N (.nd (some z) [])).map V.int)) rA=some (.lst ((trow hs M N (.nd (some z) [])).map V.int)):=upd_same
     have hr0:=s7.free hrA
     generalize L2.upd H8 rA (.lst ((trow hs M N (.nd (some z) [])).map V.int))=H9 at *
     refine fun c cx hc hcx hne=>?_
     have sc:Same H9 (L2.upd (L2.upd H9 cx (.own c)) c (.ins C cx [])):=fun b o e=>by rw [upd_ne (ne_of_none e hc),upd_ne (ne_of_none e hcx)]; exact e
     refine ⟨c,cx,rA,.ref tp,1,1,rfl,upd_same,fun H10 b4 e4=>⟨rfl,?_⟩⟩
     have s10:Same H9 H10:=fun x o e=>b4 x o (ne_of_none e hc) (sc x o e)
     have s710:=s9.trans s10
     have apart:∀ {x:Addr},H7 x=none→x≠lv:=fun e z=>by rw [z,G.at'] at e; cases e
     have Sp:=leaf_spr (C:=C) (Z:=fun x=>Z x∧x≠lv) (wi:=some z) e4 (s10 _ _ et2) (s10 _ _ ey2) (s10 _ _ er2) ⟨hz _ (G.same.free ht0),apart ht0⟩ ⟨hz _ (G.same.free hy),apart hy⟩ ⟨hz _ (G.same.free hr0),apart hr0⟩
     have G2:=G.push s710 (s9.free hc) Sp
     have lb:bs.length < 900:=by
      have e:=G.sp.len
      rw [leafL_len,List.length_take] at e
      omega
     refine ⟨lv,_,.ref c,rfl,rfl,s710 _ _ G.at',small1000 (by rw [List.length_map]; omega),?_⟩
     have ea:bs.map V.ref++[V.ref c]=(bs++[c]).map V.ref:=by rw [List.map_append]; rfl
     have el2:leafL (ws.take i)++[.nd (some z) []]=leafL (ws.take (i+1)):=by
      rw [take_snoc hz']
      show _ :: (List.map _ _++_)=_ :: List.map _ _
      rw [List.map_append]
      rfl
     rw [el2] at G2
     rw [ea]
     exact ⟨_,_,rfl,G2,by rw [upd_ne nls]; exact s710 _ _ e7⟩
    ·rintro σ H' Q1 Q2 hq ⟨v,e,v',e',sc,k,ek,g⟩
     refine ⟨v,e,v',e',sc,k,ek,?_⟩
     cases k with
     | true=>rw [if_pos rfl] at g; exact iteT (hq _ _ g)
     | false=>rw [if_neg Bool.false_ne_true] at g; exact iteF (hq _ _ g)
   ·rintro σ H7 ⟨o2,bs,rfl,G,e7⟩
    rw [List.length_map,List.take_length] at G
    exact ⟨_,rfl,q lv bs ws H7 G.same G.new wnd (fun c hc=>(wiff c).mp hc) (fun c hc=>(wiff c).mpr hc) w4⟩
end
section
variable {P:Program} {w:World} {K:PySem.W.Frag} {mg:Str→Option Value} {base:Heap}
theorem okC {x qual:Str} {st:Stmt} {f cc:Addr} {fd:FuncData} {N ps:List Str} {k:Nat} {sp:Sp} (F:Fun K x qual st f fd) (hc:fd.code=.ref cc) (S:FnScope N ps (defScope st)) (len:∀ vs H Q E,sp vs H Q E→vs.length=ps.length)
  (hbody:∀ (A:Around) (outer:List Env) (s:Shared) (H:Hp) (vs:List V) (Q:VK) (E:XK),Room k (A.deeper (envOfC qual (defScope st) s.heap.objs.size f (.ref cc)))→sp vs H Q E →
   ∃ t,PSs (cxOf CX0 P w K mg base N qual (defScope st) f (.ref cc) A outer s H E).nox (defBody st) t∧t { nx:=fun _ H'=>Q .non H',rt:=Q } (start N vs) H):FnOk P w K mg base CX0 (k+1) f fd ps sp:=by
 obtain ⟨oc,od,kV,doc,pm,an,cdv,ct,osl,rfl,lk,hcd⟩:=F.ex
 have e:cdv=.ref cc:=hc
 subst e
 refine fn_of lk hcd S len fun A outer s H vs Q E hr hsp=>?_
 obtain ⟨t,h,q⟩:=hbody A outer s H vs Q E hr hsp
 exact ⟨t,h.nox,q⟩
abbrev nGrown:List Str:=["kept","knots","weights","grown","sprout","bough"]
abbrev aGrown:List Str:=["kept","knots","weights"]
theorem scGrown:FnScope nGrown aGrown (defScope sGrown):=by constructor<;>first|rfl|decide +kernel
def kwOf (s:Stmt):Expr:=match s with
 | .Return (some (.Call _ _ (k :: _) _)) _=>k.value
 | _=>.Name "x" ⟨0,0,0,0⟩
def lamA (e:Expr):Arguments:=match e with
 | .Lambda a _ _ _=>a
 | _=>{ posonlyargs:=[],args:=[],vararg:=none,kwonlyargs:=[],kw_defaults:=[],kwarg:=none,defaults:=[] }
def lamB (e:Expr):Expr:=match e with
 | .Lambda _ b _ _=>b
 | e=>e
def lamS (e:Expr):Scope:=match e with
 | .Lambda _ _ s _=>s
 | _=>{ kind:=.function,names:=[],isGenerator:=false,isCoroutine:=false }
def lamP (e:Expr):Pos:=match e with
 | .Lambda _ _ _ p=>p
 | _=>⟨0,0,0,0⟩
abbrev lamE:Expr:=kwOf (bodyAt sGrown 2)
abbrev lamQ:Str:="grown_sprouts.<locals>.<lambda>"
theorem lamF:LamF "depth" "sprout" lamQ (lamA lamE) (lamB lamE) (lamS lamE):=⟨⟨_,_,rfl⟩,fun _ _ _ _=>rfl,rfl,by decide +kernel,rfl,rfl,rfl,by decide⟩
abbrev TbG (Pt:Addr):Hp→Prop:=TbL Pt lamQ (lamP lamE).line (lamP lamE).col
theorem tabG (Pt:Addr):Tab (TbG Pt) Pt:=by
 refine ⟨fun H H' h k=>?_,fun H h=>?_⟩
 ·rcases h with h | ⟨c,h,hc⟩
  ·exact .inl (k _ _ (.inl rfl) h)
  ·exact .inr ⟨c,k _ _ (.inl rfl) h,k _ _ (.inr ⟨_,rfl⟩) hc⟩
 ·rcases h with h | ⟨c,h,hc⟩
  ·exact ⟨_,h⟩
  ·exact ⟨_,h⟩
def gw1 (Kn:Nat) (s:Tr) (ks:List Tr):List Tr:=(ks.filter fun b=>decide (s.knots+b.knots=Kn)).map s.with
def gw (Kn:Nat) (ss ks:List Tr):List Tr:=(ss.map fun s=>gw1 Kn s ks).flatten
theorem gw_mem {Kn:Nat} {ss ks:List Tr} {t:Tr}:t ∈ gw Kn ss ks↔∃ s ∈ ss,∃ b ∈ ks,t=s.with b∧s.knots+b.knots=Kn:=by
 unfold gw gw1
 rw [List.mem_flatten]
 constructor
 ·rintro ⟨l,hl,ht⟩
  obtain ⟨s,hs,rfl⟩:=List.mem_map.mp hl
  obtain ⟨b,hb,rfl⟩:=List.mem_map.mp ht
  obtain ⟨h1,h2⟩:=List.mem_filter.mp hb
  exact ⟨s,hs,b,h1,rfl,of_decide_eq_true h2⟩
 ·rintro ⟨s,hs,b,hb,rfl,e⟩
  exact ⟨_,List.mem_map.mpr ⟨s,hs,rfl⟩,List.mem_map.mpr ⟨b,List.mem_filter.mpr ⟨hb,decide_eq_true e⟩,rfl⟩⟩
theorem gw_len (Kn:Nat) (ks:List Tr):∀ ss:List Tr,(gw Kn ss ks).length=prC (knL ss) (knL ks) Kn
 | []=>rfl
 | s :: ss=>by
  have ih:=gw_len Kn ks ss
  show (gw1 Kn s ks++gw Kn ss ks).length=((knL ks).countP fun b=>decide (s.knots+b=Kn))+prC (knL ss) (knL ks) Kn
  rw [List.length_append,ih]
  congr 1
  unfold gw1 knL
  rw [List.length_map,←List.countP_eq_length_filter,List.countP_map]
  rfl
theorem gw_snoc (Kn:Nat) (ks:List Tr) {ss:List Tr} {i:Nat} {s:Tr} (h:ss[i]? = some s):gw Kn (ss.take (i+1)) ks=gw Kn (ss.take i) ks++gw1 Kn s ks:=by
 unfold gw
 rw [take_snoc h,List.map_append,List.flatten_append]
 simp
theorem gw1_snoc (Kn:Nat) (s:Tr) {ks:List Tr} {j:Nat} {b:Tr} (h:ks[j]? = some b):gw1 Kn s (ks.take (j+1))=gw1 Kn s (ks.take j)++if s.knots+b.knots=Kn then [s.with b] else []:=by
 unfold gw1
 rw [take_snoc h,List.filter_append,List.map_append]
 congr 1
 by_cases e:s.knots+b.knots=Kn
 ·rw [if_pos e,List.filter_cons_of_pos (by simpa using e)]; rfl
 ·rw [if_neg e,List.filter_cons_of_neg (by simpa using e)]; rfl
theorem perm_zip {as as':List Addr} (p:as'.Perm as):∀ {S:List Tr},as.length=S.length→∃ S':List Tr,S'.Perm S∧as'.length=S'.length∧∀ (i:Nat) (a:Addr) (t:Tr),as'[i]? = some a→S'[i]? = some t→∃ j:Nat,as[j]? = some a∧S[j]? = some t:=by
 induction p with
 | nil=>intro S h; exact ⟨S,.refl _,h,fun i a t h1 h2=>⟨i,h1,h2⟩⟩
 | @cons x l1 l2 _ ih =>
  intro S h
  cases S with
  | nil=>cases h
  | cons y S =>
   obtain ⟨S',h1,h2,h3⟩:=ih (S:=S) (by simpa using h)
   refine ⟨y :: S',h1.cons y,by rw [List.length_cons,List.length_cons,h2],fun i a t e1 e2=>?_⟩
   cases i with
   | zero=>exact ⟨0,e1,e2⟩
   | succ i =>
    obtain ⟨j,g1,g2⟩:=h3 i a t e1 e2
    exact ⟨j+1,g1,g2⟩
 | swap x y l =>
  intro S h
  match S,h with
  | u :: v :: S,h =>
   refine ⟨v :: u :: S,.swap _ _ _,by simpa using h,fun i a t e1 e2=>?_⟩
   match i with
   | 0=>exact ⟨1,e1,e2⟩
   | 1=>exact ⟨0,e1,e2⟩
   | i+2=>exact ⟨i+2,e1,e2⟩
 | trans _ _ ih1 ih2 =>
  intro S h
  obtain ⟨S1,h1,h2,h3⟩:=ih2 h
  obtain ⟨S2,g1,g2,g3⟩:=ih1 h2
  refine ⟨S2,g1.trans h1,g2,fun i a t e1 e2=>?_⟩
  obtain ⟨j,z1,z2⟩:=g3 i a t e1 e2
  exact h3 j a t z1 z2
theorem ok_grown {f fW C Pt cc:Addr} {fd fdW:FuncData} (BM:BMn mg base) (B:BltS mg) (T:ClsS K C) (F:Fun K "grown_sprouts" "grown_sprouts" sGrown f fd) (hcd:fd.code=.ref cc) (hcc:PySem.W.codeHdIn K cc Pt=true)
  (DW:Dn K mg "with_bough" sBough aBough fW fdW) (GW:FnOk P w K mg base CX0 3 fW fdW aBough (spBough K C)):FnOk P w K mg base CX0 42 f fd aGrown (spGrown C Pt (TbG Pt)):=by
 refine okC F hcd scGrown (fun vs H Q E h=>?_) (fun A outer s H vs Q E hr h=>?_)
 ·obtain ⟨Z,kl,wA,as,ks,Kn,N,hs,M,rfl,_⟩:=h
  rfl
 ·obtain ⟨Z,kl,wA,as,ks,Kn,N,hs,M,rfl,hk,Sp,Bt,tb,hz,nZ,kn,k12,p64,q⟩:=h
  refine ⟨_,pss_cons (ps_set (i:=3) scGrown.nd rfl (Or.inl rfl) (pe_lst pa_nil))
   (pss_cons (ps_for PassesOwn.never rfl (pi_list (pv 0)) (pg_name (i:=4) scGrown.nd rfl (Or.inl rfl))
    (pss_one (ps_for PassesOwn.never rfl (pi_list (pv 0)) (pg_name (i:=5) scGrown.nd rfl (Or.inl rfl))
     (pss_one (ps_if (pt_cmpR op_eq (pe_op op_add (pe_fld (pv 4) rfl) (pe_fld (pv 5) rfl)) (pv 1) (nomark _)) (pss_one (ps_expr (pe_bm PySem.F.plainAttrs_list PySem.F.slot_list_append PySem.F.type_list_append mt_append (pv 3) (pa_cons (pe_fn DW GW (hr.mono (by decide)) rfl (pa_cons (pv 4) (pa_cons (pv 5) (pa_cons (pv 2) pa_nil)))) pa_nil)))) pss_nil)))))
   (pss_one (ps_ret (pe_sortedKey hr.depth lamF (by rfl) B.sorted (pa_cons (pv 3) pa_nil) (pk_cons (pe_lam (q:=lamQ) BM rfl rfl rfl rfl hcc) pk_nil))))),?_⟩
  refine ⟨Nat.zero_le _,fun lv hlv=>?_⟩
  have s1:Same H (L2.upd H lv (.lst [])):=Same.upd hlv
  have el:L2.upd H lv (.lst []) lv=some (.lst ([].map V.ref)):=upd_same
  generalize L2.upd H lv (.lst [])=H1 at s1 el ⊢
  have nkl:kl≠lv:=ne_of_none hk hlv
  have SpZ:Sprs C (fun x=>Z x∧x≠lv) H as ks (trow hs M N):=Sp.weak fun x zx hx=>⟨zx,fun z=>hx (by rw [z]; exact hlv)⟩
  let J:List Tr→L2.St→Hp→Prop:=fun S σ H'=>∃ (o4 o5:Option V) (bs:List Addr),σ=[some (.ref kl),some (.int (Kn:Int)),some (.ref wA),some (.ref lv),o4,o5]∧Grw C Z H H' (trow hs M N) lv bs S
  refine ⟨_,rfl,kl,rfl,⟨_,SqL.of (s1 _ _ hk)⟩,for_list (K:=K) (xs:=as.map V.ref) (fun i σ H'=>J (gw Kn (ks.take i) ks) σ H') ⟨none,none,[],rfl,s1,hlv,el,⟨rfl,fun i a t h1 _=>by cases h1⟩,List.nodup_nil,fun b hb=>by cases hb⟩ (fun i σ H' _ ⟨_,_,_,_,G⟩=>SqL.of (G.same _ _ hk)) ?_ ?_⟩
  ·rintro i x σ H2 hx ⟨o4,o5,bs,rfl,G⟩
   obtain ⟨a,ha,rfl⟩:=map_get hx
   obtain ⟨t,ht⟩:=get_lt (l:=ks) (i:=i) (by rw [←Sp.len]; exact lt_get ha)
   refine ⟨_,rfl,kl,rfl,⟨_,SqL.of (G.same _ _ hk)⟩,for_list (K:=K) (xs:=as.map V.ref) (fun j σ H'=>∃ (o5:Option V) (bs:List Addr),σ=[some (.ref kl),some (.int (Kn:Int)),some (.ref wA),some (.ref lv),some (.ref a),o5]∧Grw C Z H H' (trow hs M N) lv bs (gw Kn (ks.take i) ks++gw1 Kn t (ks.take j))) ⟨o5,bs,rfl,by rw [List.take_zero]; show Grw _ _ _ _ _ _ _ (_++[]); rw [List.append_nil]; exact G⟩ (fun i σ H' _ ⟨_,_,_,G⟩=>SqL.of (G.same _ _ hk)) ?_ ?_⟩
   ·rintro j y σ H3 hy ⟨o5,bs,rfl,G⟩
    obtain ⟨b,hb,rfl⟩:=map_get hy
    obtain ⟨t',ht'⟩:=get_lt (l:=ks) (i:=j) (by rw [←Sp.len]; exact lt_get hb)
    obtain ⟨ra,Sa⟩:=SpZ.at' i a t ha ht
    obtain ⟨rb,Sb⟩:=SpZ.at' j b t' hb ht'
    have Sa3:=Sa.mono G.same
    have Sb3:=Sb.mono G.same
    obtain ⟨dx,p,l,ys,ra1,sa1,h1,_⟩:=Sa3.ex
    obtain ⟨dx',p',l',ys',rb1,sb1,g1,_⟩:=Sb3.ex
    refine ⟨_,rfl,a,C,dx,_,_,rfl,h1,T.cl,T.kn,rfl,_,rfl,b,C,dx',_,_,rfl,g1,T.cl,T.kn,rfl,_,_,rfl,rfl,_,rfl,rfl,_,rfl,?_⟩
    by_cases e:t.knots+t'.knots=Kn
    ·have d:decide (V.int ((t.knots:Int)+(t'.knots:Int))=V.int (Kn:Int))=true:=decide_eq_true (by rw [←e]; rfl)
     rw [d]
     refine iteT ⟨_,rfl,.inl ⟨rfl,_,SqL.of G.at'⟩,_,rfl,_,rfl,_,rfl,(fun x=>Z x∧x≠lv),a,b,wA,t,t',N,hs,M,_,_,rfl,Bt.mono G.same,Sa3,Sb3,kn t (List.mem_of_getElem? ht),kn t' (List.mem_of_getElem? ht'),(fun x hx=>⟨hz x (G.same.free hx),fun z=>by rw [z,G.at'] at hx; cases hx⟩),fun c H4 s4 hc S4=>?_⟩
     have G2:=G.push s4 hc S4
     rw [List.append_assoc] at G2
     have eg:=gw1_snoc Kn t (ks:=ks) ht'
     rw [if_pos e] at eg
     rw [←eg] at G2
     have lb:bs.length < 900:=by
      have e1:=G.sp.len
      have e2:(gw Kn (ks.take i) ks++gw1 Kn t (ks.take j)).length≤12 * 12+12:=by
       rw [List.length_append]
       have a1:∀ (s:Tr) (l:List Tr),l.length≤12→(gw1 Kn s l).length≤12:=fun s l hl=>by
        unfold gw1
        rw [List.length_map]
        exact Nat.le_trans (List.length_filter_le _ _) hl
       have a2:∀ ss:List Tr,(gw Kn ss ks).length≤12 * ss.length:=fun ss=>by
        induction ss with
        | nil=>exact Nat.le_refl _
        | cons s ss ih =>
         show (gw1 Kn s ks++gw Kn ss ks).length≤_
         rw [List.length_append,List.length_cons]
         have:=a1 s ks k12
         omega
       have b1:=a1 t (ks.take j) (by rw [List.length_take]; omega)
       have b2:=a2 (ks.take i)
       rw [List.length_take] at b2
       omega
      omega
     refine ⟨lv,_,.ref c,rfl,rfl,s4 _ _ G.at',small1000 (by rw [List.length_map]; omega),?_⟩
     have ea:bs.map V.ref++[V.ref c]=(bs++[c]).map V.ref:=by rw [List.map_append]; rfl
     rw [ea]
     exact ⟨_,_,rfl,G2⟩
    ·have d:decide (V.int ((t.knots:Int)+(t'.knots:Int))=V.int (Kn:Int))=false:=decide_eq_false fun z=>e (by have:=V.int.inj z; omega)
     rw [d]
     refine iteF ?_
     have eg:=gw1_snoc Kn t (ks:=ks) ht'
     rw [if_neg e,List.append_nil] at eg
     exact ⟨_,bs,rfl,by rw [eg]; exact G⟩
   ·rintro σ H3 ⟨o5,bs,rfl,G⟩
    rw [List.length_map,Sp.len,List.take_length,←gw_snoc Kn ks ht] at G
    exact ⟨_,_,bs,rfl,G⟩
  ·rintro σ H2 ⟨o4,o5,bs,rfl,G⟩
   rw [List.length_map,Sp.len,List.take_length] at G
   have ln:=gw_len Kn ks ks
   obtain ⟨tb0,ePt⟩:=(tabG Pt).at' H tb
   have tb2:TbG Pt H2:=(tabG Pt).keep H H2 tb fun b o _ e=>G.same _ _ e
   refine ⟨_,rfl,tb2,fun fl c pm ct H3 hf eF eC k3 n3 tb3=>?_⟩
   have e3:H3 lv=some (.lst (bs.map V.ref)):=k3 _ _ (fun z=>by rw [←z,hlv] at ePt; cases ePt) G.at'
   have Sp2:Sprs C Z H2 bs (gw Kn ks ks) (trow hs M N):=G.sp.weak fun _ z _=>z.1
   have insN:∀ b ∈ bs,b≠Pt:=fun b hb z=>by
    obtain ⟨dx,fs,e⟩:=Sp2.ins hb
    rw [z,G.same _ _ ePt] at e; cases e
   have Sp3:Sprs C Z H3 bs (gw Kn ks ks) (trow hs M N):=⟨Sp2.len,fun i a t h1 h2=>by
    obtain ⟨r,Sa⟩:=Sp2.at' i a t h1 h2
    exact ⟨r,Sa.chg (S:=fun b=>b=Pt) (fun b o nb e=>k3 b o nb e) (insN a (List.mem_of_getElem? h1)) fun b z=>.inr (by rw [z]; exact nZ)⟩⟩
   refine ⟨lv,fl,c,pm,ct,bs,(gw Kn ks ks).map fun t=>(t.deep:Int),rfl,rfl,eF,eC,e3,by rw [List.length_map,Sp2.len],by rw [Sp2.len,ln]; exact p64,fun i a d h1 h2=>?_,fun D as' hD pa=>?_⟩
   ·rw [List.getElem?_map] at h2
    obtain ⟨t,et,rfl⟩:=Option.map_eq_some_iff.mp h2
    obtain ⟨r,Sa⟩:=Sp3.at' i a t h1 et
    obtain ⟨dx,p,l,ys,ra1,sa1,h1,_⟩:=Sa.ex
    exact ⟨C,dx,_,h1,T.cl,T.dp,rfl⟩
   ·obtain ⟨S',pS,lS,hS⟩:=perm_zip pa Sp3.len
    have s4:Same H3 (L2.upd H3 D (.lst (as'.map V.ref))):=Same.upd hD
    have hD2:H2 D=none:=n3 D hD
    refine q D as' S' _ (fun b o nb e=>s4 _ _ (k3 b o nb (G.same _ _ e))) (fun x e=>G.same.free (n3 x (s4.free e))) ((tabG Pt).keep H3 _ tb3 fun b o _ e=>s4 _ _ e) ⟨G.same.free hD2,upd_same,⟨lS,fun i a t h1 h2=>?_⟩,pa.nodup_iff.mpr G.nd,fun b hb=>G.nw b (pa.mem_iff.mp hb)⟩ (fun t ht=>gw_mem.mp (pS.mem_iff.mp ht)) (fun s hs' b hb e=>pS.mem_iff.mpr (gw_mem.mpr ⟨s,hs',b,hb,rfl,e⟩)) (by rw [pS.length_eq]; exact ln)
    obtain ⟨j,g1,g2⟩:=hS i a t h1 h2
    obtain ⟨r,Sa⟩:=Sp3.at' j a t g1 g2
    exact ⟨r,Sa.mono s4⟩
end
section
theorem sumP_perm {p q:List (Int × Int)} (h:p.Perm q) (l:Int):sumP p l=sumP q l:=by
 induction h with
 | nil=>rfl
 | cons x _ ih=>obtain ⟨a,b⟩:=x; rw [sumP_cons,sumP_cons,ih]
 | swap x y t =>
  obtain ⟨a,b⟩:=x
  obtain ⟨c,d⟩:=y
  rw [sumP_cons,sumP_cons,sumP_cons,sumP_cons]
  omega
 | trans _ _ ih1 ih2=>exact ih1.trans ih2
section
variable {n:Nat} {os:List Int} (hp:os.Perm (rI n))
include hp
theorem zip_perm {ws ls:List Int} (h1:ws.length=n) (h2:ls.length=n):((renH ws os).zip (renH ls os)).Perm (ws.zip ls):=by
 have e1:(renH ws os).zip (renH ls os)=os.map fun o=>(ws.getD o.toNat 0,ls.getD o.toNat 0):=by
  unfold renH
  rw [List.zip_map']
 have e2:ws.zip ls=(rI n).map fun o=>(ws.getD o.toNat 0,ls.getD o.toNat 0):=by
  conv=>lhs; rw [←map_rI ws 0,←map_rI ls 0,h1,h2]
  rw [List.zip_map']
 rw [e1,e2]
 exact hp.map _
theorem ren_pr {us ls:List Int} {M:List (List Int)} (h1:us.length=n) (h2:ls.length=n) (h3:M.length=n) (h4:∀ ws ∈ M,ws.length=n) {i j a b:Nat} (ei:os[i]? = some (a:Int)) (ej:os[j]? = some (b:Int)) :
  Pr us ls M a b↔Pr (renH us os) (renH ls os) (renM M os) i j:=by
 have la:a < n:=by obtain ⟨a',e,h⟩:=os_at hp ei; omega
 have lb:b < n:=by obtain ⟨a',e,h⟩:=os_at hp ej; omega
 obtain ⟨u,hu⟩:=get_lt (l:=us) (i:=a) (by omega)
 obtain ⟨u',hu'⟩:=get_lt (l:=us) (i:=b) (by omega)
 obtain ⟨l,hl⟩:=get_lt (l:=ls) (i:=a) (by omega)
 obtain ⟨l',hl'⟩:=get_lt (l:=ls) (i:=b) (by omega)
 obtain ⟨W,hW⟩:=get_lt (l:=M) (i:=a) (by omega)
 obtain ⟨W',hW'⟩:=get_lt (l:=M) (i:=b) (by omega)
 have lW:=h4 W (List.mem_of_getElem? hW)
 have lW':=h4 W' (List.mem_of_getElem? hW')
 have mem:∀ o:Int,o ∈ renH ls os↔o ∈ ls:=fun o=>(ren_perm hp h2).mem_iff
 have key:(∀ o ∈ ls,sumP (W.zip ls) o=sumP (W'.zip ls) o)↔∀ o ∈ renH ls os,sumP ((renH W os).zip (renH ls os)) o=sumP ((renH W' os).zip (renH ls os)) o:=by
  constructor
  ·intro q o ho
   rw [sumP_perm (zip_perm hp lW h2),sumP_perm (zip_perm hp lW' h2)]
   exact q o ((mem o).mp ho)
  ·intro q o ho
   have:=q o ((mem o).mpr ho)
   rw [sumP_perm (zip_perm hp lW h2),sumP_perm (zip_perm hp lW' h2)] at this
   exact this
 constructor
 ·intro q k v v' ws ws' a1 a2 b1 b2 c1 c2
  rw [ren_at ei hl] at a1
  rw [ren_at ej hl'] at a2
  rw [ren_at ei hu] at b1
  rw [ren_at ej hu'] at b2
  rw [renM_at ei hW] at c1
  rw [renM_at ej hW'] at c2
  cases a1
  cases b1
  cases b2
  cases c1
  cases c2
  obtain ⟨q1,q2⟩:=q l u u' W W' hl (by rw [hl']; exact a2) hu hu' hW hW'
  exact ⟨q1,key.mp q2⟩
 ·intro q k v v' ws ws' a1 a2 b1 b2 c1 c2
  rw [hl] at a1
  rw [hl'] at a2
  rw [hu] at b1
  rw [hu'] at b2
  rw [hW] at c1
  rw [hW'] at c2
  cases a1
  cases b1
  cases b2
  cases c1
  cases c2
  obtain ⟨q1,q2⟩:=q l u u' _ _ (ren_at ei hl) (by rw [ren_at ej hl']; exact a2) (ren_at ei hu) (ren_at ej hu') (renM_at ei hW) (renM_at ej hW')
  exact ⟨q1,key.mpr q2⟩
theorem ren_coarse {us ls ls':List Int} {M:List (List Int)} (h1:us.length=n) (h3:M.length=n) (h4:∀ ws ∈ M,ws.length=n) (C:Coarse us M ls) (C':Coarse (renH us os) (renM M os) ls'):ls'=nI (numb (renH ls os)):=by
 have lo:=os_len hp
 have l1:ls.length=n:=by rw [←C.len,h1]
 have l2:ls'.length=n:=by rw [←C'.len,ren_len,lo]
 rw [C'.norm]
 congr 1
 have lr:(renH ls os).length=n:=by rw [ren_len,lo]
 rw [numb_iff (by omega)]
 intro i j k k' x y e1 e2 e3 e4
 obtain ⟨o1,eo1⟩:=get_lt (l:=os) (i:=i) (by rw [lo,←l2]; exact lt_get e1)
 obtain ⟨o2,eo2⟩:=get_lt (l:=os) (i:=j) (by rw [lo,←l2]; exact lt_get e2)
 obtain ⟨a,rfl,ha⟩:=os_at hp eo1
 obtain ⟨b,rfl,hb⟩:=os_at hp eo2
 constructor
 ·rintro rfl
  obtain ⟨Pb,hPb⟩:∃ Pb:List Int,Pb=(List.range n).map fun (m:Nat)=>(ls'[os.idxOf (m:Int)]?).getD 0:=⟨_,rfl⟩
  have lP:Pb.length=n:=by rw [hPb,List.length_map,List.length_range]
  have gP:∀ {i' a':Nat} {z:Int},os[i']? = some (a':Int)→ls'[i']? = some z→Pb[a']? = some z:=by
   intro i' a' z q1 q2
   obtain ⟨a'',qe,qa⟩:=os_at hp q1
   have qa':a' < n:=by omega
   have ix:os.idxOf (a':Int)=i':=by
    have hm:(a':Int) ∈ os:=List.mem_of_getElem? q1
    have lt:=List.idxOf_lt_length_iff.mpr hm
    exact os_inj hp (by rw [List.getElem?_eq_getElem lt,List.getElem_idxOf lt]) q1
   rw [hPb,List.getElem?_map,List.getElem?_range qa',Option.map_some,ix,q2]
   rfl
  have rP:renH Pb os=ls':=by
   apply List.ext_getElem?
   intro i'
   by_cases hi:i' < n
   ·obtain ⟨o,eo⟩:=get_lt (l:=os) (i:=i') (by omega)
    obtain ⟨a',rfl,_⟩:=os_at hp eo
    obtain ⟨z,hz⟩:=get_lt (l:=ls') (i:=i') (by omega)
    rw [hz]
    exact ren_at eo (gP eo hz)
   ·rw [List.getElem?_eq_none (by rw [ren_len]; omega),List.getElem?_eq_none (by omega)]
  have ev:∀ i' j',Pr us Pb M i' j':=by
   intro i' j'
   by_cases hi:i' < n
   ·by_cases hj:j' < n
    ·obtain ⟨i1,q1⟩:=os_of hp hi
     obtain ⟨j1,q2⟩:=os_of hp hj
     rw [ren_pr hp h1 lP h3 h4 q1 q2,rP]
     exact C'.even i1 j1
    ·intro l u u' ws ws' a1 a2
     exact absurd (lt_get a2) (by omega)
   ·intro l u u' ws ws' a1 a2
    exact absurd (lt_get a1) (by omega)
  obtain ⟨x',hx'⟩:=get_lt (l:=ls) (i:=a) (by omega)
  obtain ⟨y',hy'⟩:=get_lt (l:=ls) (i:=b) (by omega)
  have fin:=C.top Pb (by omega) ev a b k x' y' (gP eo1 e1) (gP eo2 e2) hx' hy'
  rw [ren_at eo1 hx'] at e3
  rw [ren_at eo2 hy'] at e4
  cases e3
  cases e4
  exact fin
 ·rintro rfl
  have ev:∀ i' j',Pr (renH us os) (renH ls os) (renM M os) i' j':=by
   intro i' j'
   by_cases hi:i' < n
   ·by_cases hj:j' < n
    ·obtain ⟨o,q1⟩:=get_lt (l:=os) (i:=i') (by omega)
     obtain ⟨o',q2⟩:=get_lt (l:=os) (i:=j') (by omega)
     obtain ⟨a',rfl,_⟩:=os_at hp q1
     obtain ⟨b',rfl,_⟩:=os_at hp q2
     rw [←ren_pr hp h1 l1 h3 h4 q1 q2]
     exact C.even a' b'
    ·intro l u u' ws ws' a1 a2
     exact absurd (lt_get a2) (by omega)
   ·intro l u u' ws ws' a1 a2
    exact absurd (lt_get a1) (by omega)
  exact C'.top (renH ls os) (by omega) ev i j x k k' e3 e4 e1 e2
end
end
theorem numb_map {κ:Type} [DecidableEq κ] (L:List κ):nI (numb L)=L.map fun l=>(((L.foldl seenAdd []).idxOf l:Nat):Int):=by
 apply List.ext_getElem?
 intro i
 rw [nI_get,List.getElem?_map]
 by_cases hi:i < L.length
 ·obtain ⟨k,hk⟩:=get_lt hi
  have:=(nums_idx L [] i hk).1
  rw [show (numb L)[i]? = some ((L.foldl seenAdd []).idxOf k) from this,hk]
  rfl
 ·rw [List.getElem?_eq_none (by rw [numb_len]; omega),List.getElem?_eq_none (by omega)]
  rfl
theorem perm_numb {a b:List Int}:(((nI (numb (a++b))).take a.length).Perm ((nI (numb (a++b))).drop a.length))↔a.Perm b:=by
 rw [numb_map,List.map_append,List.take_left' (by rw [List.length_map]),List.drop_left' (by rw [List.length_map])]
 constructor
 ·intro h
  have back:∀ xs:List Int,(∀ x ∈ xs,x ∈ a++b)→(xs.map fun l=>((((a++b).foldl seenAdd []).idxOf l:Nat):Int)).map (fun z=>((a++b).foldl seenAdd []).getD z.toNat 0)=xs:=by
   intro xs hx
   rw [List.map_map]
   conv=>rhs; rw [←List.map_id xs]
   refine List.map_congr_left fun x hm=>?_
   have mem:x ∈ (a++b).foldl seenAdd []:=(seen_mem _ []).mpr (.inr (hx x hm))
   have lt:=List.idxOf_lt_length_iff.mpr mem
   show ((a++b).foldl seenAdd []).getD (Int.toNat (((a++b).foldl seenAdd []).idxOf x:Nat)) 0=x
   rw [Int.toNat_natCast,List.getD_eq_getElem?_getD,List.getElem?_eq_getElem lt,List.getElem_idxOf lt]
   rfl
  have h2:=h.map fun z=>((a++b).foldl seenAdd []).getD z.toNat 0
  rw [back a (fun x hx=>List.mem_append_left _ hx),back b (fun x hx=>List.mem_append_right _ hx)] at h2
  exact h2
 ·intro h
  exact h.map _
section
variable {n m:Nat} {hs hs' ls ls':List Int} {M M':List (List Int)}
def rotO (n m:Nat):List Int:=(rI (n+m)).drop n++(rI (n+m)).take n
theorem rotO_perm (n m:Nat):(rotO n m).Perm (rI (n+m)):=by
 unfold rotO
 refine List.perm_append_comm.trans ?_
 rw [List.take_append_drop]
theorem ren_rot {xs:List Int} (h:xs.length=n+m):renH xs (rotO n m)=xs.drop n++xs.take n:=by
 unfold renH rotO
 rw [List.map_append,List.map_drop,List.map_take,←h,map_rI]
theorem renM_rot (h1:M.length=n) (h2:M'.length=m) (r1:∀ x ∈ M,x.length=n) (r2:∀ x ∈ M',x.length=m):renM (besM n m M M') (rotO n m)=besM m n M' M:=by
 have lb:=bes_len (n:=n) (m:=m) h1 h2
 have e:(rotO n m).map (fun u=>(besM n m M M').getD u.toNat [])=(besM n m M M').drop n++(besM n m M M').take n:=by
  unfold rotO
  rw [List.map_append,List.map_drop,List.map_take,←lb,map_rI]
 have e2:renM (besM n m M M') (rotO n m)=((rotO n m).map (fun u=>(besM n m M M').getD u.toNat [])).map fun W=>renH W (rotO n m):=by
  unfold renM
  rw [List.map_map]
  rfl
 rw [e2,e]
 unfold besM
 rw [List.drop_left' (by rw [List.length_map,h1]),List.take_left' (by rw [List.length_map,h1]),List.map_append,List.map_map,List.map_map]
 congr 1
 ·refine List.map_congr_left fun x hx=>?_
  show renH (List.replicate n 0++x) (rotO n m)=_
  rw [ren_rot (by rw [List.length_append,List.length_replicate,r2 x hx]),List.drop_left' List.length_replicate,List.take_left' List.length_replicate]
 ·refine List.map_congr_left fun x hx=>?_
  show renH (x++List.replicate m 0) (rotO n m)=_
  rw [ren_rot (by rw [List.length_append,List.length_replicate,r1 x hx]),List.drop_left' (r1 x hx),List.take_left' (r1 x hx)]
theorem swap_coarse (h1:hs.length=n) (h2:hs'.length=m) (S:SqN n M) (S':SqN m M') (C:Coarse (hs++hs') (besM n m M M') ls) (C':Coarse (hs'++hs) (besM m n M' M) ls'):(ls'.take m).Perm (ls'.drop m)↔(ls.take n).Perm (ls.drop n):=by
 have ll:ls.length=n+m:=by rw [←C.len,List.length_append,h1,h2]
 have r1:∀ x ∈ M,x.length=n:=fun x hx=>by
  obtain ⟨j,hj⟩:=List.mem_iff_getElem?.mp hx
  exact (S.row j x hj).1
 have r2:∀ x ∈ M',x.length=m:=fun x hx=>by
  obtain ⟨j,hj⟩:=List.mem_iff_getElem?.mp hx
  exact (S'.row j x hj).1
 have lh:(hs++hs').length=n+m:=by rw [List.length_append,h1,h2]
 have C2:Coarse (renH (hs++hs') (rotO n m)) (renM (besM n m M M') (rotO n m)) ls':=by
  rw [ren_rot lh,renM_rot S.len S'.len r1 r2,List.drop_left' h1,List.take_left' h1]
  exact C'
 have e:=ren_coarse (rotO_perm n m) lh (bes_len S.len S'.len) (bes_rows S S') C C2
 rw [ren_rot ll] at e
 have ld:(ls.drop n).length=m:=by rw [List.length_drop,ll]; omega
 rw [e,←ld,perm_numb]
 exact ⟨List.Perm.symm,List.Perm.symm⟩
end
section
variable {P:Program} {w:World} {K:PySem.W.Frag} {mg:Str→Option Value} {base:Heap}
theorem kitLL:PySem.W.kitOne K (.type "list") (.type "list")=some true:=rfl
theorem kitTT:PySem.W.kitOne K (.type "tuple") (.type "tuple")=some true:=rfl
theorem kitII:PySem.W.kitOne K (.type "int") (.type "int")=some true:=rfl
theorem kitIB:PySem.W.kitOne K (.type "int") (.type "bool")=some false:=by with_unfolding_all rfl
theorem boot_tuT:bootBuiltins "tuple" = some (.type "tuple"):=by decide +kernel
theorem boot_boT:bootBuiltins "bool" = some (.type "bool"):=by decide +kernel
theorem boot_inT:bootBuiltins "int" = some (.type "int"):=by decide +kernel
theorem TrAt.at' {Z:Addr→Prop} {H:Hp} {v:V} {wi:Option Int} {bs:List Tr} (h:TrAt Z H v (.nd wi bs)):∃ p l ys,v=.ref p∧Z p∧Z l∧H p=some (.tup [vWish wi,.ref l])∧H l=some (.lst ys)∧TrsAt Z H ys bs:=by
 cases h with
 | nd a b c d e=>exact ⟨_,_,_,rfl,a,b,c,d,e⟩
theorem TrsAt.get {Z:Addr→Prop} {H:Hp}:∀ {ys:List V} {bs:List Tr} {i:Nat} {x:V},TrsAt Z H ys bs→ys[i]? = some x→∃ t,bs[i]? = some t∧TrAt Z H x t
 | _,_,0,_,.cons a _,e=>by cases e; exact ⟨_,rfl,a⟩
 | _,_,i+1,x,.cons _ r,e=>by
  obtain ⟨t,h1,h2⟩:=TrsAt.get (i:=i) (x:=x) r (by simpa using e)
  exact ⟨t,by simpa using h1,h2⟩
theorem deeps_snoc (b:Tr):∀ bs:List Tr,Tr.deeps (bs++[b])=max (Tr.deeps bs) b.deep
 | []=>by show max b.deep (Tr.deeps [])=max 0 b.deep; rw [show Tr.deeps []=0 from rfl]; omega
 | a :: bs=>by
  show max a.deep (Tr.deeps (bs++[b]))=max (max a.deep (Tr.deeps bs)) b.deep
  rw [deeps_snoc b bs]; omega
def spDeep (d:Nat):Sp:=fun vs H Q _=>∃ (Z:Addr→Prop) (v:V) (t:Tr),vs=[v]∧TrAt Z H v t∧Gd t∧t.deep≤d∧Q (.int (t.deep:Int)) H
abbrev nDeep:List Str:=["_law_tree","_law_wish","_law_deep_here","_law_bough"]
theorem scDeep:FnScope nDeep ["_law_tree"] (defScope sDeep):=by constructor<;>first|rfl|decide +kernel
theorem ok_deep {f:Addr} {fd:FuncData} (B:BltL mg) (bT:mg "tuple" = none) (D:Dn K mg "_law_deep" sDeep ["_law_tree"] f fd):∀ d:Nat,FnOk P w K mg base CX0 (d+1) f fd ["_law_tree"] (spDeep d):=by
 intro d
 induction d with
 | zero =>
  refine D.fn.ok scDeep (fun vs H Q E h=>?_) (fun cdv A outer s H vs Q E hr h=>?_)
  ·obtain ⟨Z,v,t,rfl,_⟩:=h
   rfl
  ·obtain ⟨Z,v,t,rfl,_,_,h,_⟩:=h
   have:=deep_pos t
   omega
 | succ d G =>
  refine D.fn.ok scDeep (fun vs H Q E h=>?_) (fun cdv A outer s H vs Q E hr h=>?_)
  ·obtain ⟨Z,v,t,rfl,_⟩:=h
   rfl
  ·obtain ⟨Z,v,⟨wi,bs⟩,rfl,hT,hG,hd,q⟩:=h
   rw [Tr.deep] at hd
   obtain ⟨p,l,ys,rfl,z1,z2,hp,hl,hb⟩:=hT.at'
   refine ⟨_,pss_cons (ps_if (PW.pt (pw_or (pt_not (pt_val (pe_callB call_isinst (by rfl) B.isi boot_isinstance (pa_cons (pv 0) (pa_cons (pe_bltn (v:=.ty "tuple") rfl bT boot_tuT rfl) pa_nil)))))
     (pw_or (pt_cmpR op_ne (pe_callB call_len_seq (by rfl) B.len PySem.boot_len (pa_cons (pv 0) pa_nil)) pe_int (nomark _))
     (pw_or1 (pt_not (pt_val (pe_callB call_isinst (by rfl) B.isi boot_isinstance (pa_cons (pe_ix ix_tup (pv 0) pe_int (fun _ _=>rfl)) (pa_cons (pe_bltn (v:=.ty "list") rfl B.list boot_list rfl) pa_nil))))))))) (pss_one (ps_ret pe_int)) pss_nil)
    (pss_cons (ps_set (i:=1) scDeep.nd rfl (Or.inl rfl) (pe_ix ix_tup (pv 0) pe_int (fun _ _=>rfl)))
    (pss_mid (ps_if (PW.pt (pw_and (pt_cmpR op_notN (pv 1) pe_non (nomark _)) (pw_and1 (PW.pt (pw_or (pt_not (pt_val (pe_callB call_isinst (by rfl) B.isi boot_isinstance (pa_cons (pv 1) (pa_cons (pe_bltn (v:=.ty "int") rfl B.int boot_inT rfl) pa_nil)))))
     (pw_or (pt_val (pe_callB call_isinst (by rfl) B.isi boot_isinstance (pa_cons (pv 1) (pa_cons (pe_bltn (v:=.ty "bool") rfl B.bool boot_boT rfl) pa_nil))))
     (pw_or1 (pt_cmpR op_lt (pv 1) pe_int (nomark _))))))))) (pss_one (ps_ret pe_int)) pss_nil)
    (pss_cons (ps_set (i:=2) scDeep.nd rfl (Or.inl rfl) pe_int)
    (pss_cons (ps_for PassesOwn.never rfl (pi_list (pe_ix ix_tup (pv 0) pe_int (fun _ _=>rfl))) (pg_name (i:=3) scDeep.nd rfl (Or.inl rfl))
     (pss_one (ps_set (i:=2) scDeep.nd rfl (Or.inl rfl) (pe_callB (call_max2 rfl) (by rfl) B.max boot_max (pa_cons (pv 2) (pa_cons (pe_fn D G hr rfl (pa_cons (pv 3) pa_nil)) pa_nil))))))
    (pss_one (ps_ret (pe_op op_add (pv 2) pe_int))))))),?_⟩
   refine ⟨_,rfl,_,_,_,true,rfl,.tup hp,kitTT,_,rfl,iteF ?_⟩
   refine ⟨_,rfl,p,_,rfl,.inr (SqT.of hp),rfl,_,rfl,iteNS rfl ?_⟩
   refine ⟨_,rfl,p,_,_,_,rfl,rfl,SqT.of hp,rfl,_,_,_,true,rfl,.lst hl,kitLL,_,rfl,iteF ?_⟩
   refine ⟨_,rfl,p,_,_,_,rfl,rfl,SqT.of hp,rfl,?_⟩
   refine ⟨fun σ H'=>σ=[some (.ref p),some (vWish wi),none,none]∧H'=H,?_,?_⟩
   ·cases wi with
    | none=>exact ⟨_,rfl,rfl,_,rfl,iteF (iteF ⟨rfl,rfl⟩)⟩
    | some c =>
     have c0:0≤c:=hG.wi c rfl
     refine ⟨_,rfl,rfl,_,rfl,iteT ?_⟩
     refine ⟨_,rfl,_,_,_,true,rfl,.int c,kitII,_,rfl,iteF ?_⟩
     refine ⟨_,rfl,_,_,_,false,rfl,.int c,kitIB,_,rfl,iteF ?_⟩
     refine ⟨_,rfl,_,_,rfl,rfl,_,rfl,?_⟩
     rw [decide_eq_false (by omega)]
     exact iteF ⟨rfl,rfl⟩
   ·rintro σ H' ⟨rfl,rfl⟩
    refine ⟨_,rfl,p,_,_,_,rfl,rfl,SqT.of hp,rfl,l,rfl,⟨_,SqL.of hl⟩,for_list (K:=K) (xs:=ys) (fun i σ H2=>∃ o3:Option V,σ=[some (.ref p),some (vWish wi),some (.int (Tr.deeps (bs.take i):Int)),o3]∧H2=H') ⟨none,rfl,rfl⟩ (fun i σ H2 _ ⟨_,_,e⟩=>by rw [e]; exact SqL.of hl) ?_ ?_⟩
    ·rintro i x σ H2 hx ⟨o3,rfl,rfl⟩
     obtain ⟨t,ht,hxt⟩:=hb.get hx
     refine ⟨_,rfl,_,rfl,Z,x,t,rfl,hxt,hG.bo t (List.mem_of_getElem? ht),Tr.deeps_get (by omega) ht,_,_,rfl,?_⟩
     have e:(Tr.deeps (bs.take (i+1)):Int)=if (t.deep:Int) > (Tr.deeps (bs.take i):Int) then (t.deep:Int) else (Tr.deeps (bs.take i):Int):=by
      rw [take_snoc ht,deeps_snoc]
      split <;> omega
     exact ⟨some x,by rw [e]; rfl,rfl⟩
    ·rintro σ H2 ⟨o3,rfl,rfl⟩
     rw [hb.len,List.take_length]
     refine ⟨_,rfl,_,_,rfl,rfl,?_⟩
     have e:((Tr.nd wi bs).deep:Int)=(Tr.deeps bs:Int)+1:=by rw [Tr.deep]; omega
     show Q (V.int ((Tr.deeps bs:Int)+1)) H2
     rw [←e]
     exact q
end
section
variable {P:Program} {w:World} {K:PySem.W.Frag} {mg:Str→Option Value} {base:Heap}
theorem TrAt.same {Z:Addr→Prop} {H H':Hp} {v:V} {t:Tr} (h:TrAt Z H v t) (s:Same H H'):TrAt Z H' v t:=h.chg (S:=fun _=>False) (fun b o _ e=>s b o e) fun _ z=>z.elim
theorem knots_take (wi:Option Int) (bs:List Tr) (k:Nat):(Tr.nd wi (bs.take k)).knots≤(Tr.nd wi bs).knots:=by
 induction bs generalizing k with
 | nil=>rw [List.take_nil]; exact Nat.le_refl _
 | cons b bs ih =>
  cases k with
  | zero=>show 1+0≤1+(b.knots+Tr.knotss bs); omega
  | succ k =>
   have:=ih k
   rw [Tr.knots,Tr.knots] at this
   show 1+(b.knots+Tr.knotss (bs.take k))≤1+(b.knots+Tr.knotss bs)
   omega
theorem ent_bd {n:Nat} {M:List (List Int)} (S:SqN n M):∀ q,q < n→∀ v,v < n→(ent M q v).natAbs≤2 ^ 72:=fun q hq v hv=>by
 obtain ⟨row,ew⟩:=get_lt (l:=M) (i:=q) (by rw [S.len]; exact hq)
 obtain ⟨lr,br⟩:=S.row q row ew
 obtain ⟨z,ez⟩:=get_lt (l:=row) (i:=v) (by omega)
 have e:ent M q v=z:=by unfold ent; rw [ew]; show (row[v]?).getD 0=z; rw [ez]; rfl
 rw [e]
 exact Nat.le_trans (br z (List.mem_of_getElem? ez)) (by decide)
theorem base_val {hs:List Int} {M:List (List Int)} {n:Nat} (h:hs.length=n) (wi:Option Int):trow hs M n (.nd wi [])=hs.map fun h=>if (wi=none ∨ wi=some h) then 1 else 0:=by
 cases wi with
 | none =>
  rw [leaf_none,←h]
  refine List.ext_getElem? fun i=>?_
  rw [List.getElem?_replicate,List.getElem?_map]
  by_cases c:i < hs.length
  ·rw [if_pos c,List.getElem?_eq_getElem c]; simp
  ·rw [if_neg c,List.getElem?_eq_none (by omega)]; rfl
 | some c =>
  rw [leaf_some M h]
  refine List.map_congr_left fun x _=>?_
  by_cases e:x=c
  ·rw [if_pos e,if_pos (.inr (by rw [e]))]
  ·rw [if_neg e,if_neg (fun z=>z.elim nofun fun z=>e (Option.some.inj z).symm)]
theorem rows_ent {H:Hp} {rs:List Addr} {M:List (List Int)} {n x y:Nat} (R:RowsAt H rs M) (hm:M.length=n) (hr:∀ z ∈ M,z.length=n) (hx:x < n) (hy:y < n):∃ r row,rs[x]? = some r∧M[x]? = some row∧H r=some (.lst (row.map V.int))∧row[y]? = some (ent M x y)∧ent M x y ∈ row:=by
 obtain ⟨r,er⟩:=get_lt (l:=rs) (i:=x) (by rw [R.len]; omega)
 obtain ⟨row,ew⟩:=get_lt (l:=M) (i:=x) (by omega)
 obtain ⟨z,ez⟩:=get_lt (l:=row) (i:=y) (by rw [hr row (List.mem_of_getElem? ew)]; exact hy)
 have e:ent M x y=z:=by unfold ent; rw [ew]; show (row[y]?).getD 0=z; rw [ez]; rfl
 exact ⟨r,row,er,ew,R.row x r row er ew,by rw [e]; exact ez,by rw [e]; exact List.mem_of_getElem? ez⟩
def spLRow (d:Nat):Sp:=fun vs H Q _=>∃ (Z:Addr→Prop) (wA:Addr) (v:V) (t:Tr) (n:Nat) (hs:List Int) (M:List (List Int)),vs=[.ref wA,v]∧Wz H wA n hs M∧n≤8∧TrAt Z H v t∧t.deep≤d∧t.knots≤4096∧∀ D H',Same H H'→H D=none→H' D=some (.lst ((trow hs M n t).map V.int))→Q (.ref D) H'
abbrev nLRow:List Str:=["_law_web_here","_law_tree","_law_hues","_law_rows","_law_found","_law_bough","_law_inner","_law_u","_law_total","_law_v"]
abbrev aLRow:List Str:=["_law_web_here","_law_tree"]
theorem scLRow:FnScope nLRow aLRow (defScope sRow):=by constructor<;>first|rfl|decide +kernel
theorem lcLRow:LcScopes (defScope sRow) nLRow (lcScope (asgVal (bodyAt sRow 1))) ["_law_hue"]:=by constructor<;>first|rfl|decide +kernel
theorem ok_lrow {f:Addr} {fd:FuncData} (B:BltL mg) (D:Dn K mg "_law_row" sRow aLRow f fd):∀ d:Nat,FnOk P w K mg base CX0 (d+1) f fd aLRow (spLRow d):=by
 intro d
 induction d with
 | zero =>
  refine D.fn.ok scLRow (fun vs H Q E h=>?_) (fun cdv A outer s H vs Q E hr h=>?_)
  ·obtain ⟨Z,wA,v,t,n,hs,M,rfl,_⟩:=h
   rfl
  ·obtain ⟨Z,wA,v,t,n,hs,M,rfl,_,_,_,h,_⟩:=h
   have:=deep_pos t
   omega
 | succ d G =>
  refine D.fn.ok scLRow (fun vs H Q E h=>?_) (fun cdv A outer s H vs Q E hr h=>?_)
  ·obtain ⟨Z,wA,v,t,n,hs,M,rfl,_⟩:=h
   rfl
  ·obtain ⟨Z,wA,v,⟨wi,bs⟩,n,hs,M,rfl,hW,hn,hT,hd,hk,q⟩:=h
   obtain ⟨hA,rA,rs,w1,w2,w3,R⟩:=hW.wr.ex
   have hl':hs.length=n:=hW.len
   have ml:M.length=n:=hW.sq.len
   have hr1:∀ z ∈ M,z.length=n:=sq_rows hW.sq
   have hbd:=ent_bd hW.sq
   have n12:n≤12:=by omega
   ·have hd':Tr.deeps bs≤d:=by rw [Tr.deep] at hd; omega
    obtain ⟨p,l,ys,rfl,z1,z2,hp0,hl0,hb⟩:=hT.at'
    have hp:SqT K H p [vWish wi,.ref l]:=SqT.of hp0
    have hl:SqL K H l ys:=SqL.of hl0
    have hlen:=hb.len
    refine ⟨_,pss_cons (ps_asg (pv 0) (pg_tup rfl (pgs_cons (pg_name (i:=2) scLRow.nd rfl (Or.inl rfl)) (pgs_cons (pg_name (i:=3) scLRow.nd rfl (Or.inl rfl)) pgs_nil))))
     (pss_cons (ps_setLc1 (i:=4) scLRow.nd rfl (Or.inl rfl) rfl lcLRow rfl (pi_list (pv 2)) (fun _ _ _=>pe_callTy call_int1 (by rfl) B.int boot_int (pa_cons (pe_or (pe_cmpR op_isN (pe_ix (ix_tupK (K:=K)) (pv 1) pe_int (fun _ _=>rfl)) pe_non (nomark _)) (pe_one (pe_cmpR op_eq (pe_ix (ix_tupK (K:=K)) (pv 1) pe_int (fun _ _=>rfl)) (pv 10) (nomark _)))) pa_nil)))
     (pss_cons (ps_for PassesOwn.never rfl (pi_list (pe_ix ix_tup (pv 1) pe_int (fun _ _=>rfl))) (pg_name (i:=5) scLRow.nd rfl (Or.inl rfl))
      (pss_cons (ps_set (i:=6) scLRow.nd rfl (Or.inl rfl) (pe_fn D G hr rfl (pa_cons (pv 0) (pa_cons (pv 5) pa_nil))))
      (pss_one (ps_for PassesOwn.never rfl (pi_range1 rfl B.range (pa_cons (pe_callB call_len_seq (by rfl) B.len PySem.boot_len (pa_cons (pv 2) pa_nil)) pa_nil)) (pg_name (i:=7) scLRow.nd rfl (Or.inl rfl))
       (pss_cons (ps_set (i:=8) scLRow.nd rfl (Or.inl rfl) pe_int)
       (pss_cons (ps_for PassesOwn.never rfl (pi_range1 rfl B.range (pa_cons (pe_callB call_len_seq (by rfl) B.len PySem.boot_len (pa_cons (pv 2) pa_nil)) pa_nil)) (pg_name (i:=9) scLRow.nd rfl (Or.inl rfl))
        (pss_one (ps_set (i:=8) scLRow.nd rfl (Or.inl rfl) (pe_op op_add (pv 8) (pe_op op_mulN (pe_ix ix_list (pe_ix ix_list (pv 3) (pv 7) (fun _ _=>rfl)) (pv 9) (fun _ _=>rfl)) (pe_ix ix_list (pv 6) (pv 9) (fun _ _=>rfl)))))))
       (pss_one (ps_asg (pe_op op_mulN (pe_ix ix_list (pv 4) (pv 7) (fun _ _=>rfl)) (pv 8)) (pg_sub (pv 4) (pv 7) set_list)))))))))
     (pss_one (ps_ret (pv 4))))),?_⟩
    refine ⟨_,rfl,wA,_,rfl,SqT.of w1,rfl,_,_,rfl,_,_,rfl,rfl,?_⟩
    refine ⟨_,rfl,hA,rfl,⟨_,SqL.of w2⟩,fun Dd hD=>?_⟩
    refine lc_vals ((trow hs M n (.nd wi [])).map V.int) (by rw [List.length_map,List.length_map,trow_len,hl']) (by rw [List.length_map,hl']; omega) hD (SqL.of w2) ?_ ?_ ?_
    ·intro i x v H' hx hv s'
     rw [base_val hl' wi] at hv
     obtain ⟨z,hz,rfl⟩:=map_get hx
     obtain ⟨z',hz',rfl⟩:=map_get hv
     rw [List.getElem?_map,hz] at hz'
     cases hz'
     refine ⟨_,rfl,p,_,_,_,rfl,rfl,s'.seqT hp,rfl,rfl,_,rfl,?_⟩
     cases wi with
     | none =>
      refine iteT ?_
      refine .inr ⟨_,rfl,?_,Same.refl _⟩
      simp
     | some c =>
      refine iteF ?_
      refine ⟨_,rfl,p,_,_,_,rfl,rfl,s'.seqT hp,rfl,_,rfl,rfl,.inr ⟨_,rfl,?_,Same.refl _⟩⟩
      show V.int _=V.int _
      congr 1
      by_cases e:c=z
      ·subst e; simp [vWish]
      ·simp [vWish,e]
    ·intro H1 s1 eD
     have nD:H Dd=none:=hD
     refine ⟨_,rfl,p,_,_,_,rfl,rfl,s1.seqT hp,rfl,l,rfl,⟨_,Same.sq s1 hl⟩,for_list (xs:=ys) (fun i σ H'=>∃ (o5 o6 o7 o8 o9:Option V),σ=[some (.ref wA),some (.ref p),some (.ref hA),some (.ref rA),some (.ref Dd),o5,o6,o7,o8,o9]∧Same H H'∧H' Dd=some (.lst ((trow hs M n (.nd wi (bs.take i))).map V.int))) ⟨none,none,none,none,none,rfl,s1,by rw [List.take_zero]; exact eD⟩ (fun i σ H' _ ⟨_,_,_,_,_,_,s,_⟩=>Same.sq s hl) ?_ ?_⟩
     ·rintro i x σ H2 hx ⟨o5,o6,o7,o8,o9,rfl,s2,e2⟩
      obtain ⟨t,ht,hxt⟩:=hb.get hx
      have kt:t.knots≤4096:=Tr.knotss_get (by rw [Tr.knots] at hk; omega) ht
      refine ⟨_,rfl,_,rfl,Z,wA,x,t,n,hs,M,rfl,hW.same s2,hn,hxt.same s2,Tr.deeps_get hd' ht,kt,fun I H3 s3 nI eI=>?_⟩
      have s03:=s2.trans s3
      have e3:=s3 _ _ e2
      have nID:I≠Dd:=fun z=>by rw [z,e2] at nI; cases nI
      refine ⟨_,rfl,hA,_,rfl,.inl (SqL.of (s03 _ _ w2)),_,rfl,by omega,by rw [List.length_map,hl']; omega,?_⟩
      rw [List.length_map,hl',Int.toNat_natCast]
      refine for_range (n:=n) (fun u σ H'=>∃ (o7 o8 o9:Option V),σ=[some (.ref wA),some (.ref p),some (.ref hA),some (.ref rA),some (.ref Dd),some x,some (.ref I),o7,o8,o9]∧Same H H'∧H' I=some (.lst ((trow hs M n t).map V.int))∧H' Dd=some (.lst (((List.range n).map fun y=>if y < u then Tr.val n (hueF hs) (ent M) (.nd wi (bs.take (i+1))) y else Tr.val n (hueF hs) (ent M) (.nd wi (bs.take i)) y).map V.int))) ⟨_,_,_,rfl,s03,eI,by rw [e3]; rfl⟩ ?_ ?_
      ·rintro u σ H4 hu ⟨o7,o8,o9,rfl,s4,e4,d4⟩
       have e0:((0:Int)+(u:Nat))=(u:Int):=by omega
       rw [e0]
       refine ⟨_,rfl,hA,_,rfl,.inl (SqL.of (s4 _ _ w2)),_,rfl,by omega,by rw [List.length_map,hl']; omega,?_⟩
       rw [List.length_map,hl',Int.toNat_natCast]
       refine for_range (n:=n) (fun v σ H'=>∃ (o9:Option V),σ=[some (.ref wA),some (.ref p),some (.ref hA),some (.ref rA),some (.ref Dd),some x,some (.ref I),some (.int (u:Int)),some (.int (SmF v fun y=>ent M u y * Tr.val n (hueF hs) (ent M) t y)),o9]∧H'=H4) ⟨_,rfl,rfl⟩ ?_ ?_
       ·rintro v σ H5 hv ⟨o9,rfl,rfl⟩
        have e0:((0:Int)+(v:Nat))=(v:Int):=by omega
        rw [e0]
        obtain ⟨r,row,er,ew,eh,ee,em⟩:=rows_ent R ml hr1 hu hv
        refine ⟨_,rfl,_,rfl,_,rfl,rA,_,_,_,rfl,rfl,SqL.of (s4 _ _ w3),atI_nat (by rw [List.getElem?_map,er]; rfl),_,rfl,r,_,_,_,rfl,rfl,SqL.of (s4 _ _ eh),atI_nat (by rw [List.getElem?_map,ee]; rfl),_,rfl,_,rfl,I,_,_,_,rfl,rfl,SqL.of e4,atI_nat (by rw [List.getElem?_map]; unfold trow; rw [rng_get _ hv]; rfl),_,_,rfl,rfl,⟨400000,by decide,Nat.lt_of_le_of_lt (hbd u hu v hv) (Nat.pow_lt_pow_right (by decide) (by decide)),val_bn n12 hbd kt hv⟩,_,_,rfl,rfl,?_⟩
        exact ⟨some (.int (v:Int)),by rw [smF_succ]; rfl,rfl⟩
       ·rintro σ H5 ⟨o9,rfl,rfl⟩
        have ku:=knots_take wi bs i
        refine ⟨_,rfl,_,rfl,Dd,_,_,_,rfl,rfl,SqL.of d4,atI_nat (by rw [List.getElem?_map,rng_get _ hu]; rfl),_,rfl,_,_,rfl,rfl,⟨400000,by decide,?_,near_bn n12 hbd kt hu⟩,?_⟩
        ·rw [if_neg (Nat.lt_irrefl u)]
         exact val_bn n12 hbd (by omega) hu
        ·refine ⟨_,rfl,_,rfl,Dd,_,_,u,rfl,rfl,d4,?_,?_⟩
         ·rw [List.length_map,List.length_map,List.length_range]
          exact ixN_nat hu
         ·refine ⟨_,_,_,rfl,?_,?_,?_⟩
          ·intro b o e
           rw [upd_ne (ne_of_none e nD)]
           exact s4 _ _ e
          ·rw [upd_ne nID]
           exact e4
          ·rw [upd_same]
           congr 2
           rw [←List.map_set]
           congr 1
           apply List.ext_getElem?
           intro y
           rw [List.getElem?_set]
           by_cases hy:y < n
           ·rw [rng_get _ hy,rng_get _ hy]
            by_cases e:u=y
            ·subst e
             rw [if_pos rfl,if_pos (by rw [List.length_map,List.length_range]; exact hu),if_pos (Nat.lt_succ_self u),take_snoc ht,val_snoc,if_neg (Nat.lt_irrefl u)]
             rfl
            ·rw [if_neg e]
             congr 1
             by_cases h1:y < u
             ·rw [if_pos h1,if_pos (by omega)]
             ·rw [if_neg h1,if_neg (by omega)]
           ·have g:∀ f:Nat→Int,((List.range n).map f)[y]? = none:=fun f=>List.getElem?_eq_none (by rw [List.length_map,List.length_range]; omega)
            rw [g,g,if_neg (by omega:¬ u=y)]
      ·rintro σ H4 ⟨o7,o8,o9,rfl,s4,e4,d4⟩
       refine ⟨_,_,_,_,_,rfl,s4,?_⟩
       rw [d4]
       congr 3
       refine List.map_congr_left fun y hy=>?_
       rw [if_pos (List.mem_range.mp hy)]
     ·rintro σ H2 ⟨o5,o6,o7,o8,o9,rfl,s2,e2⟩
      rw [hlen,List.take_length] at e2
      exact ⟨_,rfl,q Dd H2 s2 nD e2⟩
    ·rintro σ H' Q1 Q2 hq ⟨v,e,a1,a2,a3,a4,a5,a6,a7,a8,a9,c,e2,g⟩
     refine ⟨v,e,a1,a2,a3,a4,a5,a6,a7,a8,a9,c,e2,?_⟩
     cases c with
     | true =>
      rw [if_pos rfl] at g
      refine iteT ?_
      rcases g with ⟨i,e,g⟩ | ⟨i,e,g⟩
      ·exact .inl ⟨i,e,hq _ _ g⟩
      ·exact .inr ⟨i,e,hq _ _ g⟩
     | false =>
      rw [if_neg Bool.false_ne_true] at g
      refine iteF ?_
      obtain ⟨u,f,b1,b2,b3,b4,b5,b6,b7,b8,u2,f2,b9,g⟩:=g
      refine ⟨u,f,b1,b2,b3,b4,b5,b6,b7,b8,u2,f2,b9,?_⟩
      rcases g with ⟨i,e,g⟩ | ⟨i,e,g⟩
      ·exact .inl ⟨i,e,hq _ _ g⟩
      ·exact .inr ⟨i,e,hq _ _ g⟩
end
section
variable {P:Program} {w:World} {K:PySem.W.Frag} {mg:Str→Option Value} {base:Heap}
theorem boot_strT:bootBuiltins "str" = some (.type "str"):=by decide +kernel
def dTwo (hs:List Int) (M:List (List Int)) (hs':List Int) (M':List (List Int)):PyData:=.list [dW hs M,dW hs' M']
theorem rows_show {n:Nat} (hn:n≤8):∀ M:List (List Int),(∀ x ∈ M,x.length=n∧∀ z ∈ x,z.natAbs < 10 ^ 30)→PyData.showableAll (M.map dI)=true∧PyData.intsShortAll 31 (M.map dI)=true∧PyData.hasDictAll (M.map dI)=false∧PyData.weightAll (M.map dI)≤817 * M.length
 | [],_=>⟨rfl,rfl,rfl,Nat.le_refl _⟩
 | x :: M,h=>by
  obtain ⟨a1,a2,a3,a4⟩:=rows_show hn M fun y hy=>h y (List.mem_cons_of_mem _ hy)
  obtain ⟨lx,bx⟩:=h x List.mem_cons_self
  obtain ⟨b1,b2,b3,b4⟩:=ints_show x bx
  rw [List.map_cons]
  refine ⟨?_,?_,?_,?_⟩
  ·simp only [PyData.showableAll,dI,PyData.showable,a1,b1,Bool.and_self]
  ·simp only [PyData.intsShortAll,dI,PyData.intsShort,a2,b2,Bool.and_self]
  ·simp only [PyData.hasDictAll,dI,PyData.hasDict,a3,b3,Bool.or_self]
  ·simp only [PyData.weightAll,dI,PyData.weight,List.length_cons]
   omega
theorem Wz.show {H:Hp} {p:Addr} {n:Nat} {hs:List Int} {M:List (List Int)} (W:Wz H p n hs M) (hn:n≤8):(dW hs M).showable=true∧(dW hs M).intsShort 31=true∧(dW hs M).hasDict=false∧(dW hs M).weight≤8000:=by
 have wm:wMax=1000000000000000000000:=by decide
 obtain ⟨a1,a2,a3,a4⟩:=ints_show hs fun z hz=>Nat.lt_of_le_of_lt (show z.natAbs≤3 by have:=W.hb z hz; omega) (by decide)
 obtain ⟨b1,b2,b3,b4⟩:=rows_show hn M fun x hx=>by
  obtain ⟨j,hj⟩:=List.mem_iff_getElem?.mp hx
  obtain ⟨r1,r2⟩:=W.sq.row j x hj
  exact ⟨r1,fun z hz=>Nat.lt_of_le_of_lt (r2 z hz) (by rw [wm]; decide)⟩
 have l1:=W.len
 have l2:=W.sq.len
 refine ⟨?_,?_,?_,?_⟩
 ·simp only [dW,dI,PyData.showable,PyData.showableAll,a1,b1,Bool.and_self]
 ·simp only [dW,dI,PyData.intsShort,PyData.intsShortAll,a2,b2,Bool.and_self]
 ·simp only [dW,dI,PyData.hasDict,PyData.hasDictAll,a3,b3,Bool.or_self]
 ·simp only [dW,dI,PyData.weight,PyData.weightAll]
  have b4':PyData.weightAll (M.map fun ns=>PyData.list (ns.map PyData.int))≤817 * M.length:=b4
  omega
theorem two_show {H:Hp} {p p':Addr} {n m:Nat} {hs hs':List Int} {M M':List (List Int)} (W:Wz H p n hs M) (W':Wz H p' m hs' M') (hn:n≤8) (hm:m≤8):(dTwo hs M hs' M').showable=true∧(dTwo hs M hs' M').hasDict=false∧(dTwo hs M hs' M').depth≤32∧(dTwo hs M hs' M').shown.length≤sizeLine:=by
 obtain ⟨a1,a2,a3,a4⟩:=W.show hn
 obtain ⟨b1,b2,b3,b4⟩:=W'.show hm
 obtain ⟨c1,c2⟩:=lay_dW hs M
 obtain ⟨d1,d2⟩:=lay_dW hs' M'
 have cl:(dTwo hs M hs' M').canLay0=true:=by simp only [dTwo,PyData.canLay0,PyData.canLayAll0,c1,d1,Bool.and_self]
 have is:(dTwo hs M hs' M').intsShort 31=true:=by simp only [dTwo,PyData.intsShort,PyData.intsShortAll,a2,b2,Bool.and_self]
 refine ⟨by simp only [dTwo,PyData.showable,PyData.showableAll,a1,b1,Bool.and_self],by simp only [dTwo,PyData.hasDict,PyData.hasDictAll,a3,b3,Bool.or_self],by simp only [dTwo,PyData.depth,PyData.depthAll]; omega,?_⟩
 have h:=PyData.shown_le 31 (by decide) _ (PyData.leavesShort_of_canLay0 31 _ cl is)
 have w:(dTwo hs M hs' M').weight≤16002:=by simp only [dTwo,PyData.weight,PyData.weightAll]; omega
 have e:=sizeLine_eq
 omega
theorem WR.da {H:Hp} {p:Addr} {hs:List Int} {M:List (List Int)} (W:WR H p hs M):DA K any H (.ref p) (dW hs M):=by
 obtain ⟨hA,rA,rs,h1,h2,h3,R⟩:=W.ex
 exact .tup trivial (SqT.of h1) (.cons (daI trivial (SqL.of h2)) (.cons (.lst trivial (SqL.of h3) (das_rows R.len R.row)) .nil))
def Kp (H H':Hp):Prop:=∀ b o,H b=some o→(∀ ps,o≠.tbl ps)→H' b=some o
theorem Kp.of {H H':Hp} (s:Same H H'):Kp H H':=fun b o e _=>s b o e
theorem Kp.trans {H H1 H2:Hp} (a:Kp H H1) (b:Kp H1 H2):Kp H H2:=fun c o e n=>b c o (a c o e n) n
theorem Kp.chg {Pt:Addr} {tb:Array Value} {H H':Hp} (e:H Pt=some (.tbl tb)) (c:Chg (fun b=>b=Pt) H H'):Kp H H':=fun b o eb n=>c b o (fun z=>by rw [z,e] at eb; cases eb; exact n _ rfl) eb
theorem Kp.upd {H H1:Hp} {l:Addr} {o:HO} (k:Kp H H1) (hl:H l=none):Kp H (L2.upd H1 l o):=fun b u e n=>by rw [upd_ne (ne_of_none e hl)]; exact k b u e n
theorem Wz.kp {H H':Hp} {p:Addr} {n:Nat} {hs:List Int} {M:List (List Int)} (W:Wz H p n hs M) (k:Kp H H'):Wz H' p n hs M:=by
 refine ⟨?_,W.len,W.sq,W.hb⟩
 obtain ⟨hA,rA,rs,h1,h2,h3,R⟩:=W.wr.ex
 exact ⟨hA,rA,rs,k _ _ h1 nofun,k _ _ h2 nofun,k _ _ h3 nofun,⟨R.len,fun i r y g1 g2=>k _ _ (R.row i r y g1 g2) nofun,R.nd⟩⟩
def spParts:Sp:=fun vs H Q _=>∃ (Z:Addr→Prop) (wA oA:Addr) (v:V) (t:Tr) (n m:Nat) (hs hs':List Int) (M M':List (List Int)),vs=[.ref wA,.ref oA,v]∧Wz H wA n hs M∧Wz H oA m hs' M'∧n≤8∧m≤8∧TrAt Z H v t∧Gd t∧t.deep≤12∧t.knots≤4096 ∧
 (trow hs M n t).sum≠(trow hs' M' m t).sum∧∀ H',Same H H'→Q (.bl true) H'
abbrev nParts:List Str:=["_law_web_here","_law_other","_law_tree"]
theorem scParts:FnScope nParts nParts (defScope sParts):=by constructor<;>first|rfl|decide +kernel
theorem ok_parts {f fD fR:Addr} {fd fdD fdR:FuncData} (B:BltL mg) (F:Fun K "_law_parts" "_law_parts" sParts f fd) (DD:Dn K mg "_law_deep" sDeep ["_law_tree"] fD fdD) (GD:FnOk P w K mg base CX0 13 fD fdD ["_law_tree"] (spDeep 12))
  (DR:Dn K mg "_law_row" sRow aLRow fR fdR) (GR:FnOk P w K mg base CX0 13 fR fdR aLRow (spLRow 12)):FnOk P w K mg base CX0 14 f fd nParts spParts:=by
 refine F.ok scParts (fun vs H Q E h=>?_) (fun cdv A outer s H vs Q E hr h=>?_)
 ·obtain ⟨Z,wA,oA,v,t,n,m,hs,hs',M,M',rfl,_⟩:=h
  rfl
 ·obtain ⟨Z,wA,oA,v,t,n,m,hs,hs',M,M',rfl,W1,W2,hn,hm,T,G,hd,hk,ne,q⟩:=h
  obtain ⟨p,ev⟩:∃ p,v=.ref p:=by
   obtain ⟨wi,bs⟩:=t
   obtain ⟨p,l,ys,e,_⟩:=T.at'
   exact ⟨p,e⟩
  subst ev
  refine ⟨_,pss_one (ps_ret (pe_and (pe_cmpR op_notN (pv 2) pe_non (nomark _)) (pe_and (pe_cmpR op_le (pe_fn DD GD hr rfl (pa_cons (pv 2) pa_nil)) pe_int (nomark _))
   (pe_one (pe_cmpR op_ne (pe_callB (call_sum rfl) (by rfl) B.sum boot_sum (pa_cons (pe_fn DR GR hr rfl (pa_cons (pv 0) (pa_cons (pv 2) pa_nil))) pa_nil)) (pe_callB (call_sum rfl) (by rfl) B.sum boot_sum (pa_cons (pe_fn DR GR hr rfl (pa_cons (pv 1) (pa_cons (pv 2) pa_nil))) pa_nil)) (nomark _)))))),?_⟩
  refine ⟨_,rfl,rfl,_,rfl,iteT ?_⟩
  refine ⟨_,rfl,Z,_,t,rfl,T,G,hd,_,_,rfl,rfl,_,rfl,?_⟩
  rw [decide_eq_true (by omega)]
  refine iteT ?_
  refine ⟨_,rfl,_,rfl,Z,wA,_,t,n,hs,M,rfl,W1,hn,T,hd,hk,fun D1 H1 s1 n1 e1=>?_⟩
  refine ⟨D1,_,rfl,SqL.of e1,?_⟩
  refine ⟨_,rfl,_,rfl,Z,oA,_,t,m,hs',M',rfl,W2.same s1,hm,T.same s1,hd,hk,fun D2 H2 s2 n2 e2=>?_⟩
  refine ⟨D2,_,rfl,SqL.of e2,rfl,?_⟩
  have d:(!decide (V.int (trow hs M n t).sum=V.int (trow hs' M' m t).sum))=true:=by rw [decide_eq_false (fun z=>ne (V.int.inj z))]; rfl
  rw [d]
  exact q H2 (s1.trans s2)
end
section
variable {P:Program} {w:World} {K:PySem.W.Frag} {mg:Str→Option Value} {base:Heap}
def spLaw (K:PySem.W.Frag) (Pt:Addr):Sp:=fun vs H Q _=>∃ (a:Addr) (ns:List Int),vs=[.ref a]∧SqL K H a (ns.map V.int)∧ns.length≤63∧TbG Pt H∧∀ H',Q (.bl true) H'
abbrev nLaw:List Str:=["_law_script","_law_web_here","_law_other","_law_copy","_law_lots","_law_there","_law_tree"]
theorem scLaw:FnScope nLaw ["_law_script"] (defScope sLaw):=by constructor<;>first|rfl|decide +kernel
theorem ok_law {f fT fTo fP fPa Pt:Addr} {fd fdT fdTo fdP fdPa:FuncData} (B:BltL mg) (bS:mg "str" = none) (F:Fun K "law" "law" sLaw f fd)
  (DT:Dn K mg "_law_two" sTwo ["_law_script","_law_most"] fT fdT) (GT:FnOk P w K mg base CX0 3 fT fdT ["_law_script","_law_most"] (spTwo K))
  (DTo:Dn K mg "coarsest_together" sTogether ["web","other"] fTo fdTo) (GTo:FnOk P w K mg base CX0 4 fTo fdTo ["web","other"] spTogether)
  (DP:Dn K mg "parting_tree" sPTree ["web","other"] fP fdP) (GP:FnOk P w K mg base CX0 43 fP fdP ["web","other"] (spPTree Pt (TbG Pt)))
  (DPa:Dn K mg "_law_parts" sParts nParts fPa fdPa) (GPa:FnOk P w K mg base CX0 14 fPa fdPa nParts spParts) :
  FnOk P w K mg base CX0 44 f fd ["_law_script"] (spLaw K Pt):=by
 refine F.ok scLaw (fun vs H Q E h=>?_) (fun cdv A outer s H vs Q E hr h=>?_)
 ·obtain ⟨a,ns,rfl,_⟩:=h
  rfl
 ·obtain ⟨a,ns,rfl,hS,hlen,tb,k⟩:=h
  have r3:=hr.mono (j:=3) (by decide)
  have r4:=hr.mono (j:=4) (by decide)
  have r14:=hr.mono (j:=14) (by decide)
  refine ⟨_,pss_cons (ps_asg (pe_fn DT GT r3 rfl (pa_cons (pv 0) (pa_cons pe_int pa_nil))) (pg_tup rfl (pgs_cons (pg_name (i:=1) scLaw.nd rfl (Or.inl rfl)) (pgs_cons (pg_name (i:=2) scLaw.nd rfl (Or.inl rfl)) pgs_nil))))
   (pss_cons (ps_set (i:=3) scLaw.nd rfl (Or.inl rfl) (pe_callTy (call_strD hr.gd hr.units) (by rfl) bS boot_strT (pa_cons (pe_lst (pa_cons (pv 1) (pa_cons (pv 2) pa_nil))) pa_nil)))
   (pss_cons (ps_asg (pe_fn DTo GTo r4 rfl (pa_cons (pv 1) (pa_cons (pv 2) pa_nil))) (pg_tup rfl (pgs_cons (pg_name (i:=4) scLaw.nd rfl (Or.inl rfl)) (pgs_cons (pg_name (i:=5) scLaw.nd rfl (Or.inl rfl)) pgs_nil))))
   (pss_mid (ps_set (i:=6) scLaw.nd rfl (Or.inl rfl) (pe_fn DP GP hr rfl (pa_cons (pv 1) (pa_cons (pv 2) pa_nil))))
   (pss_cons (ps_if (pt_cmpR (op_eqD hr.units) (pe_callB call_sorted (by rfl) B.sorted boot_sorted (pa_cons (pv 4) pa_nil)) (pe_callB call_sorted (by rfl) B.sorted boot_sorted (pa_cons (pv 5) pa_nil)) (nomark _))
    (pss_one (ps_ret (pe_and (pe_cmpR op_isN (pv 6) pe_non (nomark _)) (pe_one (pe_cmpR op_isN (pe_fn DP GP hr rfl (pa_cons (pv 2) (pa_cons (pv 1) pa_nil))) pe_non (nomark _)))))) pss_nil)
   (pss_cons (ps_if (PW.pt (pw_or (pt_not (pt_val (pe_fn DPa GPa r14 rfl (pa_cons (pv 1) (pa_cons (pv 2) (pa_cons (pv 6) pa_nil))))))
    (pw_or1 (pt_not (pt_val (pe_fn DPa GPa r14 rfl (pa_cons (pv 2) (pa_cons (pv 1) (pa_cons (pe_fn DP GP hr rfl (pa_cons (pv 2) (pa_cons (pv 1) pa_nil))) pa_nil))))))))) (pss_one (ps_ret pe_bl)) pss_nil)
   (pss_cons (ps_expr (pe_bm PySem.F.plainAttrs_list PySem.F.slot_list_append PySem.F.type_list_append mt_append (pe_ix ix_tup (pv 6) pe_int (fun _ _=>rfl)) (pa_cons (pe_tup (pa_cons pe_non (pa_cons (pe_lst (pa_cons (pe_tup (pa_cons pe_non (pa_cons (pe_lst pa_nil) pa_nil))) pa_nil)) pa_nil))) pa_nil)))
   (pss_one (ps_ret (pe_and (pe_fn DPa GPa r14 rfl (pa_cons (pv 1) (pa_cons (pv 2) (pa_cons (pe_fn DP GP hr rfl (pa_cons (pv 1) (pa_cons (pv 2) pa_nil))) pa_nil)))) (pe_one (pe_cmpR op_eq (pe_callTy (call_strD hr.gd hr.units) (by rfl) bS boot_strT (pa_cons (pe_lst (pa_cons (pv 1) (pa_cons (pv 2) pa_nil))) pa_nil)) (pv 3) (nomark _)))))))))))),?_⟩
  refine ⟨_,rfl,a,ns,6,rfl,hS,by decide,fun p w1 w2 n m hs hs' M M' H1 s1 ep W1 W2 hn hm _ _ _=>?_⟩
  refine ⟨p,_,rfl,SqT.of ep,rfl,_,_,rfl,_,_,rfl,rfl,?_⟩
  have tb1:TbG Pt H1:=(tabG Pt).keep H H1 tb fun b o _ e=>s1 _ _ e
  have sh:=two_show W1 W2 (by omega) (by omega)
  have daT:∀ {Hz:Hp} {Lz:Addr},Kp H1 Hz→Hz Lz=some (.lst [.ref w1,.ref w2])→L2.DA K any Hz (.ref Lz) (dTwo hs M hs' M'):=fun sz e=>.lst trivial (SqL.of e) (.cons (W1.kp sz).wr.da (.cons (W2.kp sz).wr.da .nil))
  refine ⟨_,rfl,_,rfl,(by show 2≤sizeLine; decide),fun Lz hLz=>?_⟩
  have s2:Same H1 (L2.upd H1 Lz (.lst [.ref w1,.ref w2])):=Same.upd hLz
  refine ⟨Lz,_,rfl,daT (.of s2) upd_same,sh,?_⟩
  generalize L2.upd H1 Lz (.lst [.ref w1,.ref w2])=H2 at s2 ⊢
  generalize htx:V.str (dTwo hs M hs' M').shown=txt
  refine ⟨_,rfl,_,rfl,w1,w2,n,m,hs,hs',M,M',rfl,W1.same s2,W2.same s2,by omega,by omega,fun p3 la lb ls H3 s3 e3 ea eb C=>?_⟩
  refine ⟨p3,_,rfl,SqT.of e3,rfl,_,_,rfl,_,_,rfl,rfl,?_⟩
  have s13:=s2.trans s3
  have tb3:TbG Pt H3:=(tabG Pt).keep H1 H3 tb1 fun b o _ e=>s13 _ _ e
  have ll:ls.length=n+m:=by rw [←C.len,List.length_append,W1.len,W2.len]
  obtain ⟨t3,eP3⟩:=(tabG Pt).at' H3 tb3
  have k13:Kp H1 H3:=.of s13
  refine ⟨fun σ H4=>∃ uv,σ=[some (.ref a),some (.ref w1),some (.ref w2),some txt,some (.ref la),some (.ref lb),some uv]∧Kp H3 H4∧TbG Pt H4∧((uv=.non∧(ls.take n).Perm (ls.drop n)) ∨ (¬ (ls.take n).Perm (ls.drop n)∧∃ t,TrAt (Nw H3) H4 uv t∧Gd t∧t.deep≤12∧t.knots≤4096∧(trow hs M n t).sum≠(trow hs' M' m t).sum)),?_,?_⟩
  ·refine ⟨_,rfl,_,rfl,w1,w2,n,m,hs,hs',M,M',rfl,W1.same s13,W2.same s13,hn,hm,tb3,fun l4 H4 c4 n4 tb4 C4 al=>?_,fun l4 v t H4 c4 n4 tb4 C4 na T G d kn ne=>?_⟩
   ·rw [C4.uniq C] at al
    exact ⟨_,rfl,.chg eP3 c4,tb4,.inl ⟨rfl,al⟩⟩
   ·rw [C4.uniq C] at na
    exact ⟨_,rfl,.chg eP3 c4,tb4,.inr ⟨na,t,T,G,d,kn,ne⟩⟩
  ·rintro σ H4 ⟨uv,rfl,k4,tb4,hc⟩
   refine ⟨_,rfl,la,_,rfl,SqL.of (k4 _ _ ea nofun),by rw [List.length_take]; omega,fun l1 n1 f1 p1 o1=>?_⟩
   have s5:Same H4 (L2.upd H4 l1 (.lst (n1.map V.int))):=Same.upd f1
   have e5:L2.upd H4 l1 (.lst (n1.map V.int)) l1=some (.lst (n1.map V.int)):=upd_same
   generalize L2.upd H4 l1 (.lst (n1.map V.int))=H5 at s5 e5 ⊢
   refine ⟨_,rfl,lb,_,rfl,SqL.of (s5 _ _ (k4 _ _ eb nofun)),by rw [List.length_drop]; omega,fun l2 n2 f2 p2 o2=>?_⟩
   have s6:Same H5 (L2.upd H5 l2 (.lst (n2.map V.int))):=Same.upd f2
   have e6:L2.upd H5 l2 (.lst (n2.map V.int)) l2=some (.lst (n2.map V.int)):=upd_same
   generalize L2.upd H5 l2 (.lst (n2.map V.int))=H6 at s6 e6 ⊢
   refine ⟨dI n1,dI n2,daI trivial (SqL.of (s6 _ _ e5)),daI trivial (SqL.of e6),⟨(lay_dI _).1,(lay_dI _).1,Nat.le_trans (lay_dI _).2 (by decide)⟩,_,rfl,?_⟩
   rw [eqv_dI]
   have sp:=sort_iff p1 o1 p2 o2
   have s46:=s5.trans s6
   have k16:Kp H1 H6:=k13.trans (k4.trans (.of s46))
   have tb6:TbG Pt H6:=(tabG Pt).keep H4 H6 tb4 fun b o _ e=>s46 _ _ e
   rcases hc with ⟨rfl,pm⟩ | ⟨na,t,T,G,hd,kn,ne⟩
   ·rw [decide_eq_true (sp.mpr pm)]
    refine iteT ⟨_,rfl,rfl,_,rfl,iteT ?_⟩
    refine ⟨_,rfl,_,rfl,w2,w1,m,n,hs',hs,M',M,rfl,W2.kp k16,W1.kp k16,hm,hn,tb6,fun l7 H7 c7 n7 tb7 C7 al=>⟨rfl,k _⟩,fun l7 v t H7 c7 n7 tb7 C7 na=>?_⟩
    exact absurd ((swap_coarse W1.len W2.len W1.sq W2.sq C C7).mpr pm) na
   ·rw [decide_eq_false fun z=>na (sp.mp z)]
    refine iteF ?_
    have ne':(trow hs' M' m t).sum≠(trow hs M n t).sum:=fun z=>ne z.symm
    refine ⟨_,rfl,_,rfl,_,rfl,(Nw H3),w1,w2,uv,t,n,m,hs,hs',M,M',rfl,W1.kp k16,W2.kp k16,by omega,by omega,T.same s46,G,hd,kn,ne,fun H7 s7=>⟨_,rfl,iteF ?_⟩⟩
    have k17:Kp H1 H7:=k16.trans (.of s7)
    have tb7:TbG Pt H7:=(tabG Pt).keep H6 H7 tb6 fun b o _ e=>s7 _ _ e
    obtain ⟨t7,eP7⟩:=(tabG Pt).at' H7 tb7
    refine ⟨_,rfl,_,rfl,_,rfl,_,rfl,w2,w1,m,n,hs',hs,M',M,rfl,W2.kp k17,W1.kp k17,hm,hn,tb7,fun l8 H8 c8 n8 tb8 C8 al=>absurd ((swap_coarse W1.len W2.len W1.sq W2.sq C C8).mp al) na,fun l8 v8 t8 H8 c8 n8 tb8 C8 na8 T8 G8 d8 kn8 ne8=>?_⟩
    have k78:Kp H7 H8:=.chg eP7 c8
    have k18:=k17.trans k78
    refine ⟨(Nw H7),w2,w1,v8,t8,m,n,hs',hs,M',M,rfl,W2.kp k18,W1.kp k18,by omega,by omega,T8,G8,d8,kn8,ne8,fun H9 s9=>⟨_,rfl,iteF ?_⟩⟩
    have k79:Kp H7 H9:=k78.trans (.of s9)
    have k19:=k17.trans k79
    have tb9:TbG Pt H9:=(tabG Pt).keep H8 H9 tb8 fun b o _ e=>s9 _ _ e
    obtain ⟨wi,bs⟩:=t
    obtain ⟨pp,l,ys,rfl,z1,z2,hp,hl,hb⟩:=T.at'
    have k49:Kp H4 H9:=(Kp.of (s46.trans s7)).trans k79
    have hp9:=k49 _ _ hp nofun
    have hl9:=k49 _ _ hl nofun
    refine ⟨_,rfl,pp,_,_,_,rfl,rfl,SqT.of hp9,rfl,.inl ⟨rfl,_,SqL.of hl9⟩,Nat.zero_le _,fun x1 h1=>⟨(by show 2≤sizeLine; decide),fun x2 h2=>⟨(by show 1≤sizeLine; decide),fun x3 h3=>⟨(by show 2≤sizeLine; decide),fun x4 h4=>?_⟩⟩⟩⟩
    have s10:=(Same.upd (o:=.lst []) h1).trans ((Same.upd (o:=.tup [.non,.ref x1]) h2).trans ((Same.upd (o:=.lst [.ref x2]) h3).trans (Same.upd (o:=.tup [.non,.ref x3]) h4)))
    generalize L2.upd (L2.upd (L2.upd (L2.upd H9 x1 (.lst [])) x2 (.tup [.non,.ref x1])) x3 (.lst [.ref x2])) x4 (.tup [.non,.ref x3])=H10 at s10 ⊢
    have ly:ys.length≤4096:=by
     have h1:=hb.len
     have h2:=Tr.knotss_len bs
     rw [Tr.knots] at kn
     omega
    have hl10:=s10 _ _ hl9
    refine ⟨l,ys,.ref x4,rfl,rfl,hl10,small5000 (by omega),?_⟩
    have hl1:H1 l=none:=s13.free z2
    have k1z:Kp H1 (L2.upd H10 l (.lst (ys++[.ref x4]))):=(k19.trans (.of s10)).upd hl1
    have tbz:TbG Pt (L2.upd H10 l (.lst (ys++[.ref x4]))):=by
     have tb10:TbG Pt H10:=(tabG Pt).keep H9 H10 tb9 fun b o _ e=>s10 _ _ e
     obtain ⟨t10,eP10⟩:=(tabG Pt).at' H10 tb10
     refine (tabG Pt).keep H10 _ tb10 fun b o hb e=>?_
     rw [upd_ne]
     ·exact e
     ·intro z
      rw [z,hl10] at e
      cases e
      rcases hb with hb | ⟨φ,hb⟩
      ·rw [←hb,z,hl10] at eP10; cases eP10
      ·cases hb
    generalize L2.upd H10 l (.lst (ys++[.ref x4]))=Hz at k1z tbz ⊢
    obtain ⟨tz,ePz⟩:=(tabG Pt).at' Hz tbz
    refine ⟨_,rfl,_,rfl,_,rfl,_,rfl,w1,w2,n,m,hs,hs',M,M',rfl,W1.kp k1z,W2.kp k1z,hn,hm,tbz,fun l11 H11 c11 n11 tb11 C11 al=>absurd (by rw [C11.uniq C] at al; exact al) na,fun l11 v11 t11 H11 c11 n11 tb11 C11 na11 T11 G11 d11 kn11 ne11=>?_⟩
    have k11:Kp H1 H11:=k1z.trans (.chg ePz c11)
    refine ⟨(Nw Hz),w1,w2,v11,t11,n,m,hs,hs',M,M',rfl,W1.kp k11,W2.kp k11,by omega,by omega,T11,G11,d11,kn11,ne11,fun H12 s12=>⟨_,rfl,iteT ?_⟩⟩
    have k12:Kp H1 H12:=k11.trans (.of s12)
    refine ⟨_,rfl,_,rfl,(by show 2≤sizeLine; decide),fun Ly hLy=>?_⟩
    refine ⟨Ly,_,rfl,daT (k12.trans (.of (Same.upd hLy))) upd_same,sh,_,rfl,by rw [←htx]; rfl,?_⟩
    rw [htx,decide_eq_true rfl]
    exact k _
end
section
theorem call41 {P:Program} {w:World} {K:PySem.W.Frag} {mg mb:Str→Option Value} {k:Nat} {fa a Pt cc:Addr} {fd:FuncData} {x:Str} {sp:Sp} {s₁:Shared} {vs:List Value} {ns:List Int}
  (KX:K.In s₁.heap) (hns:s₁.heap.Ns mainGlobals mg) (hb:s₁.heap.Ns builtinsNs mb) (hbb:∀ x:Str,x≠"__name__"→mb x=bootBuiltins x) (hlim:s₁.heap.NoLimit) (hsr:s₁.heap.NoSeer) (hbm:BMn mg s₁.heap) (hg:s₁.gens=#[])
  (ha:s₁.heap.get? a=some { cls:=.type "list",data:=.seq vs.toArray }) (hi:IntsAre vs ns) (hl:ns.length≤sizeLine) (hr:Room k callerA)
  (hP:s₁.heap.get? Pt=some (PySem.W.tabObj #[])) (hcc:PySem.W.codeHdIn K cc Pt=true) (hPK:K.lookup Pt=none)
  (F:∀ base:Heap,K.In base→base.Ns mainGlobals mg→base.NoSeer→BMn mg base→FnOk P w K mg base CX0 k fa fd [x] sp) (hbind:∀ (s:Shared) (u:Value),BindsTo s fd ⟨[u],[]⟩ [(x,u)])
  (hsp:∀ H:Hp,SqL K H a (ns.map V.int)→H Pt=some (.tbl #[])→sp [.ref a] H (fun v _=>v=.bl true) fun _ _ _=>False) :
  codeAny (model P w) callerA (.call (.ref fa) ⟨[.ref a],[]⟩) (fun r s'=>r=.ok (.ret (.bool true))∧OldK s₁.heap s'.heap∧s'.os=s₁.os∧AllBare s'.gens) s₁:=by
 have rv:=vals_ints hi
 have lenV:=hi.length
 have aP:a≠Pt:=fun z=>by rw [z,hP] at ha; cases ha
 have core:∀ H:Hp,H Pt=some (.tbl #[])→(∀ b u,H b=some u→b=Pt ∨ (b=a∧∃ o xs,u=.frz o (.lst xs)))→SqL K H a (ns.map V.int)→HOk P w H s₁.heap→(H a≠none→K.lookup a=none) →
   codeAny (model P w) callerA (.call (.ref fa) ⟨[.ref a],[]⟩) (fun r s'=>r=.ok (.ret (.bool true))∧OldK s₁.heap s'.heap∧s'.os=s₁.os∧AllBare s'.gens) s₁:=by
  intro H eP hO hS hok hK
  have dt:∀ {b:Addr} {o:Obj},s₁.heap.get? b=some o→(∀ xs n,o.data≠.seq xs n)→(∀ xs,o.data≠.fields xs)→H b=none:=fun {b o} e n1 n2=>by
   cases q:H b with
   | none=>rfl
   | some u =>
    rcases hO b u q with z | ⟨z,_⟩
    ·rw [z,hP] at e; cases e; exact (n2 _ rfl).elim
    ·rw [z,ha] at e; cases e; exact (n1 _ _ rfl).elim
  have nsK:∀ {b:Addr} {m:Str→Option Value},s₁.heap.Ns b m→(hidT s₁.heap H).Ns b m:=fun {b m} ⟨o,es,ep,e,d,r⟩=>⟨o,es,ep,hidT_get e (dt e (fun _ _ z=>by rw [d] at z; cases z) fun _ z=>by rw [d] at z; cases z),d,r⟩
  have hKb:K.In (hidT s₁.heap H):=fun b o e=>hidT_get (KX b o e) (by
   cases q:H b with
   | none=>rfl
   | some u =>
    rcases hO b u q with z | ⟨z,_⟩
    ·rw [z] at e
     have e':K.lookup Pt=some o:=e
     rw [hPK] at e'; cases e'
    ·rw [z] at e
     have e':K.lookup a=some o:=e
     rw [hK (by rw [←z,q]; exact nofun)] at e'; cases e')
  have hBm:BMn mg (hidT s₁.heap H):=let ⟨bm,ob,m1,m2,m3,m4,m5,m6⟩:=hbm; ⟨bm,ob,m1,m2,hidT_get m3 (dt m3 (fun _ _ z=>by rw [m6] at z; cases z) fun _ z=>by rw [m6] at z; cases z),m4,m5,m6⟩
  have hSr:(hidT s₁.heap H).NoSeer:=⟨let ⟨mc,a,b⟩:=hsr.statics; ⟨mc,nsK a,b⟩,let ⟨mc,a,b⟩:=hsr.mods; ⟨mc,nsK a,b⟩,let ⟨mc,a,b⟩:=hsr.imp; ⟨mc,nsK a,b⟩,let ⟨bm,ob,m1,m2,m3,m4,m5,m6⟩:=hBm; ⟨mg,bm,ob,nsK hns,m1,m3,m4,m5⟩⟩
  have hM:Mod K mg (hidT s₁.heap H):=⟨hKb,nsK hns,⟨mb,nsK hb,hbb⟩,let ⟨mc,h1,h2⟩:=hlim; ⟨mc,nsK h1,h2⟩⟩
  have e0:Env0 P w K mg (hidT s₁.heap H) callerA [] s₁ H:=⟨rfl,hM,fun b o e=>of_hidT e,Nat.le_of_eq (hidT_size _ _),trivial,fun b hb=>absurd (show b ∈ ([]:List Addr) from hb) (by simp),hok,.of_eq hg⟩
  refine codeAny_mono ((F _ hKb (nsK hns) hSr hBm).run callerA [] s₁ H ⟨[.ref a],[]⟩ [.ref a] [.ref a] _ _ hr e0 (hbind s₁ (.ref a)) (.cons rfl .nil) (hsp H hS eP)) fun r s' h=>?_
  cases r with
  | error e=>exact False.elim h
  | ok fl =>
   cases fl with
   | next=>exact False.elim h
   | brk=>exact False.elim h
   | cont=>exact False.elim h
   | ret u =>
    obtain ⟨v,H',os,bare,un,hok',r',q⟩:=h
    have q':v=.bl true:=q
    subst q'
    obtain rfl:u=Value.bool true:=r'
    have all:∀ b o,s₁.heap.get? b=some o→asItWas s₁.heap s'.heap b o:=fun b o e=>by
     cases q:H b with
     | none=>exact .inl (un.keep b o e q (by intro z; exact absurd (show b ∈ ([]:List Addr) from z) (by simp)) (by simp))
     | some u =>
      rcases hO b u q with rfl | ⟨rfl,ob,xs,rfl⟩
      ·obtain ⟨more,z⟩:=un.tbls b _ eP
       have z2:s'.heap.get? b=some { cls:=.none,data:=.fields (#[]++more) }:=hok' b _ z
       rw [hP] at e
       cases e
       exact .inr (.inl ⟨((PySem.W.codeHd_of_K KX hcc).tab hP).isCodeTable,rfl,#[],more,rfl,z2⟩)
      ·have z2:=un.frzs b ob _ q
       obtain ⟨e1,_⟩:=hok b _ q
       obtain ⟨e2,_⟩:=hok' b _ z2
       rw [e] at e1; cases e1
       exact .inl e2
    exact ⟨rfl,⟨all,fun b o e=>un.there b o e (by simp)⟩,os,bare⟩
 cases hk:K.lookup a with
 | some o =>
  have e:=KX a o hk
  rw [ha] at e
  cases e
  refine core (fun b=>if b=Pt then some (.tbl #[]) else none) (if_pos rfl) (fun b u z=>?_) (.inr ⟨_,vs.toArray,_,hk,rfl,rfl,rfl,by rw [List.size_toArray,lenV]; exact hl,by simpa using rv⟩) (fun b u z=>?_) fun z=>absurd (if_neg aP) z
  ·by_cases hb:b=Pt
   ·exact .inl hb
   ·have z':=(if_neg hb).symm.trans z
    cases z'
  ·by_cases hb:b=Pt
   ·have z':=(if_pos hb).symm.trans z
    cases z'
    subst hb
    exact hP
   ·have z':=(if_neg hb).symm.trans z
    cases z'
 | none =>
  have rd:∀ b u,(if b=Pt then some (.tbl #[]) else if b=a then some (.frz { cls:=.type "list",data:=.seq vs.toArray } (.lst (ns.map V.int))) else none:Option HO)=some u→(b=Pt∧u=.tbl #[]) ∨ (b=a∧u=.frz { cls:=.type "list",data:=.seq vs.toArray } (.lst (ns.map V.int))):=fun b u z=>by
   by_cases hb:b=Pt
   ·rw [if_pos hb] at z; cases z; exact .inl ⟨hb,rfl⟩
   ·rw [if_neg hb] at z
    by_cases hb':b=a
    ·rw [if_pos hb'] at z; cases z; exact .inr ⟨hb',rfl⟩
    ·rw [if_neg hb'] at z; cases z
  refine core (fun b=>if b=Pt then some (.tbl #[]) else if b=a then some (.frz { cls:=.type "list",data:=.seq vs.toArray } (.lst (ns.map V.int))) else none) (if_pos rfl) (fun b u z=>?_) (.inl (.inr ⟨{ cls:=.type "list",data:=.seq vs.toArray },(if_neg aP).trans (if_pos rfl)⟩)) (fun b u z=>?_) fun _=>hk
  ·rcases rd b u z with ⟨h1,_⟩ | ⟨h1,h2⟩
   ·exact .inl h1
   ·exact .inr ⟨h1,_,_,h2⟩
  ·rcases rd b u z with ⟨rfl,rfl⟩ | ⟨rfl,rfl⟩
   ·exact hP
   ·exact ⟨ha,by rw [List.length_map]; exact hl,vs,_,rv,ha⟩
theorem walk41 {l:PySem.W.OpenLaw} {n k:Nat} {q:Program} {loose:List Str} {XP:(Str→Option Value)→Heap→Prop} {YP:World→Heap→Prop} {d:DefRec} {K:Params→PySem.W.Frag} {sp:World→Sp} {x:Str} {Pt:Addr}
  (hn:l.most=some n) (hn2:n≤sizeLine) (hdf:d.params.defaults=[]) (hr:Room k callerA) (hq:importsNone q=true)
  (hY:∀ (w:World) (h:Heap),YP w h→(K w.params).In h) (hT:∀ (w:World) (h:Heap),YP w h→∀ P ∈ [Pt],h.get? P=some (PySem.W.tabObj #[]))
  (F:∀ (w:World) (mg:Str→Option Value) (fa:Addr) (h:Heap),(K w.params).In h→h.Ns mainGlobals mg→mg d.name=some (.ref fa) →
   ∃ (fd:FuncData) (cc:Addr),PySem.W.codeHdIn (K w.params) cc Pt=true∧(K w.params).lookup Pt=none∧(∀ (s:Shared) (u:Value),BindsTo s fd ⟨[u],[]⟩ [(x,u)]) ∧
    ∀ base:Heap,(K w.params).In base→base.Ns mainGlobals mg→base.NoSeer→BMn mg base→FnOk l.prog w (K w.params) mg base CX0 k fa fd [x] (sp w))
  (hsp:∀ (w:World) (H:Hp) (a:Addr) (ns:List Int),ns.length≤n→SqL (K w.params) H a (ns.map V.int)→H Pt=some (.tbl #[])→sp w [.ref a] H (fun v _=>v=.bl true) fun _ _ _=>False) :
  PySem.W.WalkO q loose XP YP l.row.toRowW d [] (fun f vs=>PySem.call f vs):=by
 refine Att.attach_call hn hdf fun w s₀ s₁ mg mb fa o pm cd doc a vs ns G Y ho hd hcd hmg hobj hints hlen hg=>?_
 have KX:=hY w _ Y
 obtain ⟨fd,cc,hcc,hPK,hb,hF⟩:=F w mg fa _ KX G.T.g hmg
 exact call41 KX G.T.g G.T.b G.T.builtins G.T.nolimit (G.T.seer hq) G.T.bmain hg hobj hints (Nat.le_trans hlen hn2) hr (hT w _ Y Pt (List.mem_singleton.mpr rfl)) hcc hPK hF hb fun H hS eP=>hsp w H a ns hlen hS eP
end
structure At (K:PySem.W.Frag) (x:Str) (st:Stmt) (f:Addr) (fd:FuncData):Prop where
 fn:Fun K x x st f fd
 ns:PySem.W.nsIn K mainGlobals x=some (some (.ref f))
theorem at_mk {K:PySem.W.Frag} {x:Str} {st:Stmt} {f:Addr} {oc:Value} {od an:Option Addr} {osl:Array (Option Value)} {kV doc pm cdv ct:Value} (a:PySem.W.nsIn K mainGlobals x=some (some (.ref f))) (l:K.lookup f=some ⟨oc,od,.func (PySem.W.fnOf x x (defArgs st) (defBody st) (defScope st) .none kV doc pm an cdv ct),osl⟩)
  (c:PySem.W.codeIn K cdv x=true) (k:PySem.W.keepIn K (.ref f)=true):∃ f fd,At K x st f fd:=⟨f,_,fun_mk l c k,a⟩
theorem kit_ref {K:PySem.W.Frag} {CN C:Addr} {cd:ClassData} {b:Bool} (h0:(Value.ref CN == Value.ref C)=false) (h1:PySem.W.clsIn K C=some cd) (h2:PySem.W.typeIn K (.ref C)=some (.type "type")) (h3:PySem.W.subIn K (.ref CN) (.ref C)=some b):PySem.W.kitOne K (.ref CN) (.ref C)=some b:=by
 unfold PySem.W.kitOne PySem.W.kitCls
 rw [if_neg (by rw [h0]; decide)]
 show (if ((PySem.W.clsIn K C).isSome && PySem.W.typeIn K (.ref C) == some (.type "type"))=true then PySem.W.subIn K (.ref CN) (.ref C) else none)=some b
 rw [h1,h2,h3]
 rfl
theorem kit_ty {K:PySem.W.Frag} {CN:Addr} {T:String} {b:Bool} (h0:(Value.ref CN == Value.type T)=false) (h1:PySem.W.kitMeta T=true) (h3:PySem.W.subIn K (.ref CN) (.type T)=some b):PySem.W.kitOne K (.ref CN) (.type T)=some b:=by
 unfold PySem.W.kitOne PySem.W.kitCls
 rw [if_neg (by rw [h0]; decide)]
 show (if PySem.W.kitMeta T=true then PySem.W.subIn K (.ref CN) (.type T) else none)=some b
 rw [if_pos h1,h3]
theorem all_mk {l:PySem.W.OpenLaw} {w:World} {K:PySem.W.Frag} {h:Heap} {mg:Str→Option Value} {fa fL:Addr} (X:K.In h) (G:h.Ns mainGlobals mg) (hfa:mg "law" = some (.ref fa)) (A0:∃ f fd,At K "sum_of_products" sDot f fd) (A1:∃ f fd,At K "sums_with_each" sEach f fd) (A2:∃ f fd,At K "first_place_not_nought" sFirst f fd) (A3:∃ f fd,At K "side_by_side" sSide f fd) (A4:∃ f fd,At K "numbered" sNumbered f fd) (A5:∃ f fd,At K "sums_to_lots" sSums f fd) (A6:∃ f fd,At K "split_up" sSplit f fd) (A7:∃ f fd,At K "coarsest_parting" sCoarsest f fd) (A8:∃ f fd,At K "coarsest_together" sTogether f fd) (A9:∃ f fd,At K "part_alike" sAlike f fd) (A10:∃ f fd,At K "leaf_sprouts" sLeafs f fd) (A11:∃ f fd,At K "with_bough" sBough f fd) (A12:∃ f fd,At K "rest_behind" sRest f fd) (A13:∃ f fd,At K "keep_free_ones" sKeep f fd) (A14:∃ f fd,At K "first_unlike" sUnlike f fd) (A15:∃ f fd,At K "copied" sCopied f fd) (A16:∃ f fd,At K "parting_tree" sPTree f fd) (A17:∃ f fd,At K "_law_cell_at" sCellAt f fd) (A18:∃ f fd,At K "_law_draws" sDraws f fd) (A19:∃ f fd,At K "_law_square" sSquare f fd) (A20:∃ f fd,At K "_law_web" sWebP f fd) (A21:∃ f fd,At K "_law_order" sOrder f fd) (A22:∃ f fd,At K "_law_lift" sLift f fd) (A23:∃ f fd,At K "_law_renamed" sLRen f fd) (A24:∃ f fd,At K "_law_two" sTwo f fd) (A25:∃ f fd,At K "_law_deep" sDeep f fd) (A26:∃ f fd,At K "_law_row" sRow f fd) (A27:∃ f fd,At K "_law_parts" sParts f fd)
  {CR Pt cc:Addr} {fI:Addr} {ocI kVI docI pmI cdvI ctI:Value} {odI anI:Option Addr} {oslI:Array (Option Value)} {fG:Addr} {ocG kVG docG pmG ctG:Value} {odG anG:Option Addr} {oslG:Array (Option Value)} (aR:PySem.W.nsIn K mainGlobals "Sprout" = some (some (.ref CR))) (cpg:PySem.W.plainGet K CR Str.empty=true) (chd:PySem.W.hasDictIn K CR=true) (cpo:PySem.W.plainOver K CR=true) (csa:PySem.W.findIn K (.ref CR) "__setattr__" = some (some (.builtin "object.__setattr__"))) (ctr:PySem.W.findIn K (.ref CR) "tree" = some none) (ckn:PySem.W.findIn K (.ref CR) "knots" = some none) (cdp:PySem.W.findIn K (.ref CR) "depth" = some none) (crw:PySem.W.findIn K (.ref CR) "row" = some none) (crs:PySem.W.findIn K (.ref CR) "rest" = some none) (cmk:PySem.W.makesIn K CR=true) (ckp:PySem.W.keepIn K (.ref CR)=true) (mI:PySem.W.findIn K (.ref CR) "__init__" = some (some (.ref fI))) (nI:PySem.W.isFn K (.ref fI)=true) (lI:K.lookup fI=some ⟨ocI,odI,.func (PySem.W.fnOf "__init__" "Sprout.__init__" (defArgs sInitS) (defBody sInitS) (defScope sInitS) .none kVI docI pmI anI cdvI ctI),oslI⟩) (cI:PySem.W.codeIn K cdvI "Sprout.__init__" = true) (kI:PySem.W.keepIn K (.ref fI)=true) (aG:PySem.W.nsIn K mainGlobals "grown_sprouts" = some (some (.ref fG))) (lG:K.lookup fG=some ⟨ocG,odG,.func (PySem.W.fnOf "grown_sprouts" "grown_sprouts" (defArgs sGrown) (defBody sGrown) (defScope sGrown) .none kVG docG pmG anG (.ref cc) ctG),oslG⟩) (cG:PySem.W.codeIn K (.ref cc) "grown_sprouts" = true) (kG:PySem.W.keepIn K (.ref fG)=true) (hcc:PySem.W.codeHdIn K cc Pt=true) (hPK:K.lookup Pt=none) (htr:l.prog.given.tree=none)
  {oc kV doc pm cdv ct:Value} {od an:Option Addr} {osl:Array (Option Value)} (aL:PySem.W.nsIn K mainGlobals "law" = some (some (.ref fL))) (lL:K.lookup fL=some ⟨oc,od,.func (PySem.W.fnOf "law" "law" (defArgs sLaw) (defBody sLaw) (defScope sLaw) .none kV doc pm an cdv ct),osl⟩) (cL:PySem.W.codeIn K cdv "law" = true) (kL:PySem.W.keepIn K (.ref fL)=true)
  (z_len:PySem.W.nsIn K mainGlobals "len" = some none) (z_range:PySem.W.nsIn K mainGlobals "range" = some none) (z_int:PySem.W.nsIn K mainGlobals "int" = some none) (z_sorted:PySem.W.nsIn K mainGlobals "sorted" = some none) (z_enumerate:PySem.W.nsIn K mainGlobals "enumerate" = some none) (z_sum:PySem.W.nsIn K mainGlobals "sum" = some none) (z_zip:PySem.W.nsIn K mainGlobals "zip" = some none) (z_list:PySem.W.nsIn K mainGlobals "list" = some none) (z_isinstance:PySem.W.nsIn K mainGlobals "isinstance" = some none) (z_bool:PySem.W.nsIn K mainGlobals "bool" = some none) (z_max:PySem.W.nsIn K mainGlobals "max" = some none) (z_str:PySem.W.nsIn K mainGlobals "str" = some none) (z_abs:PySem.W.nsIn K mainGlobals "abs" = some none) (z_ValueError:PySem.W.nsIn K mainGlobals "ValueError" = some none) (z_tuple:PySem.W.nsIn K mainGlobals "tuple" = some none) (z_set:PySem.W.nsIn K mainGlobals "set" = some none) :
  ∃ (fd:FuncData) (cc:Addr),PySem.W.codeHdIn K cc Pt=true∧K.lookup Pt=none∧(∀ (s:Shared) (v:Value),BindsTo s fd ⟨[v],[]⟩ [("_law_script",v)])∧∀ base:Heap,K.In base→base.Ns mainGlobals mg→base.NoSeer→BMn mg base→FnOk l.prog w K mg base CX0 44 fa fd ["_law_script"] (spLaw K Pt):=by
 have e:=hfa.symm.trans (PySem.W.mg_of X G aL)
 cases e
 obtain ⟨f0,fd0,T0⟩:=A0
 have D0:Dn K mg "sum_of_products" sDot ["numbers","others"] f0 fd0:=⟨T0.fn,PySem.W.mg_of X G T0.ns,T0.fn.binds fun _ _ _ _ _ _ us hl=>match us,hl with | [_,_],_=>rfl⟩
 obtain ⟨f1,fd1,T1⟩:=A1
 have D1:Dn K mg "sums_with_each" sEach ["numbers","rows"] f1 fd1:=⟨T1.fn,PySem.W.mg_of X G T1.ns,T1.fn.binds fun _ _ _ _ _ _ us hl=>match us,hl with | [_,_],_=>rfl⟩
 obtain ⟨f2,fd2,T2⟩:=A2
 have D2:Dn K mg "first_place_not_nought" sFirst ["row"] f2 fd2:=⟨T2.fn,PySem.W.mg_of X G T2.ns,T2.fn.binds fun _ _ _ _ _ _ us hl=>match us,hl with | [_],_=>rfl⟩
 obtain ⟨f3,fd3,T3⟩:=A3
 have D3:Dn K mg "side_by_side" sSide ["web","other"] f3 fd3:=⟨T3.fn,PySem.W.mg_of X G T3.ns,T3.fn.binds fun _ _ _ _ _ _ us hl=>match us,hl with | [_,_],_=>rfl⟩
 obtain ⟨f4,fd4,T4⟩:=A4
 have D4:Dn K mg "numbered" sNumbered ["marks"] f4 fd4:=⟨T4.fn,PySem.W.mg_of X G T4.ns,T4.fn.binds fun _ _ _ _ _ _ us hl=>match us,hl with | [_],_=>rfl⟩
 obtain ⟨f5,fd5,T5⟩:=A5
 have D5:Dn K mg "sums_to_lots" sSums ["weights","lots"] f5 fd5:=⟨T5.fn,PySem.W.mg_of X G T5.ns,T5.fn.binds fun _ _ _ _ _ _ us hl=>match us,hl with | [_,_],_=>rfl⟩
 obtain ⟨f6,fd6,T6⟩:=A6
 have D6:Dn K mg "split_up" sSplit ["web","lots"] f6 fd6:=⟨T6.fn,PySem.W.mg_of X G T6.ns,T6.fn.binds fun _ _ _ _ _ _ us hl=>match us,hl with | [_,_],_=>rfl⟩
 obtain ⟨f7,fd7,T7⟩:=A7
 have D7:Dn K mg "coarsest_parting" sCoarsest ["web"] f7 fd7:=⟨T7.fn,PySem.W.mg_of X G T7.ns,T7.fn.binds fun _ _ _ _ _ _ us hl=>match us,hl with | [_],_=>rfl⟩
 obtain ⟨f8,fd8,T8⟩:=A8
 have D8:Dn K mg "coarsest_together" sTogether ["web","other"] f8 fd8:=⟨T8.fn,PySem.W.mg_of X G T8.ns,T8.fn.binds fun _ _ _ _ _ _ us hl=>match us,hl with | [_,_],_=>rfl⟩
 obtain ⟨f9,fd9,T9⟩:=A9
 have D9:Dn K mg "part_alike" sAlike ["web","other"] f9 fd9:=⟨T9.fn,PySem.W.mg_of X G T9.ns,T9.fn.binds fun _ _ _ _ _ _ us hl=>match us,hl with | [_,_],_=>rfl⟩
 obtain ⟨f10,fd10,T10⟩:=A10
 have D10:Dn K mg "leaf_sprouts" sLeafs ["hues"] f10 fd10:=⟨T10.fn,PySem.W.mg_of X G T10.ns,T10.fn.binds fun _ _ _ _ _ _ us hl=>match us,hl with | [_],_=>rfl⟩
 obtain ⟨f11,fd11,T11⟩:=A11
 have D11:Dn K mg "with_bough" sBough ["sprout","bough","weights"] f11 fd11:=⟨T11.fn,PySem.W.mg_of X G T11.ns,T11.fn.binds fun _ _ _ _ _ _ us hl=>match us,hl with | [_,_,_],_=>rfl⟩
 obtain ⟨f12,fd12,T12⟩:=A12
 have D12:Dn K mg "rest_behind" sRest ["row","kept"] f12 fd12:=⟨T12.fn,PySem.W.mg_of X G T12.ns,T12.fn.binds fun _ _ _ _ _ _ us hl=>match us,hl with | [_,_],_=>rfl⟩
 obtain ⟨f13,fd13,T13⟩:=A13
 have D13:Dn K mg "keep_free_ones" sKeep ["kept","sprouts"] f13 fd13:=⟨T13.fn,PySem.W.mg_of X G T13.ns,T13.fn.binds fun _ _ _ _ _ _ us hl=>match us,hl with | [_,_],_=>rfl⟩
 obtain ⟨f14,fd14,T14⟩:=A14
 have D14:Dn K mg "first_unlike" sUnlike ["sprouts","ahead"] f14 fd14:=⟨T14.fn,PySem.W.mg_of X G T14.ns,T14.fn.binds fun _ _ _ _ _ _ us hl=>match us,hl with | [_,_],_=>rfl⟩
 obtain ⟨f15,fd15,T15⟩:=A15
 have D15:Dn K mg "copied" sCopied ["tree"] f15 fd15:=⟨T15.fn,PySem.W.mg_of X G T15.ns,T15.fn.binds fun _ _ _ _ _ _ us hl=>match us,hl with | [_],_=>rfl⟩
 obtain ⟨f16,fd16,T16⟩:=A16
 have D16:Dn K mg "parting_tree" sPTree ["web","other"] f16 fd16:=⟨T16.fn,PySem.W.mg_of X G T16.ns,T16.fn.binds fun _ _ _ _ _ _ us hl=>match us,hl with | [_,_],_=>rfl⟩
 obtain ⟨f17,fd17,T17⟩:=A17
 have D17:Dn K mg "_law_cell_at" sCellAt ["_law_script","_law_k"] f17 fd17:=⟨T17.fn,PySem.W.mg_of X G T17.ns,T17.fn.binds fun _ _ _ _ _ _ us hl=>match us,hl with | [_,_],_=>rfl⟩
 obtain ⟨f18,fd18,T18⟩:=A18
 have D18:Dn K mg "_law_draws" sDraws ["_law_cell","_law_many","_law_base","_law_free"] f18 fd18:=⟨T18.fn,PySem.W.mg_of X G T18.ns,T18.fn.binds fun _ _ _ _ _ _ us hl=>match us,hl with | [_,_,_,_],_=>rfl⟩
 obtain ⟨f19,fd19,T19⟩:=A19
 have D19:Dn K mg "_law_square" sSquare ["_law_many","_law_draws_here","_law_way"] f19 fd19:=⟨T19.fn,PySem.W.mg_of X G T19.ns,T19.fn.binds fun _ _ _ _ _ _ us hl=>match us,hl with | [_,_,_],_=>rfl⟩
 obtain ⟨f20,fd20,T20⟩:=A20
 have D20:Dn K mg "_law_web" sWebP ["_law_script","_law_at","_law_many","_law_free"] f20 fd20:=⟨T20.fn,PySem.W.mg_of X G T20.ns,T20.fn.binds fun _ _ _ _ _ _ us hl=>match us,hl with | [_,_,_,_],_=>rfl⟩
 obtain ⟨f21,fd21,T21⟩:=A21
 have D21:Dn K mg "_law_order" sOrder ["_law_cell","_law_many","_law_free"] f21 fd21:=⟨T21.fn,PySem.W.mg_of X G T21.ns,T21.fn.binds fun _ _ _ _ _ _ us hl=>match us,hl with | [_,_,_],_=>rfl⟩
 obtain ⟨f22,fd22,T22⟩:=A22
 have D22:Dn K mg "_law_lift" sLift ["_law_web_here","_law_cell","_law_free"] f22 fd22:=⟨T22.fn,PySem.W.mg_of X G T22.ns,T22.fn.binds fun _ _ _ _ _ _ us hl=>match us,hl with | [_,_,_],_=>rfl⟩
 obtain ⟨f23,fd23,T23⟩:=A23
 have D23:Dn K mg "_law_renamed" sLRen ["_law_web_here","_law_order_here"] f23 fd23:=⟨T23.fn,PySem.W.mg_of X G T23.ns,T23.fn.binds fun _ _ _ _ _ _ us hl=>match us,hl with | [_,_],_=>rfl⟩
 obtain ⟨f24,fd24,T24⟩:=A24
 have D24:Dn K mg "_law_two" sTwo ["_law_script","_law_most"] f24 fd24:=⟨T24.fn,PySem.W.mg_of X G T24.ns,T24.fn.binds fun _ _ _ _ _ _ us hl=>match us,hl with | [_,_],_=>rfl⟩
 obtain ⟨f25,fd25,T25⟩:=A25
 have D25:Dn K mg "_law_deep" sDeep ["_law_tree"] f25 fd25:=⟨T25.fn,PySem.W.mg_of X G T25.ns,T25.fn.binds fun _ _ _ _ _ _ us hl=>match us,hl with | [_],_=>rfl⟩
 obtain ⟨f26,fd26,T26⟩:=A26
 have D26:Dn K mg "_law_row" sRow ["_law_web_here","_law_tree"] f26 fd26:=⟨T26.fn,PySem.W.mg_of X G T26.ns,T26.fn.binds fun _ _ _ _ _ _ us hl=>match us,hl with | [_,_],_=>rfl⟩
 obtain ⟨f27,fd27,T27⟩:=A27
 have D27:Dn K mg "_law_parts" sParts ["_law_web_here","_law_other","_law_tree"] f27 fd27:=⟨T27.fn,PySem.W.mg_of X G T27.ns,T27.fn.binds fun _ _ _ _ _ _ us hl=>match us,hl with | [_,_,_],_=>rfl⟩
 have FL:=fun_mk (st:=sLaw) lL cL kL
 have BL:BltL mg:=⟨PySem.W.mg_none_of X G z_len,PySem.W.mg_none_of X G z_range,PySem.W.mg_none_of X G z_int,PySem.W.mg_none_of X G z_sorted,PySem.W.mg_none_of X G z_enumerate,PySem.W.mg_none_of X G z_sum,PySem.W.mg_none_of X G z_zip,PySem.W.mg_none_of X G z_list,PySem.W.mg_none_of X G z_isinstance,PySem.W.mg_none_of X G z_bool,PySem.W.mg_none_of X G z_max⟩
 have BR:BltR mg:=⟨PySem.W.mg_none_of X G z_abs,PySem.W.mg_none_of X G z_len,PySem.W.mg_none_of X G z_sum,PySem.W.mg_none_of X G z_zip,PySem.W.mg_none_of X G z_range,PySem.W.mg_none_of X G z_enumerate,PySem.W.mg_none_of X G z_isinstance,PySem.W.mg_none_of X G z_ValueError,PySem.W.mg_none_of X G z_int,PySem.W.mg_none_of X G z_bool,PySem.W.mg_none_of X G z_list,PySem.W.mg_none_of X G z_tuple⟩
 have BP:BltP mg:=⟨PySem.W.mg_none_of X G z_len,PySem.W.mg_none_of X G z_zip,PySem.W.mg_none_of X G z_list,PySem.W.mg_none_of X G z_tuple⟩
 have BS:BltS mg:=⟨PySem.W.mg_none_of X G z_len,PySem.W.mg_none_of X G z_sum,PySem.W.mg_none_of X G z_zip,PySem.W.mg_none_of X G z_enumerate,PySem.W.mg_none_of X G z_max,PySem.W.mg_none_of X G z_sorted,PySem.W.mg_none_of X G z_set⟩
 have TC:ClsS K CR:=⟨⟨cpg,chd,cpo,csa⟩,ctr,ckn,cdp,crw,crs⟩
 have MK:Mk K CR fI:=⟨cmk,mI,nI,ckp⟩
 have hC:=PySem.W.mg_of X G aR
 have FI:=fun_mk (st:=sInitS) (qual:="Sprout.__init__") lI cI kI
 have bI:=FI.binds (ps:=aInitS) fun _ _ _ _ _ _ us hl=>match us,hl with | [_,_,_,_,_],_=>rfl
 have FG:=fun_mk (st:=sGrown) lG cG kG
 have DG:Dn K mg "grown_sprouts" sGrown ["kept","knots","weights"] fG _:=⟨FG,PySem.W.mg_of X G aG,FG.binds fun _ _ _ _ _ _ us hl=>match us,hl with | [_,_,_],_=>rfl⟩
 refine ⟨PySem.W.fnOf "law" "law" (defArgs sLaw) (defBody sLaw) (defScope sLaw) .none kV doc pm an cdv ct,cc,hcc,hPK,fun s v=>.of_eq rfl,fun base _ _ hN BM=>?_⟩
 have GDo:=ok_dot (P:=l.prog) (w:=w) (base:=base) BR D0.fn
 have GEa:=ok_eachG D1.fn D0 GDo
 have GFi:=ok_first (P:=l.prog) (w:=w) (base:=base) BS D2.fn
 have GSi:=ok_side (P:=l.prog) (w:=w) (base:=base) BL D3.fn
 have GNM:=ok_numM (P:=l.prog) (w:=w) (base:=base) BP D4.fn
 have GSu:=ok_sums (P:=l.prog) (w:=w) (base:=base) BP D5.fn
 have GSl:=ok_split BP D6.fn D4 GNM D5 GSu
 have GCo:=ok_coarsest BP D7.fn D6 GSl
 have GTo:=ok_together BL D8.fn D7 GCo D3 GSi
 have GAl:=ok_alike BL D9.fn D8 GTo
 have GI:=ok_initS (P:=l.prog) (w:=w) (base:=base) (mg:=mg) TC FI
 have GLe:=ok_leafs BS TC D10.fn hC MK bI GI
 have GBo:=ok_bough BS TC D11.fn D1 GEa hC MK bI GI
 have GGr:=ok_grown BM BS TC FG rfl hcc D11 GBo
 have GRe:=ok_rest BS TC hN htr D12.fn D2 GFi
 have GKe:=ok_keep BS TC D13.fn D12 GRe D2 GFi
 have GUn:=ok_unlike (P:=l.prog) (w:=w) (base:=base) BS TC D14.fn
 have GCp:=ok_copied (P:=l.prog) (w:=w) (base:=base) D15 13
 have GPt:=ok_ptree (tabG Pt) BS TC D16.fn D9 GAl D3 GSi D10 GLe D14 GUn D13 GKe DG GGr D15 GCp
 have GC:=ok_cell (P:=l.prog) (w:=w) (base:=base) BL D17.fn
 have GD:=ok_draws (P:=l.prog) (w:=w) (base:=base) BL D18.fn
 have GQ:=ok_square (P:=l.prog) (w:=w) (base:=base) BL D19.fn
 have GW:=ok_webP BL D20.fn D17 GC D18 GD D19 GQ
 have GO:=ok_order BL D21.fn D18 GD
 have GL:=ok_lift BL D22.fn D18 GD
 have GR:=ok_lren (P:=l.prog) (w:=w) (base:=base) (mg:=mg) D23.fn
 have GT:=ok_two BL D24.fn D17 GC D20 GW D21 GO D22 GL D23 GR
 have GDe:=ok_deep (P:=l.prog) (w:=w) (base:=base) BL (PySem.W.mg_none_of X G z_tuple) D25 12
 have GRw:=ok_lrow (P:=l.prog) (w:=w) (base:=base) BL D26 12
 have GPa:=ok_parts BL D27.fn D25 GDe D26 GRw
 exact ok_law BL (PySem.W.mg_none_of X G z_str) FL D24 GT D8 GTo D16 GPt D27 GPa
theorem walk {l:PySem.W.OpenLaw} {q:Program} {loose:List Str} {XP:(Str→Option Value)→Heap→Prop} {YP:World→Heap→Prop} {d:DefRec} {K:Params→PySem.W.Frag} {Pt:Addr} (hn:l.most=some 63) (hdf:d.params.defaults=[]) (hq:importsNone q=true)
  (hY:∀ (w:World) (h:Heap),YP w h→(K w.params).In h) (hT:∀ (w:World) (h:Heap),YP w h→∀ P ∈ [Pt],h.get? P=some (PySem.W.tabObj #[]))
  (F:∀ (w:World) (mg:Str→Option Value) (fa:Addr) (h:Heap),(K w.params).In h→h.Ns mainGlobals mg→mg d.name=some (.ref fa) →
   ∃ (fd:FuncData) (cc:Addr),PySem.W.codeHdIn (K w.params) cc Pt=true∧(K w.params).lookup Pt=none∧(∀ (s:Shared) (u:Value),BindsTo s fd ⟨[u],[]⟩ [("_law_script",u)])∧∀ base:Heap,(K w.params).In base→base.Ns mainGlobals mg→base.NoSeer→BMn mg base→FnOk l.prog w (K w.params) mg base CX0 44 fa fd ["_law_script"] (spLaw (K w.params) Pt)) :
  PySem.W.WalkO q loose XP YP l.row.toRowW d [] (fun f vs=>PySem.call f vs) :=
 walk41 (n:=63) (k:=44) (x:="_law_script") (sp:=fun w=>spLaw (K w.params) Pt) hn (by decide) hdf ⟨rfl,by decide,by decide,rfl⟩ hq hY hT F (fun _ _ a ns hl hS eP=>⟨a,ns,rfl,hS,hl,.inl eP,fun _=>rfl⟩)
end My
open PySem PySem.W PyProof.Rows
namespace PySem.W.Fast
def tw8773411822452761882:=()
def tw14459058634051592661:=()
def tw13441991497371556263:=()
def tw8436857068520110527:=()
def tw10936665455436093072:=()
def tw2539033915847152083:=()
def tw5234651657692737872:=()
def tw8061694647398682115:=()
def tw9035483561884257411:=()
def tw9228150122375362114:=()
def tw14328935141683471536:=()
def tw2193255058314553941:=()
def tw1614832030935189060:=()
def tw15438777920960641781:=()
def tw3828886623676535220:=()
def tw7787740156893626604:=()
def tw4088485830901426848:=()
def tw15660331799556106112:=()
def tw12420228043526931904:=()
def tw920163394088343248:=()
def tw5277133795916442216:=()
def tw9885764510654882462:=()
def tw13891946179293634191:=()
def tw264864671008989971:=()
def tw15830695575775225124:=()
def tw17481933831549030445:=()
def tw16391789835974743893:=()
def tw5861119934519027500:=()
def tw3674038970499509796:=()
def tw2594193838307647428:=()
def tw3383391694205356341:=()
def tw1971092391706305571:=()
def tw9412816667720403479:=()
def tw9207994775010696014:=()
def tw6863995546306226162:=()
def tw7224624932122712733:=()
def tw14768893279339974046:=()
def tw13567788051587518504:=()
def tw16611702801921392198:=()
def tw4618995782682063695:=()
def tw15378389483437977365:=()
def tw10950683709437875279:=()
def tw4264440404672422764:=()
def tw12519359430021985478:=()
def tw15907520025580307741:=()
end PySem.W.Fast
set_option maxRecDepth 100000 in
set_option maxHeartbeats 0 in
theorem PySem.Challenge.cw_evenkin_k41_trees_that_part_holds : PySem.Challenge.rw_evenkin_k41_trees_that_part.Holds := by
  w_on; o_law; k_head; (case hw => w_witness2)
  k_fill
  refine My.walk (l := PySem.Challenge.rw_evenkin_k41_trees_that_part) rfl rfl (by decide +kernel) (fun w h Y => PySem.W.km_in_of Y) (fun w h Y => PySem.W.km_tabs_of Y) ?F
  case F =>
    intro w mg fa h KX G hmg
    refine' My.all_mk KX G hmg (My.at_mk ?a0 ?l0 ?c0 ?k0) (My.at_mk ?a1 ?l1 ?c1 ?k1) (My.at_mk ?a2 ?l2 ?c2 ?k2) (My.at_mk ?a3 ?l3 ?c3 ?k3) (My.at_mk ?a4 ?l4 ?c4 ?k4) (My.at_mk ?a5 ?l5 ?c5 ?k5) (My.at_mk ?a6 ?l6 ?c6 ?k6) (My.at_mk ?a7 ?l7 ?c7 ?k7) (My.at_mk ?a8 ?l8 ?c8 ?k8) (My.at_mk ?a9 ?l9 ?c9 ?k9) (My.at_mk ?a10 ?l10 ?c10 ?k10) (My.at_mk ?a11 ?l11 ?c11 ?k11) (My.at_mk ?a12 ?l12 ?c12 ?k12) (My.at_mk ?a13 ?l13 ?c13 ?k13) (My.at_mk ?a14 ?l14 ?c14 ?k14) (My.at_mk ?a15 ?l15 ?c15 ?k15) (My.at_mk ?a16 ?l16 ?c16 ?k16) (My.at_mk ?a17 ?l17 ?c17 ?k17) (My.at_mk ?a18 ?l18 ?c18 ?k18) (My.at_mk ?a19 ?l19 ?c19 ?k19) (My.at_mk ?a20 ?l20 ?c20 ?k20) (My.at_mk ?a21 ?l21 ?c21 ?k21) (My.at_mk ?a22 ?l22 ?c22 ?k22) (My.at_mk ?a23 ?l23 ?c23 ?k23) (My.at_mk ?a24 ?l24 ?c24 ?k24) (My.at_mk ?a25 ?l25 ?c25 ?k25) (My.at_mk ?a26 ?l26 ?c26 ?k26) (My.at_mk ?a27 ?l27 ?c27 ?k27) ?aR ?cpg ?chd ?cpo ?csa ?ctr ?ckn ?cdp ?crw ?crs ?cmk ?ckp ?mI ?nI ?lI ?cI ?kI ?aG ?lG ?cG ?kG ?hcc ?hPK ?htr ?aL ?lL ?cL ?kL ?z_len ?z_range ?z_int ?z_sorted ?z_enumerate ?z_sum ?z_zip ?z_list ?z_isinstance ?z_bool ?z_max ?z_str ?z_abs ?z_ValueError ?z_tuple ?z_set
    (case a0 => k_is); (case l0 => k_is); (case c0 => k_is); (case k0 => k_is)
    (case a1 => k_is); (case l1 => k_is); (case c1 => k_is); (case k1 => k_is)
    (case a2 => k_is); (case l2 => k_is); (case c2 => k_is); (case k2 => k_is)
    (case a3 => k_is); (case l3 => k_is); (case c3 => k_is); (case k3 => k_is)
    (case a4 => k_is); (case l4 => k_is); (case c4 => k_is); (case k4 => k_is)
    (case a5 => k_is); (case l5 => k_is); (case c5 => k_is); (case k5 => k_is)
    (case a6 => k_is); (case l6 => k_is); (case c6 => k_is); (case k6 => k_is)
    (case a7 => k_is); (case l7 => k_is); (case c7 => k_is); (case k7 => k_is)
    (case a8 => k_is); (case l8 => k_is); (case c8 => k_is); (case k8 => k_is)
    (case a9 => k_is); (case l9 => k_is); (case c9 => k_is); (case k9 => k_is)
    (case a10 => k_is); (case l10 => k_is); (case c10 => k_is); (case k10 => k_is)
    (case a11 => k_is); (case l11 => k_is); (case c11 => k_is); (case k11 => k_is)
    (case a12 => k_is); (case l12 => k_is); (case c12 => k_is); (case k12 => k_is)
    (case a13 => k_is); (case l13 => k_is); (case c13 => k_is); (case k13 => k_is)
    (case a14 => k_is); (case l14 => k_is); (case c14 => k_is); (case k14 => k_is)
    (case a15 => k_is); (case l15 => k_is); (case c15 => k_is); (case k15 => k_is)
    (case a16 => k_is); (case l16 => k_is); (case c16 => k_is); (case k16 => k_is)
    (case a17 => k_is); (case l17 => k_is); (case c17 => k_is); (case k17 => k_is)
    (case a18 => k_is); (case l18 => k_is); (case c18 => k_is); (case k18 => k_is)
    (case a19 => k_is); (case l19 => k_is); (case c19 => k_is); (case k19 => k_is)
    (case a20 => k_is); (case l20 => k_is); (case c20 => k_is); (case k20 => k_is)
    (case a21 => k_is); (case l21 => k_is); (case c21 => k_is); (case k21 => k_is)
    (case a22 => k_is); (case l22 => k_is); (case c22 => k_is); (case k22 => k_is)
    (case a23 => k_is); (case l23 => k_is); (case c23 => k_is); (case k23 => k_is)
    (case a24 => k_is); (case l24 => k_is); (case c24 => k_is); (case k24 => k_is)
    (case a25 => k_is); (case l25 => k_is); (case c25 => k_is); (case k25 => k_is)
    (case a26 => k_is); (case l26 => k_is); (case c26 => k_is); (case k26 => k_is)
    (case a27 => k_is); (case l27 => k_is); (case c27 => k_is); (case k27 => k_is)
    (case aR => k_is)
    (case cpg => k_is)
    (case chd => k_is)
    (case cpo => k_is)
    (case csa => k_is)
    (case ctr => k_is)
    (case ckn => k_is)
    (case cdp => k_is)
    (case crw => k_is)
    (case crs => k_is)
    (case cmk => k_is)
    (case ckp => k_is)
    (case mI => k_is)
    (case nI => k_is)
    (case lI => k_is)
    (case cI => k_is)
    (case kI => k_is)
    (case aG => k_is)
    (case lG => k_is)
    (case cG => k_is)
    (case kG => k_is)
    (case hcc => first | k_is | kernel_rfl)
    (case hPK => first | k_is | kernel_rfl)
    (case htr => rfl)
    (case aL => k_is); (case lL => k_is); (case cL => k_is); (case kL => k_is)
    (case z_len => k_is); (case z_range => k_is); (case z_int => k_is); (case z_sorted => k_is); (case z_enumerate => k_is); (case z_sum => k_is); (case z_zip => k_is); (case z_list => k_is); (case z_isinstance => k_is); (case z_bool => k_is); (case z_max => k_is); (case z_str => k_is); (case z_abs => k_is); (case z_ValueError => k_is); (case z_tuple => k_is); (case z_set => k_is)
