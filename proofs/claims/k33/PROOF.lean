import PyProof.Rows.All
import Wide.All
import OpenK.AllK
import Wide.FinOn
import Lean
import PyProof.EqAt
import PyProof.EqKinds
import PyProof.TupleCall
import KE.KSortTup
import KE.KSortAsk
import PySem.Challenge.RW_evenkin_k33_whole_lots_of_any_table
set_option Elab.async false
set_option linter.all false
set_option maxRecDepth 100000
namespace L2
open PySem PySem.Spec PyProof.Rows
abbrev Key:=Sum Int Str
def keyIs:Key→Value→Bool
 | .inl k,v=>Value.isInt k v
 | .inr x,v=>Value.isStrOf x v
def keyH (w:World):Key→Int
 | .inl k=>hashInt k
 | .inr x=>hashStr w x
theorem keyIs_shape:∀ {k:Key} {v:Value},keyIs k v=true→(∃ i t,k=Sum.inl i∧v=Value.int i t) ∨ (∃ x t,k=Sum.inr x∧v=Value.str x t)
 | .inl i,v,h=>by
  obtain ⟨t,e⟩:=Value.isInt_shape (k:=i) (v:=v) h
  exact .inl ⟨i,t,rfl,e⟩
 | .inr x,v,h=>by
  obtain ⟨t,e⟩:=Value.isStrOf_shape (x:=x) (v:=v) h
  exact .inr ⟨x,t,rfl,e⟩
theorem keyIs_int (i:Int) (t:Tok):keyIs (.inl i) (.int i t)=true:=by simp [keyIs,Value.isInt]
theorem keyIs_str (x:Str) (t:Tok):keyIs (.inr x) (.str x t)=true:=by simp [keyIs,Value.isStrOf]
theorem key_ll (a b:Int):decide ((Sum.inl a:Key)=Sum.inl b)=(a == b):=by
 by_cases e:a=b
 ·subst e; simp
 ·have h:¬ (Sum.inl a:Key)=Sum.inl b:=fun q=>e (Sum.inl.inj q)
  rw [decide_eq_false h]
  exact (beq_eq_false_iff_ne.mpr e).symm
theorem key_rr (a b:Str):decide ((Sum.inr a:Key)=Sum.inr b)=decide (a=b):=by
 by_cases e:a=b
 ·subst e; simp
 ·have h:¬ (Sum.inr a:Key)=Sum.inr b:=fun q=>e (Sum.inr.inj q)
  rw [decide_eq_false h,decide_eq_false e]
theorem key_lr (a:Int) (b:Str):decide ((Sum.inl a:Key)=Sum.inr b)=false:=decide_eq_false (fun q=>nomatch q)
theorem key_rl (a:Str) (b:Int):decide ((Sum.inr a:Key)=Sum.inl b)=false:=decide_eq_false (fun q=>nomatch q)
def mixKind (prog:Program) (w:World):PySem.KeyKind prog w Key where
 is:=keyIs
 hash:=keyH w
 inj:=fun v a b ha hb=>by
  rcases keyIs_shape ha with ⟨i,t,rfl,rfl⟩ | ⟨x,t,rfl,rfl⟩
  ·rcases keyIs_shape hb with ⟨j,u,rfl,e⟩ | ⟨y,u,rfl,e⟩
   ·injection e with e1 _; rw [e1]
   ·exact nomatch e
  ·rcases keyIs_shape hb with ⟨j,u,rfl,e⟩ | ⟨y,u,rfl,e⟩
   ·exact nomatch e
   ·injection e with e1 _; rw [e1]
 byValue:=fun k v h=>by
  rcases keyIs_shape h with ⟨i,t,rfl,rfl⟩ | ⟨x,t,rfl,rfl⟩ <;> rfl
 pyHash:=fun hv h=>by
  rcases keyIs_shape hv with ⟨i,t,rfl,rfl⟩ | ⟨x,t,rfl,rfl⟩
  ·exact wpAny_pyHash_int h
  ·exact wpAny_pyHash_str h
 eqBool:=fun hu hv h=>by
  rcases keyIs_shape hu with ⟨i,t,rfl,rfl⟩ | ⟨x,t,rfl,rfl⟩
  ·rcases keyIs_shape hv with ⟨j,u,rfl,rfl⟩ | ⟨y,u,rfl,rfl⟩
   ·rw [key_ll] at h; exact wpAny_eqBool_int h
   ·rw [key_lr] at h; exact SeqAt.EqAt.int_str i t y u _ _ _ _ h
  ·rcases keyIs_shape hv with ⟨j,u,rfl,rfl⟩ | ⟨y,u,rfl,rfl⟩
   ·rw [key_rl] at h; exact SeqAt.EqAt.str_int x t j u _ _ _ _ h
   ·rw [key_rr] at h; exact wpAny_eqBool_str h
 «strs»:=fun k x t v h=>by
  rcases keyIs_shape h with ⟨i,u,rfl,e⟩ | ⟨y,u,rfl,e⟩
  ·exact nomatch e
  ·injection e with e1 _
   subst e1
   cases v <;> rfl
theorem mixKind_int (prog:Program) (w:World) (i:Int) (t:Tok):(mixKind prog w).is (.inl i) (.int i t)=true:=keyIs_int i t
theorem mixKind_str (prog:Program) (w:World) (x:Str) (t:Tok):(mixKind prog w).is (.inr x) (.str x t)=true:=keyIs_str x t
end L2
namespace L2
open PySem PySem.Spec PyProof.Rows
inductive V where
 | non | bl (b:Bool) | int (i:Int) | str (x:Str) | byt (b:Array UInt8) | flt (b:UInt64) | ref (a:Addr) | ty (n:String)
 deriving DecidableEq
def RelV:V→Value→Prop
 | .non,u=>u=Value.none
 | .bl b,u=>u=Value.bool b
 | .int i,u=>∃ t,u=Value.int i t
 | .str x,u=>∃ t,u=Value.str x t
 | .byt b,u=>∃ t,u=Value.bytes b t
 | .flt b,u=>∃ t,u=Value.float b t
 | .ref a,u=>u=Value.ref a
 | .ty n,u=>u=Value.type n
abbrev Vals:List V→List Value→Prop:=Paired RelV
theorem Vals.length {xs:List V} {us:List Value} (r:Vals xs us):xs.length=us.length:=Paired.length r
theorem Vals.get:∀ {xs:List V} {us:List Value} {i:Nat} {x:V},Vals xs us→xs[i]? = some x→∃ u,us[i]? = some u∧RelV x u
 | _,_,_,_,.nil,e=>by simp at e
 | _,_,0,_,.cons r _,e=>by simp at e; subst e; exact ⟨_,rfl,r⟩
 | _,_,i+1,x,.cons _ t,e=>by
  obtain ⟨u,h1,h2⟩:=Vals.get (i:=i) (x:=x) t (by simpa using e)
  exact ⟨u,by simpa using h1,h2⟩
theorem Vals.set {x:V} {u:Value} (r:RelV x u):∀ {xs:List V} {us:List Value} (i:Nat),Vals xs us→Vals (xs.set i x) (us.set i u)
 | _,_,_,.nil=>.nil
 | _,_,0,.cons _ t=>.cons r t
 | _,_,i+1,.cons q t=>.cons q (Vals.set r i t)
theorem Vals.append:∀ {xs ys:List V} {us ws:List Value},Vals xs us→Vals ys ws→Vals (xs++ys) (us++ws)
 | _,_,_,_,.nil,s=>s
 | _,_,_,_,.cons r t,s=>.cons r (Vals.append t s)
theorem Vals.take:∀ {xs:List V} {us:List Value} (n:Nat),Vals xs us→Vals (xs.take n) (us.take n)
 | _,_,0,_=>.nil
 | _,_,_+1,.nil=>.nil
 | _,_,n+1,.cons r t=>.cons r (Vals.take n t)
theorem Vals.drop:∀ {xs:List V} {us:List Value} (n:Nat),Vals xs us→Vals (xs.drop n) (us.drop n)
 | _,_,0,r=>r
 | _,_,_+1,.nil=>.nil
 | _,_,n+1,.cons _ t=>Vals.drop n t
def RelO:Option V→Option Value→Prop
 | some v,some u=>RelV v u
 | none,none=>True
 | _,_=>False
def KV {κ:Type}:List (κ × V)→List (κ × Value)→Prop:=Paired fun (p:κ × V) (q:κ × Value)=>p.1=q.1∧RelV p.2 q.2
def kV:Key→V
 | .inl i=>.int i
 | .inr x=>.str x
inductive HO where
 | lst (xs:List V)
 | tup (xs:List V)
 | dK (kvs:List (Key × V)) | dT (kvs:List (List Key × V))
 | set (S:Int→Bool) (n:Nat)
 | ins (C dx:Addr) (fs:List (Str × V))
 | own (x:Addr)
 | xd (fs:List (Str × V))
 | met (f x:Addr)
 | rng (lo hi:Int)
 | frz (o:Obj) (u:HO)
 | tbl (ps:Array Value)
 | ext (φ:Heap→Prop)
abbrev Hp:=Addr→Option HO
def upd (H:Hp) (a:Addr) (o:HO):Hp:=fun b=>if b=a then some o else H b
theorem upd_same {H:Hp} {a:Addr} {o:HO}:upd H a o a=some o:=by unfold upd; rw [if_pos rfl]
theorem upd_ne {H:Hp} {a b:Addr} {o:HO} (h:b≠a):upd H a o b=H b:=by unfold upd; rw [if_neg h]
theorem upd_upd {H:Hp} {a:Addr} {o u:HO}:upd (upd H a o) a u=upd H a u:=by
 funext b; unfold upd; split <;> rfl
theorem ne_of {H:Hp} {a b:Addr} {o u:HO} (h:H a=some o) (h':H b=some u) (d:o≠u):a≠b:=by
 intro e; subst e; rw [h] at h'; exact d (Option.some.inj h')
theorem ne_of_none {H:Hp} {a b:Addr} {o:HO} (h:H a=some o) (h':H b=none):a≠b:=by
 intro e; subst e; rw [h] at h'; cases h'
section
variable (P:Program) (w:World)
def ObjOk (H:Hp) (h:Heap) (a:Addr):HO→Prop
 | .lst xs=>xs.length≤sizeLine∧∃ (its:List Value) (n:Nat),Vals xs its∧h.get? a=some { cls:=.type "list",data:=.seq its.toArray n }
 | .tup xs=>xs.length≤sizeLine∧∃ its:List Value,Vals xs its∧IsTup h a its.toArray
 | .dK kvs=>kvs.length≤sizeLine∧(a == sysModules)=false∧∃ vs,KV kvs vs∧h.DictOf (mixKind P w) a vs
 | .dT kvs=>kvs.length≤sizeLine∧(a == sysModules)=false∧∃ xs:List (List Key × Addr × Value),
   Paired (fun (p:List Key × V) (q:List Key × Addr × Value)=>p.1=q.1∧H q.2.1=some (.tup (p.1.map kV))∧RelV p.2 q.2.2) kvs xs ∧
   ∃ o es ep,h.get? a=some o∧o.ExactDict∧o.data=.dict es ep∧es.toList=xs.map (entryOfKey (tupleKind (mixKind P w)))∧(xs.map (·.1)).Nodup
 | .set S n=>h.SetOf (intKind P w) a S n
 | .ins C dx fs=>H dx=some (.own a)∧fs.length≤1000∧dx≠a∧h.get? a=some (PySem.W.instObj C dx) ∧
   ∃ mA,h.Ns1 dx mA∧(∀ f,RelO (fs.lookup f) (mA f))∧PySem.Within mA (fs.map (·.1))
 | .own _=>∃ o,h.get? a=some o
 | .xd fs=>∃ mA,h.Ns1 a mA∧∀ f,RelO (fs.lookup f) (mA f)
 | .rng lo hi=>∃ t u v,h.get? a=some { cls:=.type "range",data:=.fields #[.int lo t,.int hi u,.int 1 v] }
 | .frz o u=>h.get? a=some o∧ObjOk H h a u
 | .tbl ps=>h.get? a=some { cls:=.none,data:=.fields ps }
 | .met f x=>h.get? a=some (PySem.W.methodObj (.ref f) (.ref x))
 | .ext φ=>φ h∧(∃ o,h.get? a=some o)∧∀ h1 h2:Heap,φ h1→(∀ o,h1.get? a=some o→h2.get? a=some o)→φ h2
def HOk (H:Hp) (h:Heap):Prop:=∀ a o,H a=some o→ObjOk P w H h a o
end
section
variable {P:Program} {w:World} {H H':Hp} {h h':Heap} {a:Addr} {o:HO}
theorem ObjOk.lt (x:ObjOk P w H h a o):a < h.objs.size:=by
 cases o with
 | lst xs=>obtain ⟨_,_,_,_,e⟩:=x; exact Heap.lt_size e
 | tup xs=>obtain ⟨_,_,_,p⟩:=x; exact p.lt
 | dK kvs=>obtain ⟨_,_,_,_,o,_,_,e,_⟩:=x; exact Heap.lt_size e
 | dT kvs=>obtain ⟨_,_,_,_,o,_,_,e,_⟩:=x; exact Heap.lt_size e
 | set S n=>obtain ⟨o,_,_,_,e,_⟩:=x; exact Heap.lt_size e
 | ins C dx fs=>obtain ⟨_,_,_,e,_⟩:=x; exact Heap.lt_size e
 | own y=>obtain ⟨_,e⟩:=x; exact Heap.lt_size e
 | xd fs=>obtain ⟨_,⟨_,_,_,e,_⟩,_⟩:=x; exact Heap.lt_size e
 | rng lo hi=>obtain ⟨_,_,_,e⟩:=x; exact Heap.lt_size e
 | frz ob u=>obtain ⟨e,_⟩:=x; exact Heap.lt_size e
 | tbl ps=>exact Heap.lt_size (show h.get? a=some _ from x)
 | met f y=>exact Heap.lt_size (show h.get? a=some _ from x)
 | ext φ=>obtain ⟨_,⟨_,e⟩,_⟩:=x; exact Heap.lt_size e
theorem Paired.mapP {α β:Type} {F G:α→β→Prop}:∀ {l₁:List α} {l₂:List β},Paired F l₁ l₂→(∀ a b,F a b→G a b)→Paired G l₁ l₂
 | _,_,.nil,_=>.nil
 | _,_,.cons r t,f=>.cons (f _ _ r) (Paired.mapP t f)
theorem ObjOk.stay (x:ObjOk P w H h a o) (k:∀ b u,(b=a ∨ H b=some (.own a))→h.get? b=some u→h'.get? b=some u)
  (ho:∀ b,H b=some (.own a)→H' b=some (.own a)) (ht:∀ b xs,H b=some (.tup xs)→H' b=some (.tup xs)):ObjOk P w H' h' a o:=by
 induction o with
 | lst xs=>obtain ⟨z,its,n,r,e⟩:=x; exact ⟨z,its,n,r,k _ _ (.inl rfl) e⟩
 | tup xs=>obtain ⟨z,its,r,ob,e,c⟩:=x; exact ⟨z,its,r,ob,k _ _ (.inl rfl) e,c⟩
 | dK kvs=>obtain ⟨z,y,vs,r,ob,es,ep,e,c⟩:=x; exact ⟨z,y,vs,r,ob,es,ep,k _ _ (.inl rfl) e,c⟩
 | dT kvs =>
  obtain ⟨z,y,xs,r,ob,es,ep,e,c⟩:=x
  exact ⟨z,y,xs,Paired.mapP r fun p q z=>⟨z.1,ht _ _ z.2.1,z.2.2⟩,ob,es,ep,k _ _ (.inl rfl) e,c⟩
 | set S n=>obtain ⟨ob,es,ep,t,e,c⟩:=x; exact ⟨ob,es,ep,t,k _ _ (.inl rfl) e,c⟩
 | ins C dx fs =>
  obtain ⟨d,z,ne,e,mA,⟨od,es,ep,e2,c⟩,r⟩:=x
  exact ⟨ho _ d,z,ne,k _ _ (.inl rfl) e,mA,⟨od,es,ep,k _ _ (.inr d) e2,c⟩,r⟩
 | own y=>obtain ⟨ob,e⟩:=x; exact ⟨ob,k _ _ (.inl rfl) e⟩
 | xd fs=>obtain ⟨mA,⟨od,es,ep,e,c⟩,r⟩:=x; exact ⟨mA,⟨od,es,ep,k _ _ (.inl rfl) e,c⟩,r⟩
 | rng lo hi=>obtain ⟨t,u,v,e⟩:=x; exact ⟨t,u,v,k _ _ (.inl rfl) e⟩
 | frz ob u ih=>obtain ⟨e,q⟩:=x; exact ⟨k _ _ (.inl rfl) e,ih q⟩
 | tbl ps =>
  have e:h.get? a=some { cls:=.none,data:=.fields ps }:=x
  show h'.get? a=some { cls:=.none,data:=.fields ps }
  exact k a _ (.inl rfl) e
 | met f y =>
  have e:h.get? a=some (PySem.W.methodObj (.ref f) (.ref y)):=x
  show h'.get? a=some (PySem.W.methodObj (.ref f) (.ref y))
  exact k a _ (.inl rfl) e
 | ext φ=>obtain ⟨p,⟨o,e⟩,st⟩:=x; exact ⟨st _ _ p fun o q=>k _ _ (.inl rfl) q,⟨o,k _ _ (.inl rfl) e⟩,st⟩
theorem HOk.lt (x:HOk P w H h) (e:H a=some o):a < h.objs.size:=(x a o e).lt
theorem HOk.fresh (x:HOk P w H h) (e:h.objs.size≤a):H a=none:=by
 cases q:H a with
 | none=>rfl
 | some u=>exact absurd (Nat.lt_of_lt_of_le (x.lt q) e) (Nat.lt_irrefl _)
theorem HOk.kept (x:HOk P w H h) (k:∀ b u,h.get? b=some u→h'.get? b=some u):HOk P w H h':=fun a o e =>
 (x a o e).stay (fun b u _ q=>k b u q) (fun _ q=>q) fun _ _ q=>q
theorem HOk.laid (x:HOk P w H h) (k:∀ b u,h.get? b=some u→h'.get? b=some u) (hp:h.objs.size≤a) (new:ObjOk P w (upd H a o) h' a o):HOk P w (upd H a o) h':=fun b u e=>by
 have hn:=x.fresh hp
 by_cases hb:b=a
 ·subst hb; rw [upd_same] at e; cases e; exact new
 ·rw [upd_ne hb] at e
  exact (x b u e).stay (fun c v _ q=>k c v q) (fun c q=>by rw [upd_ne (ne_of_none q hn)]; exact q) fun c xs q=>by rw [upd_ne (ne_of_none q hn)]; exact q
end
def Rd (H:Hp) (a:Addr) (u:HO):Prop:=H a=some u ∨ ∃ o,H a=some (.frz o u)
theorem Rd.ok {P:Program} {w:World} {H:Hp} {h:Heap} {a:Addr} {u:HO} (r:Rd H a u) (x:HOk P w H h):ObjOk P w H h a u:=by
 rcases r with r | ⟨o,r⟩
 ·exact x a u r
 ·obtain ⟨_,q⟩:=x a _ r
  exact q
def Mut:Option HO→Prop
 | some (.lst _)=>True
 | some (.dK _)=>True
 | some (.dT _)=>True
 | some (.set _ _)=>True
 | some (.ins _ _ _)=>True
 | some (.ext _)=>True
 | _=>False
section
variable {P:Program} {w:World} {H:Hp} {h h':Heap} {x e:Addr} {o':HO}
theorem HOk.write (ok:HOk P w H h) (mu:Mut (H x)) (he:e=x ∨ H e=some (.own x)) (k:∀ b u,b≠e→h.get? b=some u→h'.get? b=some u) (heo:∃ u,h'.get? e=some u)
  (new:ObjOk P w (upd H x o') h' x o'):HOk P w (upd H x o') h':=fun b u q=>by
 have nown:∀ c y,H c=some (.own y)→c≠x:=fun c y r z=>by subst z; rw [r] at mu; exact mu
 have ntup:∀ c xs,H c=some (.tup xs)→c≠x:=fun c xs r z=>by subst z; rw [r] at mu; exact mu
 by_cases hb:b=x
 ·subst hb; rw [upd_same] at q; cases q; exact new
 ·rw [upd_ne hb] at q
  by_cases hbe:b=e
  ·have q':H b=some (.own x):=by
    rcases he with z | z
    ·exact absurd (hbe.trans z) hb
    ·rw [hbe]; exact z
   rw [q] at q'; cases q'
   obtain ⟨v,hv⟩:=heo
   exact ⟨v,by rw [hbe]; exact hv⟩
  ·refine (ok b u q).stay (fun c v hc r=>k c v ?_ r) (fun c r=>by rw [upd_ne (nown c b r)]; exact r) fun c xs r=>by rw [upd_ne (ntup c xs r)]; exact r
   rcases hc with rfl | hc
   ·exact hbe
   ·rintro rfl
    rcases he with z | z
    ·exact nown c b hc z
    ·rw [hc] at z; cases z; exact hb rfl
end
structure Un (fs ex:List Addr) (H H':Hp) (h h':Heap):Prop where
 keep:∀ b o,h.get? b=some o→H b=none→b ∉ fs→b ∉ ex→h'.get? b=some o
 slot:∀ b o,h.get? b=some o→H b=none→b ∈ fs→b ∉ ex→∃ sl,h'.get? b=some { o with slots:=sl }
 free:∀ b o,h.get? b=some o→H b=none→b ∉ ex→H' b=none
 there:∀ b o,h.get? b=some o→b ∉ ex→∃ o',h'.get? b=some o'
 tups:∀ b xs,H b=some (.tup xs)→H' b=some (.tup xs)
 frzs:∀ b o u,H b=some (.frz o u)→H' b=some (.frz o u)
 tbls:∀ b ps,H b=some (.tbl ps)→∃ more,H' b=some (.tbl (ps++more))
section
variable {fs fs' ex ex':List Addr} {H H1 H2:Hp} {h h1 h2 h':Heap} {a x e:Addr} {o:HO}
theorem Un.any (u:Un fs ex H H1 h h1) {b:Addr} {ob:Obj} (q:h.get? b=some ob) (n:H b=none) (hx:b ∉ ex):∃ sl,h1.get? b=some { ob with slots:=sl }:=by
 by_cases hb:b ∈ fs
 ·exact u.slot b ob q n hb hx
 ·exact ⟨ob.slots,u.keep b ob q n hb hx⟩
theorem Un.kept (k:∀ b u,h.get? b=some u→h'.get? b=some u):Un fs ex H H h h' :=
 ⟨fun b ob q _ _ _=>k b ob q,fun b ob q _ _ _=>⟨ob.slots,k b ob q⟩,fun _ _ _ n _=>n,fun b ob q _=>⟨ob,k b ob q⟩,fun _ _ q=>q,fun _ _ _ q=>q,fun _ ps q=>⟨#[],by rw [q]; simp⟩⟩
theorem Un.refl:Un fs ex H H h h:=Un.kept fun _ _ q=>q
theorem Un.laid (k:∀ b u,h.get? b=some u→h'.get? b=some u) (hp:h.objs.size≤a) (hn:H a=none):Un fs ex H (upd H a o) h h' where
 keep:=fun b u q _ _ _=>k b u q
 slot:=fun b u q _ _ _=>⟨u.slots,k b u q⟩
 free:=fun b u q n _=>by rw [upd_ne (Nat.ne_of_lt (Nat.lt_of_lt_of_le (Heap.lt_size q) hp))]; exact n
 there:=fun b u q _=>⟨u,k b u q⟩
 tups:=fun b xs q=>by rw [upd_ne (ne_of_none q hn)]; exact q
 frzs:=fun b u xs q=>by rw [upd_ne (ne_of_none q hn)]; exact q
 tbls:=fun b ps q=>⟨#[],by rw [upd_ne (ne_of_none q hn),q]; simp⟩
theorem Un.write (mu:Mut (H x)) (he:e=x ∨ H e=some (.own x)) (k:∀ b u,b≠e→h.get? b=some u→h'.get? b=some u) (heo:∃ u,h'.get? e=some u):Un fs ex H (upd H x o) h h':=by
 have hx:∀ b,H b=none→b≠x:=fun b n z=>by subst z; rw [n] at mu; exact mu
 have hb:∀ b,H b=none→b≠e:=fun b n z=>by
  subst z
  rcases he with r | r
  ·exact hx b n r
  ·rw [n] at r; cases r
 have hm:∀ b u,H b=some u→¬ Mut (some u)→b≠x:=fun b u q nm z=>by subst z; rw [q] at mu; exact nm mu
 refine ⟨fun b u q n _ _=>k b u (hb b n) q,fun b u q n _ _=>⟨u.slots,k b u (hb b n) q⟩,fun b u q n _=>by rw [upd_ne (hx b n)]; exact n,fun b u q _=>?_,
  fun b xs q=>by rw [upd_ne (hm b _ q fun z=>z)]; exact q,fun b u xs q=>by rw [upd_ne (hm b _ q fun z=>z)]; exact q,fun b ps q=>⟨#[],by rw [upd_ne (hm b _ q fun z=>z),q]; simp⟩⟩
 by_cases hbe:b=e
 ·subst hbe; exact heo
 ·exact ⟨u,k b u hbe q⟩
end
def trk (h:Heap) (H:Hp):List Addr:=(List.range h.objs.size).filter fun a=>(H a).isSome
def hidT (h:Heap) (H:Hp):Heap:=PySem.W.hideAll h (trk h H)
theorem hidT_size (h:Heap) (H:Hp):(hidT h H).objs.size=h.objs.size:=PySem.W.hideAll_size _ _
theorem hidT_get {h:Heap} {H:Hp} {b:Addr} {o:Obj} (e:h.get? b=some o) (n:H b=none):(hidT h H).get? b=some o :=
 PySem.W.hideAll_get _ e fun hm=>by
  have q:(H b).isSome=true:=(List.mem_filter.mp hm).2
  rw [n] at q; simp at q
theorem of_hidT {h:Heap} {H:Hp} {b:Addr} {o:Obj} (e:(hidT h H).get? b=some o):h.get? b=some o∧H b=none:=by
 have e':h.get? b=some o:=PySem.W.of_hideAll (trk h H) e
 refine ⟨e',?_⟩
 cases q:H b with
 | none=>rfl
 | some x =>
  have hm:b ∈ trk h H:=List.mem_filter.mpr ⟨List.mem_range.mpr (Heap.lt_size e'),by simp [q]⟩
  have z:(hidT h H).get? b=none:=PySem.W.hideAll_none (trk h H) hm
  rw [z] at e; cases e
def allNews (g h:Heap) (L:Addr):List (Addr × Obj):=(List.range h.objs.size).filterMap fun a=>if a=L ∨ (g.get? a).isSome=true then none else (h.get? a).map fun o=>(a,o)
def rest (g h:Heap) (L d:Addr):List (Addr × Obj):=(allNews g h L).filter fun p=>decide (p.1≠d)
end L2
namespace L2
open PySem PySem.Spec PyProof.Rows
structure Mod (K:PySem.W.Frag) (mg:Str→Option Value) (base:Heap):Prop where
 kin:K.In base
 glob:base.Ns mainGlobals mg
 blt:∃ mb,base.Ns builtinsNs mb∧∀ x:Str,x≠"__name__"→mb x=bootBuiltins x
 nolimit:base.NoLimit
structure Cx where
 prog:Program
 w:World
 K:PySem.W.Frag
 mg:Str→Option Value
 base:Heap
 A:Around
 N:List Str
 s₀:Shared
 H₀:Hp
 env:Env
 outer:List Env
 stack:List Env
 ex:List Addr
 fn:Str→Bool
 calm:Bool
 pn:List (Addr × Obj)
 xe:Value→Shared→Prop
def frs (l:List Env):List Addr:=l.filterMap (·.frame)
abbrev Cx.fs (X:Cx):List Addr:=frs X.outer
def Vis (sc:Scope) (x:Str):Prop:=sc.names.lookup x=some .local ∨ sc.names.lookup x=some .cell ∨ sc.names.lookup x=some .free
def Loc (sc:Scope) (x:Str):Prop:=sc.names.lookup x=some .local ∨ sc.names.lookup x=some .cell
def Look (env:Env) (h:Heap) (m:Str→Option Value) (x:Str) (u:Value):Prop :=
 (env.kindOf x=some .local∧m x=some u) ∨ ((env.kindOf x=some .cell ∨ env.kindOf x=some .free)∧∃ c,env.cells.lookup x=some c∧h.IsCell c (some u))
structure Cx.Ok (X:Cx):Prop where
 mod:Mod X.K X.mg X.base
 kind:X.env.scope.kind=.function
 glob:X.env.globals=mainGlobals
 blt:X.env.builtins=builtinsNs
 above:X.s₀.heap.objs.size≤X.env.locals
 inj:∀ x y c,X.env.cells.lookup x=some c→X.env.cells.lookup y=some c→x=y
 has:∀ x,(X.env.kindOf x=some .cell ∨ X.env.kindOf x=some .free)→∃ c,X.env.cells.lookup x=some c
 cab:∀ x c,X.fn x=true→X.env.cells.lookup x=some c→X.s₀.heap.objs.size≤c
 hd:X.calm=true→X.A.handled=none
 frames:X.A.frames=some X.stack
 stk:X.stack=X.outer ∨ (X.stack=X.env :: X.outer∧X.env.frame=some X.env.locals)
 exf:∀ b ∈ X.ex,b≠X.env.locals∧∀ x c,X.env.cells.lookup x=some c→c≠b
 bs:∀ b o,X.base.get? b=some o→X.s₀.heap.get? b=some o∧X.H₀ b=none
 bsz:X.base.objs.size≤X.s₀.heap.objs.size
 noex:∀ b o,X.base.get? b=some o→b ∉ X.ex
 exfs:∀ b ∈ X.ex,b ∉ X.fs
 funs:X.s₀.heap.FunFrames X.base X.outer
 frf:∀ b ∈ X.fs,X.H₀ b=none
structure Inv (X:Cx) (pins:List (Addr × Obj)) (σ:List (Option V)) (H:Hp) (s:Shared):Prop where
 ok:X.Ok
 os:s.os=X.s₀.os
 bare:AllBare s.gens
 base:Un X.fs X.ex X.H₀ H X.s₀.heap s.heap
 loc:∃ m,s.heap.Ns X.env.locals m∧∀ (i:Nat) (x:Str) (v:V),X.N[i]? = some x→σ[i]? = some (some v)→Vis X.env.scope x→∃ u,RelV v u∧Look X.env s.heap m x u
 cell:∀ x c,X.env.cells.lookup x=some c→∃ v,s.heap.IsCell c v
 free:H X.env.locals=none
 freeC:∀ x c,X.env.cells.lookup x=some c→H c=none
 pin:∀ p ∈ X.pn++pins,s.heap.get? p.1=some p.2∧H p.1=none∧p.1≠X.env.locals∧p.1 ∉ X.fs∧∀ v,p.2.data≠.cell v
 hok:HOk X.prog X.w H s.heap
 len:σ.length=X.N.length
section
variable {X:Cx} {pins:List (Addr × Obj)} {σ:List (Option V)} {H H':Hp} {s:Shared} {h':Heap}
theorem Cx.Ok.nofr (ok:X.Ok) {b:Addr} {o:Obj} (e:X.base.get? b=some o):b ∉ X.fs:=fun hb=>by
 have:=(ok.funs.mem hb).1
 rw [e] at this; cases this
theorem Inv.bs (I:Inv X pins σ H s):∀ b o,X.base.get? b=some o→s.heap.get? b=some o∧H b=none:=fun b o e =>
 ⟨I.base.keep b o (I.ok.bs b o e).1 (I.ok.bs b o e).2 (I.ok.nofr e) (I.ok.noex b o e),I.base.free b o (I.ok.bs b o e).1 (I.ok.bs b o e).2 (I.ok.noex b o e)⟩
theorem Inv.bk (I:Inv X pins σ H s):∀ b o,X.base.get? b=some o→s.heap.get? b=some o:=fun b o e=>(I.bs b o e).1
theorem Inv.mod (I:Inv X pins σ H s):Mod X.K X.mg X.base:=I.ok.mod
theorem Inv.kIn (I:Inv X pins σ H s):X.K.In s.heap:=I.ok.mod.kin.keeps I.bk
theorem Inv.lt (I:Inv X pins σ H s):X.env.locals < s.heap.objs.size:=let ⟨_,hn,_⟩:=I.loc; hn.lt
theorem Inv.sz (I:Inv X pins σ H s):X.s₀.heap.objs.size≤s.heap.objs.size:=Nat.le_trans I.ok.above (Nat.le_of_lt I.lt)
theorem Inv.nofs (I:Inv X pins σ H s) {a:Addr} (h:s.heap.objs.size≤a):a ∉ X.fs:=fun hb=>by
 obtain ⟨_,o,ho,_⟩:=I.ok.funs.mem hb
 exact absurd (Nat.lt_of_lt_of_le (Heap.lt_size ho) (Nat.le_trans I.sz h)) (Nat.lt_irrefl _)
theorem Inv.cne (I:Inv X pins σ H s):∀ x c,X.env.cells.lookup x=some c→c≠X.env.locals:=fun x c e z=>by
 obtain ⟨v,o,ho,hd⟩:=I.cell x c e
 obtain ⟨m,⟨o',es,ep,ho',hd',_⟩,_⟩:=I.loc
 rw [z,ho'] at ho; cases ho; rw [hd'] at hd; cases hd
theorem Inv.funs (I:Inv X pins σ H s):s.heap.FunFrames X.base X.outer:=by
 have all:∀ (l:List Env),(∀ b ∈ frs l,b ∈ X.fs)→X.s₀.heap.FunFrames X.base l→s.heap.FunFrames X.base l:=by
  intro l
  induction l with
  | nil=>intro _ _; trivial
  | cons env r ih =>
   intro hs hl
   obtain ⟨hk,⟨L,o,hf,hn,ho,hd⟩,hr⟩:=hl
   have hL:L ∈ X.fs:=hs L (by unfold frs; rw [List.filterMap_cons,hf]; exact List.mem_cons_self)
   obtain ⟨sl,e⟩:=I.base.slot L o ho (I.ok.frf L hL) hL fun z=>I.ok.exfs L z hL
   exact ⟨hk,⟨L,_,hf,hn,e,hd⟩,ih (fun b hb=>hs b (by unfold frs; rw [List.filterMap_cons,hf]; exact List.mem_cons_of_mem _ hb)) hr⟩
 exact all X.outer (fun _ hb=>hb) I.ok.funs
theorem Inv.stack (I:Inv X pins σ H s):s.heap.FunFrames X.base X.stack:=by
 rcases I.ok.stk with e | ⟨e,hf⟩
 ·rw [e]; exact I.funs
 ·rw [e]
  obtain ⟨m,hn,_⟩:=I.loc
  refine .cons (by rw [I.ok.kind]; decide) hf hn ?_ I.funs
  exact Heap.get?_none_of_le (Nat.le_trans I.ok.bsz I.ok.above)
theorem Inv.stkSub (I:Inv X pins σ H s):∀ b ∈ frs X.stack,b ∈ X.env.locals :: X.fs:=fun b hb=>by
 rcases I.ok.stk with e | ⟨e,hf⟩
 ·rw [e] at hb; exact List.mem_cons_of_mem _ hb
 ·rw [e] at hb
  unfold frs at hb
  rw [List.filterMap_cons,hf] at hb
  exact hb
theorem Inv.stkFree (I:Inv X pins σ H s):∀ b ∈ frs X.stack,H b=none:=fun b hb=>by
 rcases List.mem_cons.mp (I.stkSub b hb) with e | hb
 ·rw [e]; exact I.free
 ·obtain ⟨_,o,ho,_⟩:=I.ok.funs.mem hb
  exact I.base.free b o ho (I.ok.frf b hb) fun z=>I.ok.exfs b z hb
theorem Inv.step {g':Array GenState} {t':Nat} {d':Drawn} {ch:List Addr} (I:Inv X pins σ H s)
  (hch:∀ b ∈ ch,(b ∈ X.ex ∨ X.s₀.heap.objs.size≤b)∧b≠X.env.locals∧(∀ x c,X.env.cells.lookup x=some c→c≠b)∧∀ p ∈ X.pn++pins,p.1≠b)
  (keep:∀ b o,b≠X.env.locals→b ∉ X.fs→b ∉ ch→s.heap.get? b=some o→H b=none→h'.get? b=some o)
  (slot:∀ b o,b≠X.env.locals→b ∈ X.fs→b ∉ ch→s.heap.get? b=some o→H b=none→∃ sl,h'.get? b=some { o with slots:=sl }) (free:∀ b o,b ∉ ch→s.heap.get? b=some o→H b=none→H' b=none)
  (there:∀ b o,b ∉ ch→s.heap.get? b=some o→∃ o',h'.get? b=some o')
  (tups:∀ b xs,H b=some (.tup xs)→H' b=some (.tup xs)) (frzs:∀ b o u,H b=some (.frz o u)→H' b=some (.frz o u)) (tbls:∀ b ps,H b=some (.tbl ps)→∃ more,H' b=some (.tbl (ps++more)))
  (ns:∀ m,s.heap.Ns X.env.locals m→h'.Ns X.env.locals m) (hok:HOk X.prog X.w H' h') (hg:AllBare g') :
  Inv X pins σ H' { s with heap:=h',gens:=g',drawn:=d',toks:=t' }:=by
 have neL:∀ b o,X.s₀.heap.get? b=some o→b≠X.env.locals:=fun b o e=>Nat.ne_of_lt (Nat.lt_of_lt_of_le (Heap.lt_size e) I.ok.above)
 have neC:∀ b o,X.s₀.heap.get? b=some o→b ∉ X.ex→b ∉ ch:=fun b o e hx hb=>by
  rcases (hch b hb).1 with z | z
  ·exact hx z
  ·exact absurd (Nat.lt_of_lt_of_le (Heap.lt_size e) z) (Nat.lt_irrefl _)
 have cellK:∀ x c,X.env.cells.lookup x=some c→∀ v,s.heap.IsCell c v→h'.IsCell c v:=fun x c e v ⟨o,ho,hd⟩=>by
  have nch:c ∉ ch:=fun z=>(hch c z).2.2.1 x c e rfl
  by_cases hc:c ∈ X.fs
  ·obtain ⟨sl,q⟩:=slot c o (I.cne x c e) hc nch ho (I.freeC x c e)
   exact ⟨_,q,hd⟩
  ·exact ⟨o,keep c o (I.cne x c e) hc nch ho (I.freeC x c e),hd⟩
 refine ⟨I.ok,I.os,hg,⟨fun b o e n hb hx=>?_,fun b o e n hb hx=>?_,fun b o e n hx=>?_,fun b o e hx=>?_,fun b xs e=>tups b xs (I.base.tups b xs e),fun b o xs e=>frzs b o xs (I.base.frzs b o xs e),fun b ps e=>?_⟩,?_,fun x c e=>?_,?_,fun x c e=>?_,fun p hp=>?_,hok,I.len⟩
 ·exact keep b o (neL b o e) hb (neC b o e hx) (I.base.keep b o e n hb hx) (I.base.free b o e n hx)
 ·obtain ⟨sl,e1⟩:=I.base.slot b o e n hb hx
  obtain ⟨sl',e2⟩:=slot b _ (neL b o e) hb (neC b o e hx) e1 (I.base.free b o e n hx)
  exact ⟨sl',e2⟩
 ·obtain ⟨o',e1⟩:=I.base.there b o e hx
  exact free b o' (neC b o e hx) e1 (I.base.free b o e n hx)
 ·obtain ⟨o',e1⟩:=I.base.there b o e hx
  exact there b o' (neC b o e hx) e1
 ·obtain ⟨m1,e1⟩:=I.base.tbls b ps e
  obtain ⟨m2,e2⟩:=tbls b _ e1
  exact ⟨m1++m2,by rw [e2,Array.append_assoc]⟩
 ·obtain ⟨m,hn,hl⟩:=I.loc
  refine ⟨m,ns m hn,fun i x v e1 e2 e3=>?_⟩
  obtain ⟨u,r,l⟩:=hl i x v e1 e2 e3
  refine ⟨u,r,?_⟩
  rcases l with l | ⟨k,c,e,z⟩
  ·exact .inl l
  ·exact .inr ⟨k,c,e,cellK x c e _ z⟩
 ·obtain ⟨v,z⟩:=I.cell x c e
  exact ⟨v,cellK x c e v z⟩
 ·obtain ⟨m,⟨o,_,_,ho,_⟩,_⟩:=I.loc
  exact free _ o (fun z=>(hch _ z).2.1 rfl) ho I.free
 ·obtain ⟨v,o,ho,hd⟩:=I.cell x c e
  exact free c o (fun z=>(hch c z).2.2.1 x c e rfl) ho (I.freeC x c e)
 ·obtain ⟨e,n,ne,nf,d⟩:=I.pin p hp
  have nch:p.1 ∉ ch:=fun z=>(hch p.1 z).2.2.2 p hp rfl
  exact ⟨keep p.1 p.2 ne nf nch e n,free p.1 p.2 nch e n,ne,nf,d⟩
theorem Inv.un {t':Nat} (I:Inv X pins σ H s) (u:Un X.fs [] H H' s.heap h') (hok:HOk X.prog X.w H' h'):Inv X pins σ H' { s with heap:=h',toks:=t' }:=by
 obtain ⟨m,⟨o,es,ep,ho,r⟩,_⟩:=id I.loc
 obtain ⟨sl,hL⟩:=u.any ho I.free (by simp)
 exact I.step (g':=s.gens) (d':=s.drawn) (ch:=[]) (fun _ z=>nomatch z) (fun b o _ hb _ e n=>u.keep b o e n hb (by simp)) (fun b o _ hb _ e n=>u.slot b o e n hb (by simp)) (fun b o _ e n=>u.free b o e n (by simp)) (fun b o _ e=>u.there b o e (by simp)) u.tups u.frzs u.tbls (fun m' hm=>by
  obtain ⟨o',es',ep',ho',r'⟩:=hm
  rw [ho] at ho'; cases ho'
  exact ⟨_,es',ep',hL,r'⟩) hok I.bare
theorem Inv.call {g':Array GenState} {t':Nat} {d':Drawn} {ch:List Addr} (I:Inv X pins σ H s) (u:Un (frs X.stack) ch H H' s.heap h') (hok:HOk X.prog X.w H' h') (hg:AllBare g')
  (hch:∀ b ∈ ch,(b ∈ X.ex ∨ X.s₀.heap.objs.size≤b)∧b≠X.env.locals∧(∀ x c,X.env.cells.lookup x=some c→c≠b)∧∀ p ∈ X.pn++pins,p.1≠b) :
  Inv X pins σ H' { s with heap:=h',gens:=g',drawn:=d',toks:=t' }:=by
 obtain ⟨m,⟨o,es,ep,ho,r⟩,_⟩:=id I.loc
 obtain ⟨sl,hL⟩:=u.any ho I.free fun z=>(hch _ z).2.1 rfl
 exact I.step (ch:=ch) hch (fun b o hL hb hc e n=>u.keep b o e n (fun z=>(List.mem_cons.mp (I.stkSub b z)).elim hL hb) hc) (fun b o _ _ hc e n=>u.any e n hc) (fun b o hc e n=>u.free b o e n hc) (fun b o hc e=>u.there b o e hc) u.tups u.frzs u.tbls (fun m' hm=>by
  obtain ⟨o',es',ep',ho',r'⟩:=hm
  rw [ho] at ho'; cases ho'
  exact ⟨_,es',ep',hL,r'⟩) hok hg
theorem Inv.turned {t':Nat} {it:Addr} (I:Inv X pins σ H s) (k:∀ b o,b≠it→s.heap.get? b=some o→h'.get? b=some o) (hn:H it=none) (hL:it≠X.env.locals)
  (h1:it ∈ X.ex ∨ X.s₀.heap.objs.size≤it) (h2:∀ x c,X.env.cells.lookup x=some c→c≠it) (h3:∀ p ∈ X.pn++pins,p.1≠it):Inv X pins σ H { s with heap:=h',toks:=t' }:=by
 have nit:∀ b u,H b=some u→b≠it:=fun b u e z=>by rw [z,hn] at e; cases e
 refine I.step (g':=s.gens) (d':=s.drawn) (ch:=[it]) (fun b hb=>?_) (fun b o _ _ hc e _=>k b o (fun z=>hc (by simp [z])) e) (fun b o _ _ hc e _=>⟨o.slots,k b o (fun z=>hc (by simp [z])) e⟩) (fun _ _ _ _ n=>n)
  (fun b o hc e=>⟨o,k b o (fun z=>hc (by simp [z])) e⟩) (fun _ _ e=>e) (fun _ _ _ e=>e) (fun b ps e=>⟨#[],by rw [e]; simp⟩) (fun m hm=>?_) (fun b u e=>?_) I.bare
 ·have e:b=it:=by simpa using hb
  subst e
  exact ⟨h1,hL,h2,h3⟩
 ·obtain ⟨o,es,ep,ho,r⟩:=hm
  exact ⟨o,es,ep,k _ o (Ne.symm hL) ho,r⟩
 ·refine (I.hok b u e).stay (fun c v hc q=>k c v ?_ q) (fun _ q=>q) fun _ _ q=>q
  rcases hc with z | z
  ·rw [z]; exact nit b u e
  ·exact nit c _ z
theorem Inv.tok (I:Inv X pins σ H s) (t:Nat):Inv X pins σ H { s with toks:=t }:=I.un (h':=s.heap) (t':=t) Un.refl I.hok
theorem Inv.kept {t':Nat} (I:Inv X pins σ H s) (k:∀ b u,s.heap.get? b=some u→h'.get? b=some u):Inv X pins σ H { s with heap:=h',toks:=t' }:=I.un (Un.kept k) (I.hok.kept k)
theorem Inv.laid {a:Addr} {o:HO} {t':Nat} (I:Inv X pins σ H s) (k:∀ b u,s.heap.get? b=some u→h'.get? b=some u) (hp:s.heap.objs.size≤a) (new:ObjOk X.prog X.w (upd H a o) h' a o) :
  Inv X pins σ (upd H a o) { s with heap:=h',toks:=t' }:=I.un (Un.laid k hp (I.hok.fresh hp)) (I.hok.laid k hp new)
theorem Inv.write {x e:Addr} {o:HO} {t':Nat} (I:Inv X pins σ H s) (mu:Mut (H x)) (he:e=x ∨ H e=some (.own x)) (k:∀ b u,b≠e→s.heap.get? b=some u→h'.get? b=some u) (heo:∃ u,h'.get? e=some u)
  (new:ObjOk X.prog X.w (upd H x o) h' x o):Inv X pins σ (upd H x o) { s with heap:=h',toks:=t' }:=I.un (Un.write mu he k heo) (I.hok.write mu he k heo new)
theorem Inv.pins_of {pins':List (Addr × Obj)} (I:Inv X pins σ H s) (h:∀ p ∈ pins',s.heap.get? p.1=some p.2∧H p.1=none∧p.1≠X.env.locals∧p.1 ∉ X.fs∧∀ v,p.2.data≠.cell v):Inv X pins' σ H s :=
 ⟨I.ok,I.os,I.bare,I.base,I.loc,I.cell,I.free,I.freeC,fun p hp=>(List.mem_append.mp hp).elim (fun z=>I.pin p (List.mem_append_left _ z)) (h p),I.hok,I.len⟩
theorem nodup_ix {N:List Str} (hN:N.Nodup) {i j:Nat} {x:Str} (a:N[i]? = some x) (b:N[j]? = some x):i=j:=by
 obtain ⟨h1,e1⟩:=List.getElem?_eq_some_iff.mp a
 obtain ⟨h2,e2⟩:=List.getElem?_eq_some_iff.mp b
 exact (List.getElem_inj hN).mp (e1.trans e2.symm)
theorem store_ok2 {M:Model} {A:Around} {E:Value→Shared→Prop} {i:Nat} {x:Str} {v:V} {u:Value} {Q:Unit→Shared→Prop} (I:Inv X pins σ H s) (hN:X.N.Nodup) (hi:X.N[i]? = some x) (hx:Loc X.env.scope x) (r:RelV v u)
  (h:∀ s',Inv X pins (σ.set i (some v)) H s'→(∃ a,Heap.SameBut a s.heap s'.heap∧(a=X.env.locals ∨ X.env.cells.lookup x=some a))→Q () s') (hf:X.fn x=true ∨ X.env.scope.names.lookup x=some .local:=by first | exact .inl rfl | exact .inr rfl | assumption):wpAny M A (storeName X.env x u) Q E s:=by
 obtain ⟨m,hn,hl⟩:=id I.loc
 have hcls:(X.env.scope.kind == .class || (X.env.scope.kind == .module && X.env.locals != X.env.globals))=false:=by rw [I.ok.kind]; rfl
 have hiσ:i < σ.length:=by rw [I.len]; exact (List.getElem?_eq_some_iff.mp hi).1
 have cne:=I.cne
 have tracked:∀ {a:Addr} {h':Heap},(∃ o,s.heap.get? a=some o∧H a=none)→Heap.SameBut a s.heap h'→HOk X.prog X.w H h':=fun {a h'} ha hs b ob e=>by
  obtain ⟨_,_,hfree⟩:=ha
  refine (I.hok b ob e).stay (fun c w' hc q=>(hs.2 c ?_).trans q) (fun _ q=>q) fun _ _ q=>q
  rintro rfl
  rcases hc with rfl | hc
  ·rw [hfree] at e; cases e
  ·rw [hfree] at hc; cases hc
 rcases hx with hk | hk
 ·refine wpAny_storeName_local hk hn (fun h' hn' hs=>?_) hcls
  obtain ⟨oL,_,_,hoL,_⟩:=id hn
  refine h _ ⟨I.ok,I.os,I.bare,⟨fun b o e n hb hx=>?_,fun b o e n hb hx=>?_,I.base.free,fun b o e hx=>?_,I.base.tups,I.base.frzs,I.base.tbls⟩,⟨_,hn',fun j y v' e1 e2 e3=>?_⟩,fun y c e=>?_,I.free,I.freeC,fun p hp=>?_,tracked ⟨oL,hoL,I.free⟩ hs,by simpa using I.len⟩ ⟨_,hs,.inl rfl⟩
  ·exact (hs.2 b (Nat.ne_of_lt (Nat.lt_of_lt_of_le (Heap.lt_size e) I.ok.above))).trans (I.base.keep b o e n hb hx)
  ·obtain ⟨sl,e1⟩:=I.base.slot b o e n hb hx
   exact ⟨sl,(hs.2 b (Nat.ne_of_lt (Nat.lt_of_lt_of_le (Heap.lt_size e) I.ok.above))).trans e1⟩
  ·obtain ⟨o',e1⟩:=I.base.there b o e hx
   exact ⟨o',(hs.2 b (Nat.ne_of_lt (Nat.lt_of_lt_of_le (Heap.lt_size e) I.ok.above))).trans e1⟩
  ·by_cases hj:j=i
   ·subst hj
    rw [hi] at e1; cases e1
    rw [List.getElem?_set_self hiσ] at e2
    cases e2
    exact ⟨u,r,.inl ⟨hk,by simp⟩⟩
   ·rw [List.getElem?_set_ne (Ne.symm hj)] at e2
    obtain ⟨u',r',q⟩:=hl j y v' e1 e2 e3
    refine ⟨u',r',?_⟩
    rcases q with ⟨k,e⟩ | ⟨k,c,e,z⟩
    ·refine .inl ⟨k,?_⟩
     have:y≠x:=fun e=>hj (nodup_ix hN e1 (e ▸ hi))
     simp [this,e]
    ·exact .inr ⟨k,c,e,z.sameBut hs (cne y c e)⟩
  ·obtain ⟨w',z⟩:=I.cell y c e
   exact ⟨w',z.sameBut hs (cne y c e)⟩
  ·obtain ⟨e,n,ne,nf,d⟩:=I.pin p hp
   exact ⟨(hs.2 p.1 ne).trans e,n,ne,nf,d⟩
 ·have hfn:X.fn x=true:=by
   rcases hf with z | z
   ·exact z
   ·rw [z] at hk; cases hk
  obtain ⟨c,hc⟩:=I.ok.has x (.inl hk)
  obtain ⟨w',z⟩:=I.cell x c hc
  refine wpAny_storeName_cell I.ok.kind hk hc z (fun h' hc' hs=>?_)
  obtain ⟨oc,hoc,hocd⟩:=id z
  refine h { s with heap:=h' } ⟨I.ok,I.os,I.bare,⟨fun b o e n hb hx=>?_,fun b o e n hb hx=>?_,I.base.free,fun b o e hx=>?_,I.base.tups,I.base.frzs,I.base.tbls⟩,⟨m,hn.sameBut hs (Ne.symm (cne x c hc)),fun j y v' e1 e2 e3=>?_⟩,fun y c' e=>?_,I.free,I.freeC,fun p hp=>?_,tracked ⟨oc,hoc,I.freeC x c hc⟩ hs,by simpa using I.len⟩ ⟨c,hs,.inr hc⟩
  ·exact (hs.2 b (Nat.ne_of_lt (Nat.lt_of_lt_of_le (Heap.lt_size e) (I.ok.cab x c hfn hc)))).trans (I.base.keep b o e n hb hx)
  ·obtain ⟨sl,e1⟩:=I.base.slot b o e n hb hx
   exact ⟨sl,(hs.2 b (Nat.ne_of_lt (Nat.lt_of_lt_of_le (Heap.lt_size e) (I.ok.cab x c hfn hc)))).trans e1⟩
  ·obtain ⟨o',e1⟩:=I.base.there b o e hx
   exact ⟨o',(hs.2 b (Nat.ne_of_lt (Nat.lt_of_lt_of_le (Heap.lt_size e) (I.ok.cab x c hfn hc)))).trans e1⟩
  ·by_cases hj:j=i
   ·subst hj
    rw [hi] at e1; cases e1
    rw [List.getElem?_set_self hiσ] at e2
    cases e2
    exact ⟨u,r,.inr ⟨.inl hk,c,hc,hc'⟩⟩
   ·rw [List.getElem?_set_ne (Ne.symm hj)] at e2
    obtain ⟨u',r',q⟩:=hl j y v' e1 e2 e3
    refine ⟨u',r',?_⟩
    rcases q with q | ⟨k,c',e,z'⟩
    ·exact .inl q
    ·refine .inr ⟨k,c',e,z'.sameBut hs ?_⟩
     rintro rfl
     exact hj (nodup_ix hN e1 (I.ok.inj _ _ _ e hc ▸ hi))
  ·by_cases hcc:c'=c
   ·subst hcc; exact ⟨_,hc'⟩
   ·obtain ⟨w2,z2⟩:=I.cell y c' e
    exact ⟨w2,z2.sameBut hs hcc⟩
  ·obtain ⟨e,n,ne,nf,d⟩:=I.pin p hp
   refine ⟨(hs.2 p.1 ?_).trans e,n,ne,nf,d⟩
   intro q
   rw [q,hoc] at e
   have q':oc=p.2:=Option.some.inj e
   exact d w' (by rw [←q']; exact hocd)
theorem store_ok {M:Model} {A:Around} {E:Value→Shared→Prop} {i:Nat} {x:Str} {v:V} {u:Value} {Q:Unit→Shared→Prop} (I:Inv X pins σ H s) (hN:X.N.Nodup) (hi:X.N[i]? = some x) (hx:Loc X.env.scope x) (r:RelV v u)
  (h:∀ s',Inv X pins (σ.set i (some v)) H s'→Q () s') (hf:X.fn x=true ∨ X.env.scope.names.lookup x=some .local:=by first | exact .inl rfl | exact .inr rfl | assumption):wpAny M A (storeName X.env x u) Q E s :=
 store_ok2 I hN hi hx r (fun s' I' _=>h s' I') hf
theorem Inv.call' {s':Shared} {ch:List Addr} (I:Inv X pins σ H s) (ho:s'.os=s.os) (u:Un (frs X.stack) ch H H' s.heap s'.heap) (hok:HOk X.prog X.w H' s'.heap) (hg:AllBare s'.gens)
  (hch:∀ b ∈ ch,(b ∈ X.ex ∨ X.s₀.heap.objs.size≤b)∧b≠X.env.locals∧(∀ x c,X.env.cells.lookup x=some c→c≠b)∧∀ p ∈ X.pn++pins,p.1≠b):Inv X pins σ H' s':=by
 obtain ⟨h',g',d',t',o'⟩:=s'
 have e:o'=s.os:=ho
 subst e
 exact I.call (g':=g') (t':=t') (d':=d') u hok hg hch
end
abbrev XK:=Value→Option Addr→Hp→Prop
abbrev St:=List (Option V)
abbrev VK:=V→Hp→Prop
abbrev TE:=St→Hp→VK→Prop
abbrev TT:=St→Hp→(Bool→Hp→Prop)→Prop
abbrev TA:=St→Hp→(List V→Hp→Prop)→Prop
structure Ends where
 nx:St→Hp→Prop
 rt:VK
 bk:St→Hp→Prop:=fun _ _=>False
 ct:St→Hp→Prop:=fun _ _=>False
abbrev TS:=Ends→St→Hp→Prop
def EP (X:Cx) (pins:List (Addr × Obj)) (σ:St) (Q:VK) (u:Value) (s':Shared):Prop:=∃ v H',Inv X pins σ H' s'∧RelV v u∧Q v H'
def TP (X:Cx) (pins:List (Addr × Obj)) (σ:St) (Q:Bool→Hp→Prop) (b:Bool) (s':Shared):Prop:=∃ H',Inv X pins σ H' s'∧Q b H'
def AP (X:Cx) (pins:List (Addr × Obj)) (σ:St) (Q:List V→Hp→Prop) (us:List Value) (s':Shared):Prop:=∃ vs H',Inv X pins σ H' s'∧Vals vs us∧Q vs H'
def SP (X:Cx) (pins:List (Addr × Obj)) (D:Ends) (f:Flow) (s':Shared):Prop :=
 match f with
 | .next=>∃ σ' H',Inv X pins σ' H' s'∧D.nx σ' H'
 | .brk=>∃ σ' H',Inv X pins σ' H' s'∧D.bk σ' H'
 | .cont=>∃ σ' H',Inv X pins σ' H' s'∧D.ct σ' H'
 | .ret u=>∃ v σ' H',Inv X pins σ' H' s'∧RelV v u∧D.rt v H'
def PE (X:Cx) (e:Expr) (t:TE):Prop :=
 ∀ (pins:List (Addr × Obj)) (s:Shared) (σ:St) (H:Hp) (Q:VK),Inv X pins σ H s→t σ H Q→wpAny (model X.prog X.w) X.A (eval e X.env) (EP X pins σ Q) X.xe s
def PT (X:Cx) (e:Expr) (t:TT):Prop :=
 ∀ (pins:List (Addr × Obj)) (s:Shared) (σ:St) (H:Hp) (Q:Bool→Hp→Prop),Inv X pins σ H s→t σ H Q→wpAny (model X.prog X.w) X.A (isTrue e X.env (eval e X.env)) (TP X pins σ Q) X.xe s
def PW (X:Cx) (e:Expr) (t:TT):Prop :=
 ∀ (whole:Sem Value) (pins:List (Addr × Obj)) (s:Shared) (σ:St) (H:Hp) (Q:Bool→Hp→Prop),Inv X pins σ H s→t σ H Q→wpAny (model X.prog X.w) X.A (isTrue e X.env whole) (TP X pins σ Q) X.xe s
theorem PW.pt {X:Cx} {e:Expr} {t:TT} (h:PW X e t):PT X e t:=h _
def PA (X:Cx) (es:List Expr) (t:TA):Prop :=
 ∀ (pos:Pos) (pins:List (Addr × Obj)) (s:Shared) (σ:St) (H:Hp) (Q:List V→Hp→Prop),Inv X pins σ H s→t σ H Q→wpAny (model X.prog X.w) X.A (spliced (backTo pos (starEach es X.env))) (AP X pins σ Q) X.xe s
def PS (X:Cx) (st:Stmt) (t:TS):Prop :=
 ∀ (pins:List (Addr × Obj)) (s:Shared) (σ:St) (H:Hp) (D:Ends),Inv X pins σ H s→t D σ H→wpAny (model X.prog X.w) X.A (exec st X.env) (SP X pins D) X.xe s
def PSs (X:Cx) (st:List Stmt) (t:TS):Prop :=
 ∀ (pins:List (Addr × Obj)) (s:Shared) (σ:St) (H:Hp) (D:Ends),Inv X pins σ H s→t D σ H→wpAny (model X.prog X.w) X.A (execs st X.env) (SP X pins D) X.xe s
theorem thn {α:Type} {t:Sem α} {Q Q':α→Shared→Prop} {M:Model} {A:Around} {E:Value→Shared→Prop} {s:Shared} (h:wpAny M A t Q E s) (hQ:∀ a s,Q a s→Q' a s):wpAny M A t Q' E s:=wpAny_mono h hQ fun _ _ x=>x
end L2
namespace L2
open PySem PySem.Spec PyProof.Rows
section
variable {X:Cx}
theorem bin {a b:Expr} {ta tb:TE} (ha:PE X a ta) (hb:PE X b tb) {pins:List (Addr × Obj)} {s:Shared} {σ:St} {H:Hp} {R:V→V→Hp→Prop} (I:Inv X pins σ H s) (h:ta σ H fun x H1=>tb σ H1 fun y H2=>R x y H2)
  {α:Type} {Q:α→Shared→Prop} {f:Value→Value→Sem α}
  (hf:∀ v u s2 x y H2,Inv X pins σ H2 s2→RelV x v→RelV y u→R x y H2→wpAny (model X.prog X.w) X.A (f v u) Q X.xe s2) :
  wpAny (model X.prog X.w) X.A (eval a X.env) (fun v s₁=>wpAny (model X.prog X.w) X.A (eval b X.env) (fun u s₂=>wpAny (model X.prog X.w) X.A (f v u) Q X.xe s₂) X.xe s₁) X.xe s:=by
 refine thn (ha pins s σ H _ I h) fun v s1 ⟨x,H1,I1,r1,q1⟩=>?_
 refine thn (hb pins s1 σ H1 _ I1 q1) fun u s2 ⟨y,H2,I2,r2,q2⟩=>?_
 exact hf v u s2 x y H2 I2 r1 r2 q2
def tVar (i:Nat):TE:=fun σ H Q=>∃ v,σ[i]? = some (some v)∧Q v H
def tC (v:V):TE:=fun _ H Q=>Q v H
theorem pe_var {i:Nat} {x:Str} {pos:Pos} (hN:X.N[i]? = some x) (hv:Vis X.env.scope x) (hd:(x == ("__debug__" : Str))=false:=by decide) (hcd:(x == ("__classdict__" : Str))=false:=by decide):PE X (.Name x pos) (tVar i):=by
 intro pins s σ H Q I h
 obtain ⟨v,e,h⟩:=h
 obtain ⟨m,hn,hl⟩:=I.loc
 obtain ⟨u,r,l⟩:=hl i x v hN e hv
 have fin:EP X pins σ Q u s:=⟨v,H,I,r,h⟩
 rcases l with ⟨hk,hm⟩ | ⟨hk,c,hc,hcell⟩
 ·exact wpAny_Name (wpAny_loadName_local I.ok.kind hk hn hm fin) hd
 ·rcases hk with hk | hk
  ·exact wpAny_Name (wpAny_loadName_cell I.ok.kind hk hc hcell fin) hd
  ·exact wpAny_Name (wpAny_loadName_free I.ok.kind hk hc hcell fin hcd) hd
theorem pe_int {i j pos}:PE X (.Constant (.int i) j pos) (tC (.int i)):=fun _ _ _ H _ I h=>wpAny_Constant_int ⟨.int i,H,I.tok _,⟨_,rfl⟩,h⟩
theorem pe_bl {b j pos}:PE X (.Constant (.bool b) j pos) (tC (.bl b)):=fun _ _ _ H _ I h=>Constant_bool ⟨.bl b,H,I,rfl,h⟩
def Gl (X:Cx) (x:Str):Prop:=X.env.kindOf x=some .globalImplicit
theorem ld_glob {E:Value→Shared→Prop} {pins:List (Addr × Obj)} {s:Shared} {σ:St} {H:Hp} {x:Str} {u:Value} {pos:Pos} {Q:Value→Shared→Prop} (I:Inv X pins σ H s) (hg:Gl X x) (hm:X.mg x=some u) (h:Q u s)
  (hd:(x == ("__debug__" : Str))=false:=by decide):wpAny (model X.prog X.w) X.A (eval (.Name x pos) X.env) Q E s :=
 Calls.Name_function_global I.ok.kind hg (Calls.loadGlobal_global (by rw [I.ok.glob]; exact I.mod.glob.keeps I.bk) hm h) hd
theorem ld_blt {E:Value→Shared→Prop} {pins:List (Addr × Obj)} {s:Shared} {σ:St} {H:Hp} {x:Str} {u:Value} {pos:Pos} {Q:Value→Shared→Prop} (I:Inv X pins σ H s) (hg:Gl X x) (hm:X.mg x=none) (hv:bootBuiltins x=some u) (h:Q u s)
  (hn:x≠"__name__":=by decide) (hd:(x == ("__debug__" : Str))=false:=by decide):wpAny (model X.prog X.w) X.A (eval (.Name x pos) X.env) Q E s:=by
 obtain ⟨mb,h1,h2⟩:=I.mod.blt
 exact Calls.Name_function_global I.ok.kind hg (Calls.loadGlobal_builtin (by rw [I.ok.glob]; exact I.mod.glob.keeps I.bk) hm (by rw [I.ok.blt]; exact h1.keeps I.bk) ((h2 x hn).trans hv) h) hd
variable {a b:Expr} {ta tb:TE} {pos:Pos}
def PC (X:Cx) (op:CmpOp) (a b:Expr) (t:TE):Prop :=
 ∀ (pins:List (Addr × Obj)) (s:Shared) (σ:St) (H:Hp) (Q:VK),Inv X pins σ H s→t σ H Q →
  wpAny (model X.prog X.w) X.A (eval a X.env) (fun v s₁=>wpAny (model X.prog X.w) X.A (eval b X.env) (fun u s₂=>wpAny (model X.prog X.w) X.A (compareOp op v u) (EP X pins σ Q) X.xe s₂) X.xe s₁) X.xe s
def tB (t:TE):TT:=fun σ H Q=>t σ H fun x H1=>∃ c,x=.bl c∧Q c H1
theorem pt_cmp {op:CmpOp} {t:TE} (h:PC X op a b t) (h1:behindInMarks op b=false:=by first | exact nobehind _ (by decide) (by decide) | rfl):PT X (.Compare a [op] [b] pos) (tB t):=by
 intro pins s σ H Q I hw
 refine wpAny_isTrue_Compare1 (thn (h pins s σ H _ I hw) fun v s1 h1=>thn h1 fun u s2 h2=>thn h2 fun c s3 ⟨x,H1,I1,r1,q1⟩=>?_) h1
 obtain ⟨d,rfl,q⟩:=q1
 cases r1
 exact wpAny_truthy_bool ⟨H1,I1,q⟩
theorem pt_val {e:Expr} {t:TE} (h:PE X e t) (he:∀ whole,isTrue e X.env whole=(do let v ← whole; standAt e.pos; holding [v] (truthy v)):=by intro _; rfl):PT X e (tB t):=by
 intro pins s σ H Q I hw
 refine isTrue_plain (thn (h pins s σ H _ I hw) fun v s1 ⟨x,H1,I1,r1,q1⟩=>?_) (he _)
 obtain ⟨d,rfl,q⟩:=q1
 cases r1
 exact wpAny_truthy_bool ⟨H1,I1,q⟩
variable {tA tB':TT} {rest:List Expr}
def tAnd (t u:TT):TT:=fun σ H Q=>t σ H fun c H1=>if c=true then u σ H1 Q else Q false H1
def tOr (t u:TT):TT:=fun σ H Q=>t σ H fun c H1=>if c=true then Q true H1 else u σ H1 Q
def tNot (t:TT):TT:=fun σ H Q=>t σ H fun c H1=>Q (!c) H1
theorem pw_and1 (ha:PT X a tA):PW X (.BoolOp .And [a] pos) tA:=by
 intro wh pins s σ H Q I h
 refine isTrue_and (thn (ha pins s σ H Q I h) fun c s1 e=>?_)
 cases c with
 | true=>exact isTrue_and_nil e
 | false=>exact e
theorem pw_or1 (ha:PT X a tA):PW X (.BoolOp .Or [a] pos) tA:=by
 intro wh pins s σ H Q I h
 refine isTrue_or (thn (ha pins s σ H Q I h) fun c s1 e=>?_)
 cases c with
 | false=>exact isTrue_or_nil e
 | true=>exact e
theorem pw_and (ha:PT X a tA) (hb:PW X (.BoolOp .And (b :: rest) pos) tB'):PW X (.BoolOp .And (a :: b :: rest) pos) (tAnd tA tB'):=by
 intro wh pins s σ H Q I h
 refine isTrue_and (thn (ha pins s σ H _ I h) fun c s1 ⟨H1,I1,q1⟩=>?_)
 cases c with
 | true=>exact hb wh pins s1 σ H1 Q I1 q1
 | false=>exact ⟨H1,I1,q1⟩
theorem pw_or (ha:PT X a tA) (hb:PW X (.BoolOp .Or (b :: rest) pos) tB'):PW X (.BoolOp .Or (a :: b :: rest) pos) (tOr tA tB'):=by
 intro wh pins s σ H Q I h
 refine isTrue_or (thn (ha pins s σ H _ I h) fun c s1 ⟨H1,I1,q1⟩=>?_)
 cases c with
 | true=>exact ⟨H1,I1,q1⟩
 | false=>exact hb wh pins s1 σ H1 Q I1 q1
theorem pt_not (ha:PT X a tA):PT X (.UnaryOp .Not a pos) (tNot tA):=by
 intro pins s σ H Q I h
 exact isTrue_not (ha pins s σ H (fun c H1=>Q (!c) H1) I h)
def tAndV (ta tb:TE):TE:=fun σ H Q=>ta σ H fun x H1=>∃ c,x=.bl c∧if c=true then tb σ H1 Q else Q (.bl false) H1
def tOrV (ta tb:TE):TE:=fun σ H Q=>ta σ H fun x H1=>∃ c,x=.bl c∧if c=true then Q (.bl true) H1 else tb σ H1 Q
theorem pe_one {op} {t:TE} (h:PE X a t):PE X (.BoolOp op [a] pos) t:=fun pins s σ H Q I hw=>BoolOp_one (h pins s σ H Q I hw)
theorem pe_and (ha:PE X a ta) (hb:PE X (.BoolOp .And (b :: rest) pos) tb):PE X (.BoolOp .And (a :: b :: rest) pos) (tAndV ta tb):=by
 intro pins s σ H Q I h
 refine BoolOp_and (thn (ha pins s σ H _ I h) fun v s1 ⟨x,H1,I1,r1,q1⟩=>?_)
 obtain ⟨c,rfl,q1⟩:=q1
 cases r1
 refine wpAny_truthy_bool ?_
 cases c with
 | true=>exact hb pins s1 σ H1 Q I1 q1
 | false=>exact ⟨.bl false,H1,I1,rfl,q1⟩
theorem pe_or (ha:PE X a ta) (hb:PE X (.BoolOp .Or (b :: rest) pos) tb):PE X (.BoolOp .Or (a :: b :: rest) pos) (tOrV ta tb):=by
 intro pins s σ H Q I h
 refine BoolOp_or (thn (ha pins s σ H _ I h) fun v s1 ⟨x,H1,I1,r1,q1⟩=>?_)
 obtain ⟨c,rfl,q1⟩:=q1
 cases r1
 refine wpAny_truthy_bool ?_
 cases c with
 | false=>exact hb pins s1 σ H1 Q I1 q1
 | true=>exact ⟨.bl true,H1,I1,rfl,q1⟩
def tIf (t:TT) (ta tb:TE):TE:=fun σ H Q=>t σ H fun c H1=>if c=true then ta σ H1 Q else tb σ H1 Q
theorem pe_ifExp {c:Expr} (hc:PT X c tA) (ha:PE X a ta) (hb:PE X b tb):PE X (.IfExp c a b pos) (tIf tA ta tb):=by
 intro pins s σ H Q I h
 refine wpAny_IfExp (thn (hc pins s σ H _ I h) fun d s1 ⟨H1,I1,q1⟩=>?_)
 cases d with
 | true=>exact ha pins s1 σ H1 Q I1 q1
 | false=>exact hb pins s1 σ H1 Q I1 q1
end
end L2
namespace L2
open PySem PySem.Spec PyProof.Rows
def SqL (K:PySem.W.Frag) (H:Hp) (a:Addr) (xs:List V):Prop :=
 Rd H a (.lst xs) ∨
  ∃ (o:Obj) (its:Array Value) (n:Nat),K.lookup a=some o∧o.cls=.type "list"∧o.dict=none∧o.data=.seq its n∧its.size≤sizeLine∧Vals xs its.toList
def SqT (K:PySem.W.Frag) (H:Hp) (a:Addr) (xs:List V):Prop :=
 Rd H a (.tup xs) ∨
  ∃ (o:Obj) (its:Array Value) (n:Nat),K.lookup a=some o∧o.cls=.type "tuple"∧o.data=.seq its n∧its.size≤sizeLine∧Vals xs its.toList
def absV:Value→Option V
 | .none=>some .non
 | .bool b=>some (.bl b)
 | .int i _=>some (.int i)
 | .str x _=>some (.str x)
 | .bytes b _=>some (.byt b)
 | .float b _=>some (.flt b)
 | .ref a=>some (.ref a)
 | .type n=>some (.ty n)
 | _=>none
theorem RelV.abs {x:V} {u:Value} (r:RelV x u):absV u=some x:=by
 cases x with
 | non=>cases r; rfl
 | bl _=>cases r; rfl
 | int _=>obtain ⟨t,rfl⟩:=r; rfl
 | str _=>obtain ⟨t,rfl⟩:=r; rfl
 | byt _=>obtain ⟨t,rfl⟩:=r; rfl
 | flt _=>obtain ⟨t,rfl⟩:=r; rfl
 | ref _=>cases r; rfl
 | ty _=>cases r; rfl
theorem RelV.inj {x y:V} {u:Value} (r:RelV x u) (q:RelV y u):x=y:=Option.some.inj (r.abs.symm.trans q.abs)
theorem Vals.inj:∀ {xs ys:List V} {us:List Value},Vals xs us→Vals ys us→xs=ys
 | _,_,_,.nil,.nil=>rfl
 | _,_,_,.cons r t,.cons r' t'=>by rw [r.inj r',Vals.inj t t']
section
variable {X:Cx} {pins:List (Addr × Obj)} {σ:St} {H:Hp} {s:Shared} {a:Addr} {xs ys:List V}
theorem SqL.of {K:PySem.W.Frag} (h:H a=some (.lst xs)):SqL K H a xs:=.inl (.inl h)
theorem SqT.of {K:PySem.W.Frag} (h:H a=some (.tup xs)):SqT K H a xs:=.inl (.inl h)
theorem Inv.list (I:Inv X pins σ H s) (h:SqL X.K H a xs):∃ its:List Value,Vals xs its∧PlainL s.heap a its.toArray∧xs.length≤sizeLine:=by
 rcases h with h | ⟨o,its,n,hk,hc,hd,hs,hz,r⟩
 ·obtain ⟨z,its,n,r,e⟩:=h.ok I.hok
  exact ⟨its,r,⟨_,n,e,rfl,rfl,rfl⟩,z⟩
 ·refine ⟨its.toList,r,⟨o,n,I.kIn a o hk,hc,hd,by simpa using hs⟩,?_⟩
  have e:=r.length
  simp only [Array.length_toList] at e
  omega
theorem Inv.tuple (I:Inv X pins σ H s) (h:SqT X.K H a xs):∃ its:List Value,Vals xs its∧IsTup s.heap a its.toArray∧xs.length≤sizeLine:=by
 rcases h with h | ⟨o,its,n,hk,hc,hs,hz,r⟩
 ·obtain ⟨z,its,r,p⟩:=h.ok I.hok
  exact ⟨its,r,p,z⟩
 ·refine ⟨its.toList,r,⟨o,I.kIn a o hk,hc,n,by simpa using hs⟩,?_⟩
  have e:=r.length
  simp only [Array.length_toList] at e
  omega
theorem Inv.list_inj (I:Inv X pins σ H s) (h:SqL X.K H a xs) (h':SqL X.K H a ys):xs=ys:=by
 obtain ⟨its,r,⟨o,n,e,_,_,d⟩,_⟩:=I.list h
 obtain ⟨its',r',⟨o',n',e',_,_,d'⟩,_⟩:=I.list h'
 rw [e] at e'; cases e'
 rw [d] at d'
 injection d' with d1 _
 have:its=its':=by simpa using congrArg Array.toList d1
 subst this
 exact r.inj r'
theorem Inv.tuple_inj (I:Inv X pins σ H s) (h:SqT X.K H a xs) (h':SqT X.K H a ys):xs=ys:=by
 obtain ⟨its,r,⟨o,e,_,n,d⟩,_⟩:=I.tuple h
 obtain ⟨its',r',⟨o',e',_,n',d'⟩,_⟩:=I.tuple h'
 rw [e] at e'; cases e'
 rw [d] at d'
 injection d' with d1 _
 have:its=its':=by simpa using congrArg Array.toList d1
 subst this
 exact r.inj r'
end
abbrev Cx.wish (X:Cx) (E:Value→Shared→Prop):Cx:={ X with xe:=E }
abbrev Cx.nox (X:Cx):Cx:=X.wish fun _ _=>False
theorem Cx.Ok.wish {X:Cx} (ok:X.Ok) (E:Value→Shared→Prop):(X.wish E).Ok :=
 ⟨ok.mod,ok.kind,ok.glob,ok.blt,ok.above,ok.inj,ok.has,ok.cab,ok.hd,ok.frames,ok.stk,ok.exf,ok.bs,ok.bsz,ok.noex,ok.exfs,ok.funs,ok.frf⟩
theorem Cx.Ok.unwish {X:Cx} {E:Value→Shared→Prop} (ok:(X.wish E).Ok):X.Ok :=
 ⟨ok.mod,ok.kind,ok.glob,ok.blt,ok.above,ok.inj,ok.has,ok.cab,ok.hd,ok.frames,ok.stk,ok.exf,ok.bs,ok.bsz,ok.noex,ok.exfs,ok.funs,ok.frf⟩
section
variable {X:Cx} {pins:List (Addr × Obj)} {σ:St} {H:Hp} {s:Shared} {E:Value→Shared→Prop}
theorem Inv.wish (I:Inv X pins σ H s) (E:Value→Shared→Prop):Inv (X.wish E) pins σ H s:=⟨I.ok.wish E,I.os,I.bare,I.base,I.loc,I.cell,I.free,I.freeC,I.pin,I.hok,I.len⟩
theorem Inv.unwish (I:Inv (X.wish E) pins σ H s):Inv X pins σ H s:=⟨I.ok.unwish,I.os,I.bare,I.base,I.loc,I.cell,I.free,I.freeC,I.pin,I.hok,I.len⟩
theorem SP.unwish {D:Ends} {f:Flow} {s':Shared} (h:SP (X.wish E) pins D f s'):SP X pins D f s':=by
 cases f with
 | next=>obtain ⟨σ',H',I,q⟩:=h; exact ⟨σ',H',I.unwish,q⟩
 | brk=>obtain ⟨σ',H',I,q⟩:=h; exact ⟨σ',H',I.unwish,q⟩
 | cont=>obtain ⟨σ',H',I,q⟩:=h; exact ⟨σ',H',I.unwish,q⟩
 | ret u=>obtain ⟨v,σ',H',I,r,q⟩:=h; exact ⟨v,σ',H',I.unwish,r,q⟩
theorem PSs.nox {st:List Stmt} {t:TS} (h:PSs X.nox st t):PSs X st t:=fun pins s σ H D I hw =>
 wpAny_mono (h pins s σ H D (I.wish _) hw) (fun _ _ q=>q.unwish) fun _ _ z=>False.elim z
end
section
variable {X:Cx} {st:Stmt} {rest:List Stmt} {t u:TS} {e:Expr} {te:TE} {pos:Pos}
def tNext:TS:=fun D σ H=>D.nx σ H
def tSeq (t u:TS):TS:=fun D σ H=>t { D with nx:=u D } σ H
theorem pss_nil:PSs X [] tNext:=fun _ _ σ H _ I h=>wpAny_execs_nil ⟨σ,H,I,h⟩
theorem pss_cons (h1:PS X st t) (h2:PSs X rest u):PSs X (st :: rest) (tSeq t u):=by
 intro pins s σ H D I h
 refine wpAny_execs_cons (thn (h1 pins s σ H { D with nx:=u D } I h) fun f s1 q=>?_)
 cases f with
 | next =>
  obtain ⟨σ',H',I',q⟩:=q
  exact h2 pins s1 σ' H' D I' q
 | ret v=>exact q
 | brk=>exact q
 | cont=>exact q
theorem pss_one (h1:PS X st t):PSs X [st] t:=by
 intro pins s σ H D I h
 refine wpAny_execs_cons (thn (h1 pins s σ H D I h) fun f s1 q=>?_)
 cases f with
 | next=>exact wpAny_execs_nil q
 | ret v=>exact q
 | brk=>exact q
 | cont=>exact q
theorem Inv.quiet {pins:List (Addr × Obj)} {σ:St} {H:Hp} {s:Shared} (I:Inv X pins σ H s):interactive X.env=false:=by simp [interactive,I.ok.kind]
def tDrop (te:TE):TS:=fun D σ H=>te σ H fun _ H1=>D.nx σ H1
theorem ps_expr (he:PE X e te) (hs:swapsWith e none pos.line X.env=pure false:=by rfl):PS X (.Expr e pos) (tDrop te):=by
 intro pins s σ H D I h
 exact wpAny_Expr_any (thn (he pins s σ H _ I h) fun v s1 ⟨x,H1,I1,r1,q1⟩=>⟨σ,H1,I1,q1⟩) I.quiet hs
def tRet (te:TE):TS:=fun D σ H=>te σ H D.rt
theorem ps_ret (he:PE X e te):PS X (.Return (some e) pos) (tRet te):=by
 intro pins s σ H D I h
 exact wpAny_Return_some (thn (he pins s σ H _ I h) fun v s1 ⟨x,H1,I1,r1,q1⟩=>⟨x,σ,H1,I1,r1,q1⟩)
def tIfS (c:TT) (t u:TS):TS:=fun D σ H=>c σ H fun b H1=>if b=true then t D σ H1 else u D σ H1
theorem ps_if {c:Expr} {a b:List Stmt} {tc:TT} (hc:PT X c tc) (ha:PSs X a t) (hb:PSs X b u):PS X (.If c a b pos) (tIfS tc t u):=by
 intro pins s σ H D I h
 refine wpAny_If (thn (hc pins s σ H _ I h) fun d s1 ⟨H1,I1,q1⟩=>?_)
 cases d with
 | true=>exact ha pins s1 σ H1 D I1 q1
 | false=>exact hb pins s1 σ H1 D I1 q1
end
abbrev TG:=V→St→Hp→(St→Hp→Prop)→Prop
abbrev TGs:=List V→St→Hp→(St→Hp→Prop)→Prop
def PG (X:Cx) (target:Expr) (t:TG):Prop :=
 ∀ (pins:List (Addr × Obj)) (s:Shared) (σ:St) (H:Hp) (v:V) (u:Value) (Q:St→Hp→Prop),Inv X pins σ H s→RelV v u→t v σ H Q →
  wpAny (model X.prog X.w) X.A (assign target X.env u) (fun _ s'=>∃ σ' H',Inv X pins σ' H' s'∧Q σ' H') X.xe s
def PGs (X:Cx) (ts:List Expr) (t:TGs):Prop :=
 ∀ (pins:List (Addr × Obj)) (s:Shared) (σ:St) (H:Hp) (vs:List V) (us:List Value) (Q:St→Hp→Prop),Inv X pins σ H s→Vals vs us→t vs σ H Q →
  wpAny (model X.prog X.w) X.A (assignInOrder ((assignEach ts X.env).map (·.2)) us) (fun _ s'=>∃ σ' H',Inv X pins σ' H' s'∧Q σ' H') X.xe s
abbrev TSet:=V→V→V→Hp→(Hp→Prop)→Prop
def PSet (X:Cx) (t:TSet):Prop :=
 ∀ (pins:List (Addr × Obj)) (s:Shared) (σ:St) (H:Hp) (o i v:V) (ov iv u:Value) (Q:Hp→Prop),Inv X pins σ H s→RelV o ov→RelV i iv→RelV v u→t o i v H Q →
  wpAny (model X.prog X.w) X.A (setItem ov iv u) (fun _ s'=>∃ H',Inv X pins σ H' s'∧Q H') X.xe s
section
variable {X:Cx} {pos:Pos}
def gName (i:Nat):TG:=fun v σ H Q=>Q (σ.set i (some v)) H
theorem pg_name {i:Nat} {x:Str} (hN:X.N.Nodup) (hi:X.N[i]? = some x) (hx:Loc X.env.scope x) (hf:X.fn x=true ∨ X.env.scope.names.lookup x=some .local:=by first | exact .inl rfl | exact .inr rfl | assumption):PG X (.Name x pos) (gName i):=by
 intro pins s σ H v u Q I r h
 exact wpAny_assign_Name (store_ok I hN hi hx r (fun s' I'=>⟨_,H,I',h⟩) hf)
def gNil:TGs:=fun vs σ H Q=>vs=[]∧Q σ H
def gCons (t:TG) (u:TGs):TGs:=fun vs σ H Q=>∃ v r,vs=v :: r∧t v σ H fun σ' H'=>u r σ' H' Q
theorem pgs_nil:PGs X [] gNil:=by
 intro pins s σ H vs us Q I r h
 obtain ⟨e,h⟩:=h
 subst e
 cases r
 exact assignInOrder_nil ⟨σ,H,I,h⟩
theorem pgs_cons {e:Expr} {es:List Expr} {t:TG} {u:TGs} (h1:PG X e t) (h2:PGs X es u)
  (hs:(assignEach (e :: es) X.env).map (·.2)=assign e X.env :: (assignEach es X.env).map (·.2):=by rfl):PGs X (e :: es) (gCons t u):=by
 intro pins s σ H vs us Q I r h
 obtain ⟨v,vr,e1,h⟩:=h
 subst e1
 cases r with
 | cons r rr =>
  rw [hs]
  refine assignInOrder_cons (thn (h1 pins s σ H _ _ _ I r h) fun _ s1 ⟨σ1,H1,I1,q1⟩=>?_)
  exact h2 pins s1 σ1 H1 _ _ Q I1 rr q1
def gTup (K:PySem.W.Frag) (n:Nat) (t:TGs):TG:=fun v σ H Q=>∃ a xs,v=.ref a∧SqT K H a xs∧xs.length=n∧t xs σ H Q
theorem pg_tup {es:List Expr} {k:Nat} {t:TGs} {n:Nat} (hc:X.calm=true) (h:PGs X es t)
  (hn:(assignEach es X.env).length=n:=by rfl) (hst:(assignEach es X.env).findIdx? (·.1)=none:=by rfl):PG X (.Tuple es k pos) (gTup X.K n t):=by
 intro pins s σ H v u Q I r hw
 obtain ⟨a,xs,e1,hq,hl,hw⟩:=hw
 subst e1
 cases r
 obtain ⟨its,rv,ht,hz⟩:=I.tuple hq
 refine assign_Tuple_tuple (I.ok.hd hc) ht (by simp [hn,←hl,rv.length]) hst fun h' hx=>?_
 have I1:Inv X pins σ H { s with heap:=h' }:=I.kept (t':=s.toks) fun b o e=>hx b o (Nat.ne_of_lt (Heap.lt_size e)) e
 exact h pins _ σ H xs _ Q I1 (by simpa using rv) hw
def gSub (to ti:TE) (t:TSet):TG:=fun v σ H Q=>to σ H fun o H1=>ti σ H1 fun i H2=>t o i v H2 fun H3=>Q σ H3
theorem pg_sub {o i:Expr} {to ti:TE} {t:TSet} (ho:PE X o to) (hi:PE X i ti) (hs:PSet X t)
  (ha:∀ v,assign (.Subscript o i pos) X.env v=(do
   let ov ← holding [v] (eval o X.env)
   let iv ← holding [v,ov] (eval i X.env)
   standAt pos
   holding [v,ov,iv] (setItem ov iv v)
   release [v,ov,iv] []):=by intro _; rfl):PG X (.Subscript o i pos) (gSub to ti t):=by
 intro pins s σ H v u Q I r h
 rw [ha]
 refine wpAny_bind (wpAny_holding (thn (ho pins s σ H _ I h) fun ov s1 ⟨x,H1,I1,r1,q1⟩=>?_))
 refine wpAny_bind (wpAny_holding (thn (hi pins s1 σ H1 _ I1 q1) fun iv s2 ⟨y,H2,I2,r2,q2⟩=>?_))
 refine wpAny_bind (wpAny_standAt (wpAny_bind (wpAny_holding (thn (hs pins s2 σ H2 x y v ov iv u _ I2 r1 r2 r q2) fun _ s3 ⟨H3,I3,q3⟩=>?_))))
 exact wpAny_release ⟨σ,H3,I3,q3⟩
def tAsg (te:TE) (g:TG):TS:=fun D σ H=>te σ H fun x H1=>g x σ H1 D.nx
theorem ps_asg {tg e:Expr} {te:TE} {g:TG} (he:PE X e te) (hg:PG X tg g) (hs:swapsWithSole [tg] e pos.line X.env=pure false:=by rfl) (hw:swappedStores [tg] e X.env=pure none:=by rfl)
  (h1:(assignEach [tg] X.env).map (·.2)=[assign tg X.env]:=by rfl):PS X (.Assign [tg] e pos) (tAsg te g):=by
 intro pins s σ H D I h
 refine wpAny_Assign_stores (thn (he pins s σ H _ I h) fun v s1 ⟨x,H1,I1,r1,q1⟩=>?_) hs hw
 rw [h1]
 exact thn (hg pins s1 σ H1 x v _ I1 r1 q1) fun _ s2 q=>q
theorem ps_set {i:Nat} {x:Str} {e:Expr} {te:TE} {pos':Pos} (hN:X.N.Nodup) (hi:X.N[i]? = some x) (hx:Loc X.env.scope x) (he:PE X e te) (hs:swapsWith e (some (.Name x pos')) pos.line X.env=pure false:=by rfl) (hf:X.fn x=true ∨ X.env.scope.names.lookup x=some .local:=by first | exact .inl rfl | exact .inr rfl | assumption) :
  PS X (.Assign [.Name x pos'] e pos) (tAsg te (gName i)):=by
 intro pins s σ H D I h
 refine wpAny_Assign_Name (thn (he pins s σ H _ I h) fun v s1 ⟨y,H1,I1,r1,q1⟩=>?_) hs
 exact store_ok I1 hN hi hx r1 (fun s2 I2=>⟨_,H1,I2,q1⟩) hf
end
section
variable {X:Cx} {pos:Pos}
def tWhile (c:TT) (tb:TS):TS:=fun D σ H=>∃ W:Nat→St→Hp→Prop,(∃ m,W m σ H)∧∀ m σ H,W m σ H →
 c σ H fun b H1=>if b=true then ∃ N:St→Hp→Prop,(∀ σ' H',N σ' H'→∃ m',m' < m∧W m' σ' H')∧tb { D with nx:=N,ct:=N,bk:=D.nx } σ H1 else D.nx σ H1
theorem ps_while {c:Expr} {body:List Stmt} {tc:TT} {tb:TS} (hp:PassesOwn (model X.prog X.w) X.A X.env X.xe) (hc:PT X c tc) (hb:PSs X body tb):PS X (.While c body [] pos) (tWhile tc tb):=by
 intro pins s σ H D I h
 obtain ⟨W,⟨m0,w0⟩,turn⟩:=h
 refine wpAny_While (codeAny_whileLoop (fun n s'=>∃ σ' H',Inv X pins σ' H' s'∧W n σ' H') ?_ m0 ⟨σ,H,I,w0⟩)
 rintro n s1 ⟨σ1,H1,I1,w1⟩
 refine wpAny_passesOwn hp (thn (hc pins s1 σ1 H1 _ I1 (turn n σ1 H1 w1)) fun b s2 ⟨H2,I2,q2⟩=>?_)
 cases b with
 | true =>
  obtain ⟨N,hN,q2⟩:=q2
  rw [if_pos rfl]
  refine wpAny_passesOwn hp (thn (hb pins s2 σ1 H2 _ I2 q2) fun f s3 q3=>?_)
  cases f with
  | next =>
   obtain ⟨σ3,H3,I3,n3⟩:=q3
   obtain ⟨m',hm,w3⟩:=hN σ3 H3 n3
   exact ⟨m',hm,σ3,H3,I3,w3⟩
  | cont =>
   obtain ⟨σ3,H3,I3,n3⟩:=q3
   obtain ⟨m',hm,w3⟩:=hN σ3 H3 n3
   exact ⟨m',hm,σ3,H3,I3,w3⟩
  | brk=>exact q3
  | ret v=>exact q3
 | false =>
  rw [if_neg Bool.false_ne_true]
  exact wpAny_execs_nil ⟨σ1,H2,I2,q2⟩
end
structure It where
 go:Nat→Hp→Prop
 yld:Nat→Hp→V→Hp→Prop
 stop:Nat→Hp→Prop
def FpOk (X:Cx) (pins:List (Addr × Obj)) (H:Hp) (b:Addr):Prop :=
 H b=none∧b≠X.env.locals∧b ∉ X.fs∧(b ∈ X.ex ∨ X.s₀.heap.objs.size≤b)∧(∀ x c,X.env.cells.lookup x=some c→c≠b)∧∀ p ∈ X.pn++pins,p.1≠b
theorem Inv.fpOk {X:Cx} {pins:List (Addr × Obj)} {σ:St} {H H':Hp} {s:Shared} {b:Addr} (I:Inv X pins σ H s) (hb:s.heap.objs.size≤b) (hn:H' b=none):FpOk X pins H' b:=by
 refine ⟨hn,Nat.ne_of_gt (Nat.lt_of_lt_of_le I.lt hb),I.nofs hb,.inr (Nat.le_trans I.sz hb),fun x c e z=>?_,fun p hp z=>?_⟩
 ·obtain ⟨v,q⟩:=I.cell x c e
  exact absurd (Nat.lt_of_lt_of_le q.lt (by rw [z]; exact hb)) (Nat.lt_irrefl _)
 ·exact absurd (Nat.lt_of_lt_of_le (Heap.lt_size (I.pin p hp).1) (by rw [z]; exact hb)) (Nat.lt_irrefl _)
structure Turn (P:Program) (w:World) (K:PySem.W.Frag) (tg:Expr) (J:It) (fp:List Addr) (it:Addr) (tn:Nat→Heap→Prop):Prop where
 mem:it ∈ fp
 obj:∀ i h,tn i h→∀ b ∈ fp,∃ o,h.get? b=some o∧∀ v,o.data≠.cell v
 keep:∀ i h h',tn i h→(∀ b ∈ fp,∀ o,h.get? b=some o→h'.get? b=some o)→tn i h'
 item:∀ (X:Cx),X.prog=P→X.w=w→X.K=K→X.calm=true→∀ (i:Nat) (pins:List (Addr × Obj)) (s:Shared) (σ:St) (H:Hp) (E:Value→Shared→Prop),Inv X pins σ H s→(∀ b ∈ fp,FpOk X pins H b)→tn i s.heap→J.go i H →
  wpAny (model P w) X.A (pyNext (.ref it)) (fun r s1=>∃ u,r=some u ∧
   wpAny (model P w) X.A (letOwnedTupleGo tg (.ref it) u) (fun _ s2=>∃ x H',Inv X pins σ H' s2∧RelV x u∧J.yld i H x H'∧tn (i+1) s2.heap∧∀ b ∈ fp,H' b=none) E s1) E s
 done:∀ (X:Cx),X.prog=P→X.w=w→X.K=K→X.calm=true→∀ (i:Nat) (pins:List (Addr × Obj)) (s:Shared) (σ:St) (H:Hp) (E:Value→Shared→Prop),Inv X pins σ H s→(∀ b ∈ fp,FpOk X pins H b)→tn i s.heap→J.stop i H →
  wpAny (model P w) X.A (pyNext (.ref it)) (fun r s1=>r=none∧Inv X pins σ H s1) E s
 self:∀ (A:Around) (i:Nat) (s:Shared) (Q:Value→Shared→Prop) (E:Value→Shared→Prop),tn i s.heap→Q (.ref it) s→wpAny (model P w) A (pyIter (.ref it)) Q E s
abbrev TI:=St→Hp→(It→Hp→Prop)→Prop
def PIE (X:Cx) (pins:List (Addr × Obj)) (σ:St) (tg:Expr) (R:It→Hp→Prop) (itv:Value) (s2:Shared):Prop :=
 ∃ (it:Addr) (fp:List Addr) (tn:Nat→Heap→Prop) (J:It) (H':Hp),itv=.ref it∧Inv X pins σ H' s2∧Turn X.prog X.w X.K tg J fp it tn∧tn 0 s2.heap∧(∀ b ∈ fp,FpOk X pins H' b)∧R J H'
def PI (X:Cx) (tg iter:Expr) (wi:TI):Prop :=
 ∀ (pins:List (Addr × Obj)) (s:Shared) (σ:St) (H:Hp) (R:It→Hp→Prop),Inv X pins σ H s→wi σ H R →
  wpAny (model X.prog X.w) X.A (eval iter X.env) (fun v s1=>wpAny (model X.prog X.w) X.A (pyIter v) (PIE X pins σ tg R) X.xe s1) X.xe s
theorem go_of {M:Model} {A:Around} {E:Value→Shared→Prop} {s:Shared} {tg:Expr} {it:Addr} {u:Value} {o:Obj} {n:String} {vs:Array Value} {Q:Unit→Shared→Prop} (ho:s.heap.get? it=some o) (hc:o.cls=.type n) (hd:o.data=.fields vs)
  (hn:["enumerate","zip","dict_itemiterator","dict_reverseitemiterator","odict_iterator","itertools.zip_longest","itertools.pairwise"].contains n=false) (hQ:Q () s):wpAny M A (letOwnedTupleGo tg (.ref it) u) Q E s:=by
 unfold letOwnedTupleGo
 cases tg <;> first
  | exact wpAny_pure hQ
  | (cases u <;> first
      | exact wpAny_pure hQ
      | (refine wpAny_bind (wpAny_load ho ?_)
         rw [hc,hd]
         show wpAny M A (if (["enumerate","zip","dict_itemiterator","dict_reverseitemiterator","odict_iterator","itertools.zip_longest","itertools.pairwise"].contains n && vs[0]? == some (rawInt _))=true then _ else _) Q E s
         rw [if_neg (by intro h; rw [hn,Bool.false_and] at h; cases h)]
         exact wpAny_pure hQ))
def Itl (K:PySem.W.Frag) (a:Addr):It :=
 ⟨fun i H=>∃ xs x,SqL K H a xs∧xs[i]? = some x,fun i H x H'=>H'=H∧∀ xs,SqL K H a xs→xs[i]? = some x,fun i H=>∃ xs,SqL K H a xs∧xs.length≤i⟩
def Itr (lo:Int) (n:Nat):It:=⟨fun i _=>i < n,fun i H x H'=>H'=H∧x=.int (lo+i),fun i _=>n≤i⟩
theorem turn_list {P:Program} {w:World} {K:PySem.W.Frag} {tg:Expr} (a it:Addr):Turn P w K tg (Itl K a) [it] it (fun i h=>h.IsListIter it a i) where
 mem:=by simp
 obj:=fun i h st b hb=>by
  have e:b=it:=by simpa using hb
  subst e
  obtain ⟨o,e,c,d⟩:=st
  exact ⟨o,e,fun v z=>by rw [d] at z; cases z⟩
 keep:=fun i h h' st k=>st.at fun o e=>k it (by simp) o e
 item:=by
  intro X hP hw hK hc i pins s σ H E I hf st hg
  subst hP hw hK
  obtain ⟨xs,x,hq,hx⟩:=hg
  obtain ⟨its,rv,p,hz⟩:=I.list hq
  obtain ⟨u,hu,ru⟩:=rv.get hx
  obtain ⟨f0,f1,f2,f3,f4,f5⟩:=hf it (by simp)
  refine wpAny_pyNext_list_item st p.isList (x:=u) (by simpa using hu) fun h' st' sb=>?_
  have I1:Inv X pins σ H { s with heap:=h' }:=I.turned (t':=s.toks) (fun b o hb e=>(sb.2 b hb).trans e) f0 f1 f3 f4 f5
  obtain ⟨o,e,c,d⟩:=id st'
  exact ⟨u,rfl,go_of (s:={ s with heap:=h' }) e c d (by decide) ⟨x,H,I1,ru,⟨rfl,fun ys hy=>by rw [I.list_inj hy hq]; exact hx⟩,st',fun b hb=>(hf b hb).1⟩⟩
 done:=by
  intro X hP hw hK hc i pins s σ H E I hf st hg
  subst hP hw hK
  obtain ⟨xs,hq,hx⟩:=hg
  obtain ⟨its,rv,p,hz⟩:=I.list hq
  obtain ⟨f0,f1,f2,f3,f4,f5⟩:=hf it (by simp)
  have hl:=rv.length
  exact wpAny_pyNext_list_end (I.ok.hd hc) st p.isList (by simp; omega) fun h' eb=>⟨rfl,I.turned (t':=s.toks) (fun b o hb e=>eb b o hb e) f0 f1 f3 f4 f5⟩
 self:=fun _ _ _ _ _ st h=>wpAny_pyIter_listiter st h
theorem turn_range {P:Program} {w:World} {K:PySem.W.Frag} {tg:Expr} (it:Addr) (lo:Int) (n:Nat):Turn P w K tg (Itr lo n) [it] it (fun i h=>IsRangeIter h it (lo+(i:Nat) * 1) ((n:Int) - (i:Nat)) 1) where
 mem:=by simp
 obj:=fun i h st b hb=>by
  have e:b=it:=by simpa using hb
  subst e
  exact ⟨_,st,fun v z=>by
   have z':Data.fields _=Data.cell v:=z
   cases z'⟩
 keep:=fun i h h' st k=>k it (by simp) _ st
 item:=by
  intro X hP hw hK hc i pins s σ H E I hf st hg
  subst hP hw hK
  obtain ⟨f0,f1,f2,f3,f4,f5⟩:=hf it (by simp)
  have W:=Walks.range (prog:=X.prog) (w:=X.w) (I.ok.hd hc) it lo 1 n
  refine W.item i s _ _ hg st fun v h' tk hv st' kk=>?_
  obtain ⟨t,rfl⟩:=hv
  have I1:Inv X pins σ H { s with heap:=h',toks:=tk }:=I.turned (fun b o hb e=>kk b o (by simpa using hb) e) f0 f1 f3 f4 f5
  refine ⟨_,rfl,go_of (s:={ s with heap:=h',toks:=tk }) (n:="range_iterator") st' rfl rfl (by decide) ⟨.int (lo+i),H,I1,⟨t,?_⟩,⟨rfl,rfl⟩,st',fun b hb=>(hf b hb).1⟩⟩
  rw [Int.mul_one]
 done:=by
  intro X hP hw hK hc i pins s σ H E I hf st hg
  subst hP hw hK
  obtain ⟨f0,f1,f2,f3,f4,f5⟩:=hf it (by simp)
  exact wpAny_pyNext_range_end (I.ok.hd hc) st (by have:n≤i:=hg; omega) fun h' eb=>⟨rfl,I.turned (t':=s.toks) (fun b o hb e=>eb b o hb e) f0 f1 f3 f4 f5⟩
 self:=fun _ _ _ _ _ st h=>wpAny_pyIter_rangeiter st h
end L2
namespace L2
open PySem PySem.Spec PyProof.Rows
section
variable {X:Cx} {tg:Expr}
def iList (K:PySem.W.Frag) (tl:TE):TI:=fun σ H R=>tl σ H fun x H1=>∃ a,x=.ref a∧(∃ xs,SqL K H1 a xs)∧R (Itl K a) H1
theorem pi_list {l:Expr} {tl:TE} (hl:PE X l tl):PI X tg l (iList X.K tl):=by
 intro pins s σ H R I h
 refine thn (hl pins s σ H _ I h) fun v s1 ⟨x,H1,I1,r1,q1⟩=>?_
 obtain ⟨a,e,⟨xs,hq⟩,q⟩:=q1
 subst e
 cases r1
 obtain ⟨its,rv,p,hz⟩:=I1.list hq
 refine wpAny_pyIter_list p.isList ?_
 refine ⟨s1.heap.objs.size,[s1.heap.objs.size],_,_,H1,rfl,I1.kept (t':=s1.toks) fun b o e=>Heap.get?_push_of_some _ e,turn_list a _,⟨_,Heap.get?_push_size _ rfl,rfl,rfl⟩,fun b hb=>?_,q⟩
 have e:b=s1.heap.objs.size:=by simpa using hb
 subst e
 exact I1.fpOk (Nat.le_refl _) (I1.hok.fresh (Nat.le_refl _))
theorem range_it {pins:List (Addr × Obj)} {σ:St} {H:Hp} {s:Shared} {R:It→Hp→Prop} {E:Value→Shared→Prop} {lo hi:Int} {t u v:Tok} {tk:Nat} (I:Inv X pins σ H s) (h1:-(2 ^ 62)≤lo) (h2:lo < 2 ^ 62) (h3:-(2 ^ 62)≤hi) (h4:hi < 2 ^ 62)
  (q:R (Itr lo (hi - lo).toNat) H):wpAny (model X.prog X.w) X.A (pyIter (.ref s.heap.objs.size)) (PIE X pins σ tg R) E { s with heap:=s.heap.push { cls:=.type "range",data:=.fields #[.int lo t,.int hi u,.int 1 v] },toks:=tk }:=by
 refine wpAny_pyIter_range (IsRange.new ..) (small_one h1 h2 h3 h4) ?_
 have I1:Inv X pins σ H { s with heap:=s.heap.push { cls:=.type "range",data:=.fields #[.int lo t,.int hi u,.int 1 v] },toks:=tk }:=I.kept fun b o e=>Heap.get?_push_of_some _ e
 refine ⟨(s.heap.push { cls:=.type "range",data:=.fields #[.int lo t,.int hi u,.int 1 v] }).objs.size,[(s.heap.push { cls:=.type "range",data:=.fields #[.int lo t,.int hi u,.int 1 v] }).objs.size],_,_,H,rfl,
  I1.kept (t':=tk) fun b o e=>Heap.get?_push_of_some _ e,turn_range _ lo (hi - lo).toNat,?_,fun b hb=>?_,q⟩
 ·have e1:lo+((0:Nat):Int) * 1=lo:=by simp
  have e2:(((hi - lo).toNat:Nat):Int) - ((0:Nat):Int)=Builtin.Range.rangeSize lo hi 1:=by rw [rangeSize_one]; split <;> omega
  show IsRangeIter _ _ (lo+((0:Nat):Int) * 1) ((((hi - lo).toNat:Nat):Int) - ((0:Nat):Int)) 1
  rw [e1,e2]
  exact Heap.get?_push_size _ rfl
 ·have e:b=(s.heap.push { cls:=.type "range",data:=.fields #[.int lo t,.int hi u,.int 1 v] }).objs.size:=by simpa using hb
  subst e
  exact I1.fpOk (Nat.le_refl _) (I1.hok.fresh (Nat.le_refl _))
def iRng1 (ta:TA):TI:=fun σ H R=>ta σ H fun vs H1=>∃ j:Int,vs=[.int j]∧-(2 ^ 62)≤j∧j < 2 ^ 62∧R (Itr 0 j.toNat) H1
def iRng2 (ta:TA):TI:=fun σ H R=>ta σ H fun vs H1=>∃ i j:Int,vs=[.int i,.int j]∧(-(2 ^ 62)≤i∧i < 2 ^ 62∧-(2 ^ 62)≤j∧j < 2 ^ 62)∧R (Itr i (j - i).toNat) H1
theorem pi_range1 {a:Expr} {ta:TA} {p pos:Pos} (hg:Gl X "range") (hm:X.mg "range" = none) (ha:PA X [a] ta) (hs:starEach [a] X.env=[(false,eval a X.env)]:=by rfl):PI X tg (.Call (.Name "range" p) [a] [] pos) (iRng1 ta):=by
 intro pins s σ H R I h
 refine Call_ (ld_blt I hg hm boot_range (PyProof.Rows.callWith_type1 (thn (ha pos pins s σ H _ I h) fun us s1 ⟨vs,H1,I1,r1,q1⟩=>?_) hs rfl))
 obtain ⟨j,e,q1,q2,q⟩:=q1
 subst e
 cases r1 with
 | cons r rr =>
  cases rr
  obtain ⟨t,rfl⟩:=r
  exact call_range_1 (range_it I1 (by omega) (by omega) q1 q2 (by simpa using q))
theorem pi_range2 {a b:Expr} {ta:TA} {p pos:Pos} (hg:Gl X "range") (hm:X.mg "range" = none) (ha:PA X [a,b] ta) (hs:starEach [a,b] X.env=[(false,eval a X.env),(false,eval b X.env)]:=by rfl) (hs2:starEach [b] X.env=[(false,eval b X.env)]:=by rfl) :
  PI X tg (.Call (.Name "range" p) [a,b] [] pos) (iRng2 ta):=by
 intro pins s σ H R I h
 refine Call_ (ld_blt I hg hm boot_range (PyProof.Rows.callWith_type1 (thn (ha pos pins s σ H _ I h) fun us s1 ⟨vs,H1,I1,r1,q1⟩=>?_) (by rw [hs,hs2]) (by rw [hs2]; rfl)))
 obtain ⟨i,j,e,⟨q1,q2,q3,q4⟩,q⟩:=q1
 subst e
 cases r1 with
 | cons r rr =>
  cases rr with
  | cons r' rr =>
   cases rr
   obtain ⟨t,rfl⟩:=r
   obtain ⟨t',rfl⟩:=r'
   exact call_range_2 (range_it I1 q1 q2 q3 q4 q)
def tFor (wi:TI) (g:TG) (tb:TS):TS:=fun D σ H=>wi σ H fun J H1=>∃ W:Nat→Nat→St→Hp→Prop,(∃ m,W 0 m σ H1)∧∀ i m σ H,W i m σ H →
 (J.stop i H∧D.nx σ H) ∨ (J.go i H∧∃ N:St→Hp→Prop,(∀ σ' H',N σ' H'→∃ m',m' < m∧W (i+1) m' σ' H')∧∀ x H',J.yld i H x H'→g x σ H' fun σ2 H2=>tb { D with nx:=N,ct:=N,bk:=D.nx } σ2 H2)
def pinsAt (fp:List Addr) (h:Heap):List (Addr × Obj):=fp.filterMap fun b=>(h.get? b).map fun o=>(b,o)
theorem mem_pinsAt {fp:List Addr} {h:Heap} {b:Addr} {o:Obj} (hb:b ∈ fp) (e:h.get? b=some o):(b,o) ∈ pinsAt fp h:=List.mem_filterMap.mpr ⟨b,hb,by rw [e]; rfl⟩
theorem of_pinsAt {fp:List Addr} {h:Heap} {p:Addr × Obj} (hp:p ∈ pinsAt fp h):p.1 ∈ fp∧h.get? p.1=some p.2:=by
 obtain ⟨b,hb,e⟩:=List.mem_filterMap.mp hp
 cases q:h.get? b with
 | none=>rw [q] at e; cases e
 | some o =>
  rw [q] at e
  have e':(b,o)=p:=Option.some.inj e
  subst e'
  exact ⟨hb,q⟩
theorem Inv.pinned {pins:List (Addr × Obj)} {σ:St} {H:Hp} {s:Shared} {fp:List Addr} (I:Inv X pins σ H s) (hf:∀ b ∈ fp,FpOk X pins H b) (ho:∀ b ∈ fp,∃ o,s.heap.get? b=some o∧∀ v,o.data≠.cell v):Inv X (pins++pinsAt fp s.heap) σ H s :=
 I.pins_of fun p hp=>(List.mem_append.mp hp).elim (fun z=>I.pin p (List.mem_append_right _ z)) fun z=>by
  obtain ⟨hb,e⟩:=of_pinsAt z
  obtain ⟨f0,f1,f2,_⟩:=hf p.1 hb
  obtain ⟨o,e',d⟩:=ho p.1 hb
  rw [e] at e'; cases e'
  exact ⟨e,f0,f1,f2,d⟩
theorem Inv.unpinned {pins pl:List (Addr × Obj)} {σ:St} {H:Hp} {s:Shared} (I:Inv X (pins++pl) σ H s):Inv X pins σ H s:=I.pins_of fun p hp=>I.pin p (List.mem_append_right _ (List.mem_append_left _ hp))
theorem ps_for {iter:Expr} {body:List Stmt} {wi:TI} {g:TG} {tb:TS} {pos:Pos} (hp:PassesOwn (model X.prog X.w) X.A X.env X.xe) (hc:X.calm=true) (hi:PI X tg iter wi) (hg:PG X tg g) (hb:PSs X body tb)
  (hs:∀ x,foldedSetIterable iter X.env x=pure x:=by intro _; rfl):PS X (.For tg iter body [] pos) (tFor wi g tb):=by
 intro pins s σ H D I h
 refine wpAny_For (thn (hi pins s σ H _ I h) fun v s1 h1=>thn h1 fun itv s2 h2=>?_) hs
 obtain ⟨it,fp,tn,J,H2,e,I2,T,st2,f2,W,⟨m0,w0⟩,turn⟩:=h2
 subst e
 have stat:∀ {H':Hp},(∀ b ∈ fp,H' b=none)→∀ b ∈ fp,FpOk X pins H' b:=fun hn b hb=>⟨hn b hb,(f2 b hb).2⟩
 refine codeAny_forLoop_any (fun n s'=>∃ i σ' H',Inv X pins σ' H' s'∧tn i s'.heap∧(∀ b ∈ fp,H' b=none)∧W i n σ' H') ?_ m0 ⟨0,σ,H2,I2,st2,fun b hb=>(f2 b hb).1,w0⟩
 rintro n s3 ⟨i,σ3,H3,I3,st3,fr3,w3⟩
 rcases turn i n σ3 H3 w3 with ⟨stop,qn⟩ | ⟨go,N,hN,step⟩
 ·refine wpAny_passesOwn hp (thn (T.done X rfl rfl rfl hc i pins s3 σ3 H3 X.xe I3 (stat fr3) st3 stop) fun r s4 ⟨hr,I4⟩=>?_)
  subst hr
  exact wpAny_execs_nil ⟨σ3,H3,I4,qn⟩
 ·refine wpAny_passesOwn hp (thn (T.item X rfl rfl rfl hc i pins s3 σ3 H3 X.xe I3 (stat fr3) st3 go) fun r s4 ⟨u,hr,h4⟩=>?_)
  subst hr
  refine wpAny_passesOwn hp (thn h4 fun _ s5 ⟨x,H5,I5,r5,y5,st5,fr5⟩=>?_)
  have I5':=I5.pinned (stat fr5) (T.obj _ _ st5)
  refine wpAny_passesOwn hp (thn (hg _ s5 σ3 H5 x u _ I5' r5 (step x H5 y5)) fun _ s6 ⟨σ6,H6,I6,q6⟩=>?_)
  refine wpAny_passesOwn hp (thn (hb _ s6 σ6 H6 _ I6 q6) fun f s7 q7=>?_)
  have again:∀ {σ7:St} {H7:Hp},Inv X (pins++pinsAt fp s5.heap) σ7 H7 s7→N σ7 H7→∃ m,m < n∧∃ i σ' H',Inv X pins σ' H' s7∧tn i s7.heap∧(∀ b ∈ fp,H' b=none)∧W i m σ' H':=fun {σ7 H7} I7 n7=>by
   obtain ⟨m',hm,w7⟩:=hN σ7 H7 n7
   refine ⟨m',hm,i+1,σ7,H7,I7.unpinned,T.keep _ _ _ st5 fun b hb o e=>(I7.pin (b,o) (List.mem_append_right _ (List.mem_append_right _ (mem_pinsAt hb e)))).1,fun b hb=>?_,w7⟩
   obtain ⟨o,e,d⟩:=T.obj _ _ st5 b hb
   exact (I7.pin (b,o) (List.mem_append_right _ (List.mem_append_right _ (mem_pinsAt hb e)))).2.1
  cases f with
  | next=>obtain ⟨σ7,H7,I7,n7⟩:=q7; exact again I7 n7
  | cont=>obtain ⟨σ7,H7,I7,n7⟩:=q7; exact again I7 n7
  | brk=>obtain ⟨σ7,H7,I7,q7⟩:=q7; exact ⟨σ7,H7,I7.unpinned,q7⟩
  | ret v=>obtain ⟨x7,σ7,H7,I7,r7,q7⟩:=q7; exact ⟨x7,σ7,H7,I7.unpinned,r7,q7⟩
end
theorem for_list {K:PySem.W.Frag} {a:Addr} {xs:List V} {g:TG} {tb:TS} {D:Ends} {σ:St} {H:Hp} (Pv:Nat→St→Hp→Prop) (h0:Pv 0 σ H) (hl:∀ i σ H,i≤xs.length→Pv i σ H→SqL K H a xs)
  (hs:∀ i x σ H,xs[i]? = some x→Pv i σ H→g x σ H fun σ2 H2=>tb { D with nx:=Pv (i+1),ct:=Pv (i+1),bk:=D.nx } σ2 H2) (hd:∀ σ H,Pv xs.length σ H→D.nx σ H) :
  ∃ W:Nat→Nat→St→Hp→Prop,(∃ m,W 0 m σ H)∧∀ i m σ H,W i m σ H →
   ((Itl K a).stop i H∧D.nx σ H) ∨ ((Itl K a).go i H∧∃ N:St→Hp→Prop,(∀ σ' H',N σ' H'→∃ m',m' < m∧W (i+1) m' σ' H')∧∀ x H',(Itl K a).yld i H x H'→g x σ H' fun σ2 H2=>tb { D with nx:=N,ct:=N,bk:=D.nx } σ2 H2):=by
 refine ⟨fun i m σ H=>m=xs.length - i∧i≤xs.length∧Pv i σ H,⟨xs.length,by simp,Nat.zero_le _,h0⟩,?_⟩
 rintro i m σ H ⟨rfl,hi,p⟩
 have q:=hl i σ H hi p
 by_cases hlt:i < xs.length
 ·refine .inr ⟨⟨xs,xs[i],q,by simp [hlt]⟩,Pv (i+1),fun σ' H' p'=>⟨xs.length - (i+1),by omega,rfl,hlt,p'⟩,fun x H' y=>?_⟩
  obtain ⟨e,y⟩:=y
  subst e
  exact hs i x σ _ (y xs q) p
 ·have e:i=xs.length:=by omega
  subst e
  exact .inl ⟨⟨xs,q,Nat.le_refl _⟩,hd σ H p⟩
theorem for_range {lo:Int} {n:Nat} {g:TG} {tb:TS} {D:Ends} {σ:St} {H:Hp} (Pv:Nat→St→Hp→Prop) (h0:Pv 0 σ H)
  (hs:∀ i σ H,i < n→Pv i σ H→g (.int (lo+i)) σ H fun σ2 H2=>tb { D with nx:=Pv (i+1),ct:=Pv (i+1),bk:=D.nx } σ2 H2) (hd:∀ σ H,Pv n σ H→D.nx σ H) :
  ∃ W:Nat→Nat→St→Hp→Prop,(∃ m,W 0 m σ H)∧∀ i m σ H,W i m σ H →
   ((Itr lo n).stop i H∧D.nx σ H) ∨ ((Itr lo n).go i H∧∃ N:St→Hp→Prop,(∀ σ' H',N σ' H'→∃ m',m' < m∧W (i+1) m' σ' H')∧∀ x H',(Itr lo n).yld i H x H'→g x σ H' fun σ2 H2=>tb { D with nx:=N,ct:=N,bk:=D.nx } σ2 H2):=by
 refine ⟨fun i m σ H=>m=n - i∧i≤n∧Pv i σ H,⟨n,by simp,Nat.zero_le _,h0⟩,?_⟩
 rintro i m σ H ⟨rfl,hi,p⟩
 by_cases hlt:i < n
 ·refine .inr ⟨hlt,Pv (i+1),fun σ' H' p'=>⟨n - (i+1),by omega,rfl,hlt,p'⟩,fun x H' y=>?_⟩
  obtain ⟨e,y⟩:=y
  subst e y
  exact hs i σ _ hlt p
 ·have e:i=n:=by omega
  subst e
  exact .inl ⟨Nat.le_refl _,hd σ H p⟩
theorem while_by {c:TT} {tb:TS} {D:Ends} {σ:St} {H:Hp} (Pv:St→Hp→Prop) (μ:St→Hp→Nat) (h0:Pv σ H)
  (hs:∀ σ H,Pv σ H→c σ H fun b H1=>if b=true then tb { D with nx:=fun σ' H'=>Pv σ' H'∧μ σ' H' < μ σ H,ct:=fun σ' H'=>Pv σ' H'∧μ σ' H' < μ σ H,bk:=D.nx } σ H1 else D.nx σ H1)
  (mono:∀ σ H Q Q',(∀ b H1,Q b H1→Q' b H1)→c σ H Q→c σ H Q'):tWhile c tb D σ H:=by
 refine ⟨fun m σ H=>m=μ σ H∧Pv σ H,⟨_,rfl,h0⟩,?_⟩
 rintro m σ H ⟨rfl,p⟩
 refine mono σ H _ _ (fun b H1 q=>?_) (hs σ H p)
 cases b with
 | true=>exact ⟨_,fun σ' H' ⟨p',l⟩=>⟨_,l,rfl,p'⟩,q⟩
 | false=>exact q
end L2
namespace L2
open PySem PySem.Spec PyProof.Rows
abbrev R2:=V→V→Hp→VK→Prop
def OpR (X:Cx) (f:Value→Value→Sem Value) (r:R2):Prop :=
 ∀ (pins:List (Addr × Obj)) (s:Shared) (σ:St) (H:Hp) (x y:V) (v u:Value) (Q:VK),Inv X pins σ H s→RelV x v→RelV y u→r x y H Q →
  wpAny (model X.prog X.w) X.A (f v u) (EP X pins σ Q) X.xe s
def UnR (X:Cx) (f:Value→Sem Value) (r:V→Hp→VK→Prop):Prop :=
 ∀ (pins:List (Addr × Obj)) (s:Shared) (σ:St) (H:Hp) (x:V) (v:Value) (Q:VK),Inv X pins σ H s→RelV x v→r x H Q →
  wpAny (model X.prog X.w) X.A (f v) (EP X pins σ Q) X.xe s
def CallR (X:Cx) (f:Value) (r:List V→Hp→VK→Prop):Prop :=
 ∀ (pins:List (Addr × Obj)) (s:Shared) (σ:St) (H:Hp) (xs:List V) (us:List Value) (Q:VK),Inv X pins σ H s→Vals xs us→r xs H Q →
  wpAny (model X.prog X.w) X.A (call f us) (EP X pins σ Q) X.xe s
def TruR (X:Cx) (r:V→Hp→(Bool→Hp→Prop)→Prop):Prop :=
 ∀ (pins:List (Addr × Obj)) (s:Shared) (σ:St) (H:Hp) (x:V) (v:Value) (Q:Bool→Hp→Prop),Inv X pins σ H s→RelV x v→r x H Q →
  wpAny (model X.prog X.w) X.A (truthy v) (TP X pins σ Q) X.xe s
def tOp (r:R2) (ta tb:TE):TE:=fun σ H Q=>ta σ H fun x H1=>tb σ H1 fun y H2=>r x y H2 Q
def tUn (r:V→Hp→VK→Prop) (ta:TE):TE:=fun σ H Q=>ta σ H fun x H1=>r x H1 Q
def rI (C:Int→Int→Prop) (g:Int→Int→V):R2:=fun x y H Q=>∃ i j,x=.int i∧y=.int j∧C i j∧Q (g i j) H
def rI0 (g:Int→Int→V):R2:=fun x y H Q=>∃ i j,x=.int i∧y=.int j∧Q (g i j) H
def rU (g:Int→V):V→Hp→VK→Prop:=fun x H Q=>∃ i,x=.int i∧Q (g i) H
section
variable {X:Cx} {a b c:Expr} {ta tb tc:TE} {pos:Pos}
theorem binT (ha:PE X a ta) (hb:PE X b tb) {pins:List (Addr × Obj)} {s:Shared} {σ:St} {H:Hp} {R:V→V→Hp→Prop} (I:Inv X pins σ H s)
  (h:ta σ H fun x H1=>tb σ H1 fun y H2=>R x y H2) {Q:Value→Shared→Prop} {f:Value→Value→Sem Value}
  (hf:∀ v u s2 x y H2,Inv X pins σ H2 s2→RelV x v→RelV y u→R x y H2→wpAny (model X.prog X.w) X.A (f v u) Q X.xe s2) :
  wpAny (model X.prog X.w) X.A (eval a X.env) (fun v s₁=>wpAny (model X.prog X.w) X.A (eval b X.env) (fun u s₂=>wpAny (model X.prog X.w) X.A (f v u) Q X.xe s₂) X.xe s₁) X.xe s:=by
 refine thn (ha pins s σ H _ I h) fun v s1 ⟨x,H1,I1,r1,q1⟩=>?_
 refine thn (hb pins s1 σ H1 _ I1 q1) fun u s2 ⟨y,H2,I2,r2,q2⟩=>?_
 exact hf v u s2 x y H2 I2 r1 r2 q2
theorem pe_op {op:Operator} {r:R2} (ho:OpR X (binaryOp op) r) (ha:PE X a ta) (hb:PE X b tb):PE X (.BinOp a op b pos) (tOp r ta tb):=by
 intro pins s σ H Q I h
 exact wpAny_BinOp (binT ha hb I h fun v u s2 x y H2 I2 rx ry q=>ho pins s2 σ H2 x y v u Q I2 rx ry q)
theorem pe_un {op:UnaryOp} {r:V→Hp→VK→Prop} (ho:UnR X (unaryOp op) r) (ha:PE X a ta):PE X (.UnaryOp op a pos) (tUn r ta):=by
 intro pins s σ H Q I h
 exact UnaryOp_ (thn (ha pins s σ H _ I h) fun v s1 ⟨x,H1,I1,r1,q1⟩=>ho pins s1 σ H1 x v Q I1 r1 q1)
theorem opI {f:Value→Value→Sem Value} {C:Int→Int→Prop} {g:Int→Int→Int}
  (rule:∀ (i j:Int) (t u:Tok) (s:Shared) (Q:Value→Shared→Prop) (E:Value→Shared→Prop),C i j→Q (.int (g i j) s.toks) { s with toks:=s.toks+1 }→wpAny (model X.prog X.w) X.A (f (.int i t) (.int j u)) Q E s) :
  OpR X f (rI C fun i j=>.int (g i j)):=by
 intro pins s σ H x y v u Q I rx ry h
 obtain ⟨i,j,rfl,rfl,hc,q⟩:=h
 obtain ⟨t,rfl⟩:=rx
 obtain ⟨t',rfl⟩:=ry
 exact rule i j t t' s _ _ hc ⟨.int (g i j),H,I.tok _,⟨_,rfl⟩,q⟩
theorem opI0 {f:Value→Value→Sem Value} {g:Int→Int→Int}
  (rule:∀ (i j:Int) (t u:Tok) (s:Shared) (Q:Value→Shared→Prop) (E:Value→Shared→Prop),Q (.int (g i j) s.toks) { s with toks:=s.toks+1 }→wpAny (model X.prog X.w) X.A (f (.int i t) (.int j u)) Q E s) :
  OpR X f (rI0 fun i j=>.int (g i j)):=by
 intro pins s σ H x y v u Q I rx ry h
 obtain ⟨i,j,rfl,rfl,q⟩:=h
 obtain ⟨t,rfl⟩:=rx
 obtain ⟨t',rfl⟩:=ry
 exact rule i j t t' s _ _ ⟨.int (g i j),H,I.tok _,⟨_,rfl⟩,q⟩
theorem opB0 {f:Value→Value→Sem Value} {g:Int→Int→Bool}
  (rule:∀ (i j:Int) (t u:Tok) (s:Shared) (Q:Value→Shared→Prop) (E:Value→Shared→Prop),Q (.bool (g i j)) s→wpAny (model X.prog X.w) X.A (f (.int i t) (.int j u)) Q E s) :
  OpR X f (rI0 fun i j=>.bl (g i j)):=by
 intro pins s σ H x y v u Q I rx ry h
 obtain ⟨i,j,rfl,rfl,q⟩:=h
 obtain ⟨t,rfl⟩:=rx
 obtain ⟨t',rfl⟩:=ry
 exact rule i j t t' s _ _ ⟨.bl (g i j),H,I,rfl,q⟩
def CDiv (i j:Int):Prop:=0 < j∧j < 1073741824
def CPow (i j:Int):Prop:=0≤j∧j≤1000000∧i.natAbs < 2 ^ 64
def CMul (i j:Int):Prop:=(-(2 ^ 64) < i∧i < 2 ^ 64) ∨ (-(2 ^ 64) < j∧j < 2 ^ 64)
theorem CMul.ok {i j:Int} (h:CMul i j):IntMulOk i j:=by
 rcases h with ⟨h1,h2⟩ | ⟨h1,h2⟩
 ·exact .of_left (intBits_le_64 h1 h2)
 ·exact .of_right (intBits_le_64 h1 h2)
theorem op_add:OpR X (binaryOp .Add) (rI0 fun i j=>.int (i+j)):=opI0 fun _ _ _ _ _ _ _ q=>add_int q
theorem op_sub:OpR X (binaryOp .Sub) (rI0 fun i j=>.int (i - j)):=opI0 fun _ _ _ _ _ _ _ q=>sub_int q
theorem op_mul:OpR X (binaryOp .Mult) (rI CMul fun i j=>.int (i * j)):=opI fun _ _ _ _ _ _ _ hc q=>mul_int q hc.ok
theorem op_fdiv:OpR X (binaryOp .FloorDiv) (rI CDiv fun i j=>.int (i / j)):=opI fun i j _ _ _ _ _ hc q=>by
 have h1:(0:Int) < j:=hc.1
 have h2:j < 1073741824:=hc.2
 exact floordiv_int (by omega) (by rw [Int.fdiv_eq_ediv_of_nonneg i (by omega)]; exact q) (.inl (PyProof.noPylong_small (by omega)))
theorem op_mod:OpR X (binaryOp .Mod) (rI (fun _ j=>0 < j) fun i j=>.int (i % j)):=opI fun i j _ _ _ _ _ hc q=>by
 have h1:(0:Int) < j:=hc
 exact mod_int' (by omega) (by rw [Int.fmod_eq_emod_of_nonneg i (by omega)]; exact q)
theorem op_modN:OpR X (binaryOp .Mod) (rI (fun _ j=>j≠0) fun i j=>.int (i.fmod j)):=opI fun _ _ _ _ _ _ _ hc q=>mod_int' hc q
theorem op_pow:OpR X (binaryOp .Pow) (rI CPow fun i j=>.int (i ^ j.toNat)):=opI fun _ _ _ _ _ _ _ hc q=>pow_int_small hc.1 hc.2.1 hc.2.2 q
theorem unI {f:Value→Sem Value} {g:Int→Int}
  (rule:∀ (i:Int) (t:Tok) (s:Shared) (Q:Value→Shared→Prop) (E:Value→Shared→Prop),Q (.int (g i) s.toks) { s with toks:=s.toks+1 }→wpAny (model X.prog X.w) X.A (f (.int i t)) Q E s) :
  UnR X f (rU fun i=>.int (g i)):=by
 intro pins s σ H x v Q I rx h
 obtain ⟨i,rfl,q⟩:=h
 obtain ⟨t,rfl⟩:=rx
 exact rule i t s _ _ ⟨.int (g i),H,I.tok _,⟨_,rfl⟩,q⟩
theorem un_neg:UnR X (unaryOp .USub) (rU fun i=>.int (-i)):=unI fun _ _ _ _ _ q=>neg_int q
end
def scal:V→V→Bool
 | .non,.non=>true | .non,.int _=>true | .int _,.non=>true | .non,.bl _=>true | .bl _,.non=>true | .non,.str _=>true | .str _,.non=>true
 | .int _,.int _=>true | .bl _,.bl _=>true | .str _,.str _=>true | .byt _,.byt _=>true
 | .int _,.str _=>true | .str _,.int _=>true | .bl _,.str _=>true | .str _,.bl _=>true
 | _,_=>false
def rEq:R2:=fun x y H Q=>scal x y=true∧Q (.bl (decide (x=y))) H
def rNe:R2:=fun x y H Q=>scal x y=true∧Q (.bl (!decide (x=y))) H
theorem dec_int {i j:Int}:decide (V.int i=V.int j)=(i == j):=by
 rw [Bool.eq_iff_iff]
 simp
theorem dec_bl {i j:Bool}:decide (V.bl i=V.bl j)=(i == j):=by
 rw [Bool.eq_iff_iff]
 simp
theorem dec_str {i j:Str}:decide (V.str i=V.str j)=(i == j):=by
 rw [Bool.eq_iff_iff]
 simp
theorem dec_byt {i j:Array UInt8}:decide (V.byt i=V.byt j)=(i.toList == j.toList):=by
 rw [Bool.eq_iff_iff]
 cases i
 cases j
 simp
section
variable {X:Cx} {a b c:Expr} {ta tb tc:TE} {pos:Pos}
theorem fin_bl {pins:List (Addr × Obj)} {σ:St} {H:Hp} {s:Shared} {Q:VK} {k k':Bool} (I:Inv X pins σ H s) (q:Q (.bl k) H) (e:k=k'):EP X pins σ Q (.bool k') s:=by
 subst e
 exact ⟨.bl k,H,I,rfl,q⟩
theorem op_eq:OpR X (compareOp .Eq) rEq:=by
 intro pins s σ H x y v u Q I rx ry h
 obtain ⟨hs,q⟩:=h
 cases x with
 | non =>
  cases rx
  cases y with
  | non=>cases ry; exact PySem.EqNone.eq_none_none (fin_bl I q (by simp))
  | bl j=>cases ry; exact PySem.EqNone.eq_none_bool (fin_bl I q (by simp))
  | int j=>obtain ⟨t',rfl⟩:=ry; exact PySem.EqNone.eq_none_int (fin_bl I q (by simp))
  | str j=>obtain ⟨t',rfl⟩:=ry; exact PySem.EqNone.eq_none_str (fin_bl I q (by simp))
  | _=>exact absurd (show false=true from hs) Bool.false_ne_true
 | bl i =>
  cases rx
  cases y with
  | non=>cases ry; exact PySem.EqNone.eq_bool_none (fin_bl I q (by simp))
  | bl j=>cases ry; exact eq_bool (fin_bl I q dec_bl)
  | str j=>obtain ⟨t',rfl⟩:=ry; exact PySem.EqMixed.eq_bool_str (fin_bl I q (by simp))
  | _=>exact absurd (show false=true from hs) Bool.false_ne_true
 | int i =>
  obtain ⟨t,rfl⟩:=rx
  cases y with
  | non=>cases ry; exact PySem.EqNone.eq_int_none (fin_bl I q (by simp))
  | int j=>obtain ⟨t',rfl⟩:=ry; exact eq_int (fin_bl I q dec_int)
  | str j=>obtain ⟨t',rfl⟩:=ry; exact PySem.EqMixed.eq_int_str (fin_bl I q (by simp))
  | _=>exact absurd (show false=true from hs) Bool.false_ne_true
 | str i =>
  obtain ⟨t,rfl⟩:=rx
  cases y with
  | non=>cases ry; exact PySem.EqNone.eq_str_none (fin_bl I q (by simp))
  | bl j=>cases ry; exact PySem.EqMixed.eq_str_bool (fin_bl I q (by simp))
  | int j=>obtain ⟨t',rfl⟩:=ry; exact PySem.EqMixed.eq_str_int (fin_bl I q (by simp))
  | str j=>obtain ⟨t',rfl⟩:=ry; exact eq_str (fin_bl I q dec_str)
  | _=>exact absurd (show false=true from hs) Bool.false_ne_true
 | byt i =>
  obtain ⟨t,rfl⟩:=rx
  cases y with
  | byt j=>obtain ⟨t',rfl⟩:=ry; exact PySem.W.eq_bytes (fin_bl I q dec_byt)
  | _=>exact absurd (show false=true from hs) Bool.false_ne_true
 | _=>cases y <;> exact absurd (show false=true from hs) Bool.false_ne_true
theorem op_ne:OpR X (compareOp .NotEq) rNe:=by
 intro pins s σ H x y v u Q I rx ry h
 obtain ⟨hs,q⟩:=h
 cases x with
 | non =>
  cases rx
  cases y with
  | non=>cases ry; exact PySem.EqNone.ne_none_none (fin_bl I q (by simp))
  | bl j=>cases ry; exact PySem.EqNone.ne_none_bool (fin_bl I q (by simp))
  | int j=>obtain ⟨t',rfl⟩:=ry; exact PySem.EqNone.ne_none_int (fin_bl I q (by simp))
  | str j=>obtain ⟨t',rfl⟩:=ry; exact PySem.EqNone.ne_none_str (fin_bl I q (by simp))
  | _=>exact absurd (show false=true from hs) Bool.false_ne_true
 | bl i =>
  cases rx
  cases y with
  | non=>cases ry; exact PySem.EqNone.ne_bool_none (fin_bl I q (by simp))
  | bl j=>cases ry; exact ne_bool (fin_bl I q (congrArg not dec_bl))
  | str j=>obtain ⟨t',rfl⟩:=ry; exact PySem.EqMixed.ne_bool_str (fin_bl I q (by simp))
  | _=>exact absurd (show false=true from hs) Bool.false_ne_true
 | int i =>
  obtain ⟨t,rfl⟩:=rx
  cases y with
  | non=>cases ry; exact PySem.EqNone.ne_int_none (fin_bl I q (by simp))
  | int j=>obtain ⟨t',rfl⟩:=ry; exact ne_int (fin_bl I q (congrArg not dec_int))
  | str j=>obtain ⟨t',rfl⟩:=ry; exact PySem.EqMixed.ne_int_str (fin_bl I q (by simp))
  | _=>exact absurd (show false=true from hs) Bool.false_ne_true
 | str i =>
  obtain ⟨t,rfl⟩:=rx
  cases y with
  | non=>cases ry; exact PySem.EqNone.ne_str_none (fin_bl I q (by simp))
  | bl j=>cases ry; exact PySem.EqMixed.ne_str_bool (fin_bl I q (by simp))
  | int j=>obtain ⟨t',rfl⟩:=ry; exact PySem.EqMixed.ne_str_int (fin_bl I q (by simp))
  | str j=>obtain ⟨t',rfl⟩:=ry; exact ne_str (fin_bl I q (congrArg not dec_str))
  | _=>exact absurd (show false=true from hs) Bool.false_ne_true
 | byt i =>
  obtain ⟨t,rfl⟩:=rx
  cases y with
  | byt j=>obtain ⟨t',rfl⟩:=ry; exact PySem.W.ne_bytes (fin_bl I q (congrArg not dec_byt))
  | _=>exact absurd (show false=true from hs) Bool.false_ne_true
 | _=>cases y <;> exact absurd (show false=true from hs) Bool.false_ne_true
theorem op_lt:OpR X (compareOp .Lt) (rI0 fun i j=>.bl (decide (i < j))):=opB0 fun _ _ _ _ _ _ _ q=>lt_int q
theorem op_gt:OpR X (compareOp .Gt) (rI0 fun i j=>.bl (decide (j < i))):=opB0 fun _ _ _ _ _ _ _ q=>gt_int q
theorem nomark (b:Expr) {op:CmpOp} (h:op≠.In:=by decide) (h2:op≠.NotIn:=by decide):behindInMarks op b=false:=by
 have e1:(op == CmpOp.In)=false:=by cases op <;> first | rfl | exact absurd rfl h
 have e2:(op == CmpOp.NotIn)=false:=by cases op <;> first | rfl | exact absurd rfl h2
 cases b <;> simp [behindInMarks,e1,e2]
theorem pe_cmpR {op:CmpOp} {r:R2} (ho:OpR X (compareOp op) r) (ha:PE X a ta) (hb:PE X b tb) (hm:behindInMarks op b=false):PE X (.Compare a [op] [b] pos) (tOp r ta tb):=by
 intro pins s σ H Q I h
 exact wpAny_Compare1 (binT ha hb I h fun v u s2 x y H2 I2 rx ry q=>ho pins s2 σ H2 x y v u Q I2 rx ry q) hm
def tTest (t:TE):TT:=fun σ H Q=>t σ H fun x H'=>∃ k,x=.bl k∧Q k H'
theorem pt_cmpR {op:CmpOp} {r:R2} (ho:OpR X (compareOp op) r) (ha:PE X a ta) (hb:PE X b tb) (hm:behindInMarks op b=false):PT X (.Compare a [op] [b] pos) (tTest (tOp r ta tb)):=by
 intro pins s σ H Q I h
 refine wpAny_isTrue_Compare1 (thn (ha pins s σ H _ I h) fun v s1 ⟨x,H1,I1,r1,q1⟩=>thn (hb pins s1 σ H1 _ I1 q1) fun u s2 ⟨y,H2,I2,r2,q2⟩ =>
  thn (ho pins s2 σ H2 x y v u _ I2 r1 r2 q2) fun c s3 ⟨z,H3,I3,r3,k,e,q3⟩=>?_) hm
 subst e
 cases r3
 exact wpAny_truthy_bool ⟨H3,I3,q3⟩
def TruV (K:PySem.W.Frag) (x:V) (H:Hp) (k:Bool):Prop :=
 match x with
 | .non=>k=false
 | .bl b=>k=b
 | .int i=>k=(i != 0)
 | .str y=>y.length≤sizeLine∧k=((y.length:Int) != 0)
 | .byt y=>y.size≤sizeLine∧k=((y.size:Int) != 0)
 | .ref p=>(∃ xs,SqL K H p xs∧k=!xs.isEmpty) ∨ (∃ xs,SqT K H p xs∧k=!xs.isEmpty) ∨ ∃ kvs,H p=some (.dK kvs)∧k=!kvs.isEmpty
 | _=>False
theorem isEmpty_kv {κ:Type} {kvs:List (κ × V)} {vs:List (κ × Value)} (r:KV kvs vs):(!vs.isEmpty)=!kvs.isEmpty:=by
 cases r <;> rfl
theorem isEmpty_of {xs:List V} {its:List Value} (r:Vals xs its):(!its.toArray.isEmpty)=!xs.isEmpty:=by
 cases r <;> simp
theorem line63:(sizeLine:Nat) < 2 ^ 63:=by rw [sizeLine_eq]; decide
theorem tru_ok:TruR X (fun x H Q=>∃ k,TruV X.K x H k∧Q k H):=by
 intro pins s σ H x v Q I rx h
 obtain ⟨k,e,q⟩:=h
 have hl:=line63
 have hs:sizeLine=16777216:=sizeLine_eq
 cases x with
 | non =>
  cases rx
  have e':k=false:=e
  subst e'
  exact truthy_none ⟨H,I,q⟩
 | bl b =>
  cases rx
  have e':k=b:=e
  subst e'
  exact wpAny_truthy_bool ⟨H,I,q⟩
 | int i =>
  obtain ⟨t,rfl⟩:=rx
  have e':k=(i != 0):=e
  subst e'
  exact PySem.P.truthy_int ⟨H,I,q⟩
 | str y =>
  obtain ⟨t,rfl⟩:=rx
  obtain ⟨hy,e'⟩:y.length≤sizeLine∧k=((y.length:Int) != 0):=e
  subst e'
  exact PySem.P.truthy_str (by omega) ⟨H,I.tok _,q⟩
 | byt y =>
  obtain ⟨t,rfl⟩:=rx
  obtain ⟨hy,e'⟩:y.size≤sizeLine∧k=((y.size:Int) != 0):=e
  subst e'
  exact PySem.W.truthy_bytes (by omega) ⟨H,I.tok _,q⟩
 | ref p =>
  cases rx
  have e':(∃ xs,SqL X.K H p xs∧k=!xs.isEmpty) ∨ (∃ xs,SqT X.K H p xs∧k=!xs.isEmpty) ∨ ∃ kvs,H p=some (.dK kvs)∧k=!kvs.isEmpty:=e
  rcases e' with ⟨xs,hx,e'⟩ | ⟨xs,hx,e'⟩ | ⟨kvs,hx,e'⟩
  ·subst e'
   obtain ⟨its,r,pl,hz⟩:=I.list hx
   have hlen:=r.length
   exact wpAny_truthy_list pl.isList (by simp only [List.size_toArray]; omega) ⟨H,I.tok _,by rw [isEmpty_of r]; exact q⟩
  ·subst e'
   obtain ⟨its,r,pl,hz⟩:=I.tuple hx
   have hlen:=r.length
   exact truthy_tuple pl (by simp only [List.size_toArray]; omega) ⟨H,I.tok _,by rw [isEmpty_of r]; exact q⟩
  ·subst e'
   obtain ⟨hz,hS,vs,r,m⟩:kvs.length≤sizeLine∧(p == sysModules)=false∧∃ vs,KV kvs vs∧s.heap.DictOf (mixKind X.prog X.w) p vs:=I.hok p _ hx
   have hlen:kvs.length=vs.length:=Paired.length r
   exact wpAny_truthy_dict hS m (by omega) ⟨H,I.tok _,by rw [isEmpty_kv r]; exact q⟩
 | _=>exact (show False from e).elim
theorem pt_truth (ha:PE X a ta) (he:∀ whole,isTrue a X.env whole=(do let v ← whole; standAt a.pos; holding [v] (truthy v))) :
  PT X a (fun σ H Q=>ta σ H fun x H'=>∃ k,TruV X.K x H' k∧Q k H'):=by
 intro pins s σ H Q I h
 exact isTrue_plain (thn (ha pins s σ H _ I h) fun v s1 ⟨x,H1,I1,r1,q1⟩=>tru_ok pins s1 σ H1 x v Q I1 r1 q1) (he _)
theorem vals1 {x:V} {us:List Value} (r:Vals [x] us):∃ u,us=[u]∧RelV x u:=by
 cases r with
 | cons r1 r2=>cases r2; exact ⟨_,rfl,r1⟩
theorem vals2 {x y:V} {us:List Value} (r:Vals [x,y] us):∃ u w',us=[u,w']∧RelV x u∧RelV y w':=by
 cases r with
 | cons r1 r2 =>
  cases r2 with
  | cons r3 r4=>cases r4; exact ⟨_,_,rfl,r1,r3⟩
theorem call_abs:CallR X (.builtin "abs") (fun xs H Q=>∃ i,xs=[.int i]∧Q (.int (if i < 0 then -i else i)) H):=by
 intro pins s σ H xs us Q I r h
 obtain ⟨i,rfl,q⟩:=h
 obtain ⟨u,rfl,t,rfl⟩:=vals1 r
 exact call_abs_int fun u tk=>⟨.int (if i < 0 then -i else i),H,I.tok _,⟨_,rfl⟩,q⟩
theorem call_min2 (hc:X.calm=true):CallR X (.builtin "min") (fun xs H Q=>∃ i j,xs=[.int i,.int j]∧Q (.int (if j < i then j else i)) H):=by
 intro pins s σ H xs us Q I r h
 obtain ⟨i,j,rfl,q⟩:=h
 obtain ⟨u,w',rfl,⟨t,rfl⟩,⟨t',rfl⟩⟩:=vals2 r
 refine min_two_ints (I.ok.hd hc) fun h' tk k=>⟨_,H,I.kept k,?_,q⟩
 by_cases hj:j < i
 ·rw [if_pos hj,if_pos hj]; exact ⟨_,rfl⟩
 ·rw [if_neg hj,if_neg hj]; exact ⟨_,rfl⟩
theorem call_int1:CallR X (.type "int") (fun xs H Q=>(∃ i,xs=[.int i]∧Q (.int i) H) ∨ ∃ k,xs=[.bl k]∧Q (.int (if k then 1 else 0)) H):=by
 intro pins s σ H xs us Q I r h
 rcases h with ⟨i,rfl,q⟩ | ⟨k,rfl,q⟩
 ·obtain ⟨u,rfl,t,rfl⟩:=vals1 r
  exact call_int_int ⟨.int i,H,I,⟨_,rfl⟩,q⟩
 ·obtain ⟨u,rfl,r1⟩:=vals1 r
  cases r1
  exact call_int_bool ⟨.int (if k then 1 else 0),H,I.tok _,⟨_,rfl⟩,q⟩
end
end L2
namespace L2
open PySem PySem.Spec PyProof.Rows
section
variable {prog:Program} {w:World} {A:Around} {E:Value→Shared→Prop} {s:Shared} {K:PySem.W.Frag} {x dx C f:Addr} {mA:Str→Option Value} {name:Str} {v:Value}
end
section
variable {P:Program} {w:World} {H H':Hp} {h h':Heap} {a C dx:Addr} {fs fs':List (Str × V)}
end
section
variable {X:Cx} {pins:List (Addr × Obj)} {σ:St} {H:Hp} {s:Shared} {a C dx:Addr} {fs:List (Str × V)} {f:Str} {v:V} {A:Around} {E:Value→Shared→Prop}
end
section
variable {X:Cx} {o e value:Expr} {f:Str} {pos pos' tpos:Pos} {ta tv:TE}
end
section
variable {X:Cx} {pins:List (Addr × Obj)} {σ:St} {H:Hp} {s:Shared} {A:Around} {E:Value→Shared→Prop} {Q:Value→Shared→Prop} {c:Value} {b:Bool}
end
end L2
namespace L2
open PySem PySem.Spec PyProof.Rows
structure Room (k:Nat) (A:Around):Prop where
 hd:A.handled=none
 dp:A.depth+3 * k+5 < recursionLimit
 un:A.units+16 * k+200 < cLine
 gd:A.guards=some []
theorem Room.mono {j k:Nat} {A:Around} (r:Room k A) (h:j≤k):Room j A:=⟨r.hd,by have:=r.dp; omega,by have:=r.un; omega,r.gd⟩
theorem Room.deeper {k:Nat} {A:Around} (r:Room (k+1) A) (env:Env):Room k (A.deeper env) :=
 ⟨r.hd,by have:=r.dp; show A.depth+1+3 * k+5 < _; omega,by have:=r.un; show A.units+3+16 * k+200 < _; omega,r.gd⟩
theorem Room.depth {k:Nat} {A:Around} (r:Room k A):A.depth < recursionLimit:=by have:=r.dp; omega
theorem Room.units {k:Nat} {A:Around} (r:Room k A):A.units+64 < cLine:=by have:=r.un; omega
def tNil:TA:=fun _ H Q=>Q [] H
def tCons (ta:TE) (tr:TA):TA:=fun σ H Q=>ta σ H fun x H1=>tr σ H1 fun xs H2=>Q (x :: xs) H2
section
variable {X:Cx} {e:Expr} {es:List Expr} {te:TE} {t:TA} {pos:Pos}
theorem pa_nil:PA X [] tNil:=fun _ _ _ _ H Q I h=>Calls.spliced_nil ⟨[],H,I,.nil,h⟩
theorem pa_cons (ha:PE X e te) (hr:PA X es t) (hs:starEach (e :: es) X.env=(false,eval e X.env) :: starEach es X.env:=by rfl):PA X (e :: es) (tCons te t):=by
 intro pos pins s σ H Q I h
 rw [hs]
 show wpAny _ _ (spliced ((false,eval e X.env) :: backTo pos (starEach es X.env))) _ _ s
 refine Calls.spliced_cons (thn (ha pins s σ H _ I h) fun u s1 ⟨x,H1,I1,r1,q1⟩=>?_)
 exact thn (hr pos pins s1 σ H1 _ I1 q1) fun us s2 ⟨xs,H2,I2,r2,q2⟩=>⟨x :: xs,H2,I2,.cons r1 r2,q2⟩
def tTup (t:TA):TE:=fun σ H Q=>t σ H fun xs H1=>xs.length≤sizeLine∧∀ p,H1 p=none→Q (.ref p) (upd H1 p (.tup xs))
def tLst (t:TA):TE:=fun σ H Q=>t σ H fun xs H1=>xs.length≤sizeLine∧∀ p,H1 p=none→Q (.ref p) (upd H1 p (.lst xs))
theorem pe_tup {x1} (h:PA X es t):PE X (.Tuple es x1 pos) (tTup t):=by
 intro pins s σ H Q I hq
 refine wpAny_Tuple_spliced (thn (h pos pins s σ H _ I hq) fun us s1 ⟨xs,H1,I1,r,z,q⟩=>⟨by rw [←r.length]; exact z,?_⟩)
 have hf:H1 s1.heap.objs.size=none:=I1.hok.fresh (Nat.le_refl _)
 refine ⟨.ref s1.heap.objs.size,upd H1 s1.heap.objs.size (.tup xs),I1.laid (t':=s1.toks) (fun b u e=>Heap.get?_push_of_some _ e) (Nat.le_refl _) ?_,rfl,q _ hf⟩
 exact ⟨z,us,r,⟨_,Heap.get?_push_size _ rfl,rfl,_,rfl⟩⟩
theorem pe_lst (h:PA X es t):PE X (.List es pos) (tLst t):=by
 intro pins s σ H Q I hq
 refine wpAny_List_spliced (thn (h pos pins s σ H _ I hq) fun us s1 ⟨xs,H1,I1,r,z,q⟩=>⟨by rw [←r.length]; exact z,?_⟩)
 have hf:H1 s1.heap.objs.size=none:=I1.hok.fresh (Nat.le_refl _)
 refine ⟨.ref s1.heap.objs.size,upd H1 s1.heap.objs.size (.lst xs),I1.laid (t':=s1.toks) (fun b u e=>Heap.get?_push_of_some _ e) (Nat.le_refl _) ?_,rfl,q _ hf⟩
 exact ⟨z,us,0,r,Heap.get?_push_size _ rfl⟩
end
abbrev Sp:=List V→Hp→VK→XK→Prop
abbrev CXT:=List Env→Hp→Shared→XK→Value→Shared→Prop
structure Env0 (P:Program) (w:World) (K:PySem.W.Frag) (mg:Str→Option Value) (base:Heap) (A:Around) (outer:List Env) (s:Shared) (H:Hp):Prop where
 frames:A.frames=some outer
 mod:Mod K mg base
 bs:∀ b o,base.get? b=some o→s.heap.get? b=some o∧H b=none
 bsz:base.objs.size≤s.heap.objs.size
 funs:s.heap.FunFrames base outer
 frf:∀ b ∈ frs outer,H b=none
 hok:HOk P w H s.heap
 bare:AllBare s.gens
def CE (outer:List Env) (P:Program) (w:World) (H:Hp) (s:Shared) (Q:VK) (u:Value) (s':Shared):Prop :=
 ∃ v H',s'.os=s.os∧AllBare s'.gens∧Un (frs outer) [] H H' s.heap s'.heap∧HOk P w H' s'.heap∧RelV v u∧Q v H'
def CR (CX:CXT) (outer:List Env) (P:Program) (w:World) (H:Hp) (s:Shared) (Q:VK) (E:XK) (r:Result) (s':Shared):Prop :=
 match r with
 | .ok (.ret u)=>CE outer P w H s Q u s'
 | .ok _=>False
 | .error e=>CX outer H s E e s'
structure FnOk (P:Program) (w:World) (K:PySem.W.Frag) (mg:Str→Option Value) (base:Heap) (CX:CXT) (k:Nat) (f:Addr) (fd:FuncData) (ps:List Str) (sp:Sp):Prop where
 len:∀ vs H Q E,sp vs H Q E→vs.length=ps.length
 run:∀ (A:Around) (outer:List Env) (s:Shared) (H:Hp) (args:Args) (us:List Value) (vs:List V) (Q:VK) (E:XK),Room k A→Env0 P w K mg base A outer s H→BindsTo s fd args (ps.zip us)→Vals vs us→sp vs H Q E →
  codeAny (model P w) A (.call (.ref f) args) (CR CX outer P w H s Q E) s
section
variable {X:Cx} {pins:List (Addr × Obj)} {σ:St} {H:Hp} {s s':Shared}
theorem Inv.env0 (I:Inv X pins σ H s):Env0 X.prog X.w X.K X.mg X.base X.A X.stack s H :=
 ⟨I.ok.frames,I.ok.mod,I.bs,Nat.le_trans I.ok.bsz I.sz,I.stack,I.stkFree,I.hok,I.bare⟩
theorem Inv.after {Q:VK} {u:Value} (I:Inv X pins σ H s) (h:CE X.stack X.prog X.w H s Q u s'):EP X pins σ Q u s':=by
 obtain ⟨v,H',os,bare,un,hok,r,q⟩:=h
 obtain ⟨hh,g,d,t,os'⟩:=s'
 obtain rfl:os'=s.os:=os
 exact ⟨v,H',I.call (h':=hh) (g':=g) (d':=d) (t':=t) (ch:=[]) un hok bare (fun b z=>absurd z (by simp)),r,q⟩
end
def tCall (sp:Sp) (dvs:List V) (E:XK) (t:TA):TE:=fun σ H Q=>t σ H fun vs H1=>sp (vs++dvs) H1 Q E
def Binds (K:PySem.W.Frag) (fd:FuncData) (ps:List Str) (ds:List Value):Prop :=
 ∀ (s:Shared) (us:List Value),K.In s.heap→(us++ds).length=ps.length→BindsTo s fd ⟨us,[]⟩ (ps.zip (us++ds))
theorem Binds.all {K:PySem.W.Frag} {fd:FuncData} {ps:List Str} (h:∀ us:List Value,us.length=ps.length→bindArgs fd ⟨us,[]⟩=pure (ps.zip us)):Binds K fd ps []:=fun s us _ hl=>by
 rw [List.append_nil] at hl ⊢
 exact .of_eq (h us hl)
def Passes (CX:CXT) (X:Cx) (E:XK):Prop:=∀ (pins:List (Addr × Obj)) (σ:St) (H:Hp) (s:Shared) (e:Value) (s':Shared),Inv X pins σ H s→CX X.stack H s E e s'→X.xe e s'
section
variable {X:Cx} {CX:CXT} {k:Nat} {f C:Addr} {fd:FuncData} {ps:List Str} {sp:Sp} {dvs:List V} {ds:List Value} {E:XK} {x m:Str} {p pos apos:Pos} {e o:Expr} {es:List Expr} {ta:TE} {t:TA}
theorem run_fn {pins:List (Addr × Obj)} {σ:St} {H:Hp} {s:Shared} {Q:VK} {us:List Value} {vs:List V} (F:FnOk X.prog X.w X.K X.mg X.base CX k f fd ps sp) (hr:Room k X.A) (hb:Binds X.K fd ps ds) (hd:Vals dvs ds) (hx:Passes CX X E)
  (I:Inv X pins σ H s) (r:Vals vs us) (h:sp (vs++dvs) H Q E):wpAny (model X.prog X.w) X.A (call (.ref f) us) (EP X pins σ Q) X.xe s:=by
 have r2:Vals (vs++dvs) (us++ds):=r.append hd
 have hl:(us++ds).length=ps.length:=by rw [←r2.length]; exact F.len _ _ _ _ h
 refine wpAny_call (codeAny_mono (F.run X.A X.stack s H ⟨us,[]⟩ (us++ds) (vs++dvs) Q E hr I.env0 (hb s us I.kIn hl) r2 h) fun r s' hq=>?_)
 cases r with
 | error e=>exact hx pins σ H s e s' I hq
 | ok fl =>
  cases fl with
  | ret u=>exact I.after hq
  | next=>exact False.elim hq
  | brk=>exact False.elim hq
  | cont=>exact False.elim hq
theorem pe_call (F:FnOk X.prog X.w X.K X.mg X.base CX k f fd ps sp) (hr:Room k X.A) (hg:Gl X x) (hm:X.mg x=some (.ref f)) (hk:PySem.W.keepIn X.K (.ref f)=true) (hb:Binds X.K fd ps ds) (hd:Vals dvs ds) (hx:Passes CX X E)
  (ha:PA X (e :: es) t) (hdb:(x == ("__debug__" : Str))=false:=by decide) (he:starEach (e :: es) X.env=(false,eval e X.env) :: starEach es X.env:=by rfl) (hpl:(backTo pos (starEach es X.env)).any (·.1)=false:=by rfl) :
  PE X (.Call (.Name x p) (e :: es) [] pos) (tCall sp dvs E t):=by
 intro pins s σ H Q I h
 refine wpAny_Call_Name_kw (ld_glob I hg hm ?_ hdb)
 refine PySem.W.callWith_K (h₀:=X.base) I.ok.mod.kin hk (thn (ha pos pins s σ H _ I h) fun us s1 ⟨vs,H1,I1,r,q⟩=>⟨I1.kIn,?_⟩) he hpl
 exact run_fn F hr hb hd hx I1 r q
structure Mk (K:PySem.W.Frag) (C f:Addr):Prop where
 makes:PySem.W.makesIn K C=true
 init:PySem.W.findIn K (.ref C) "__init__" = some (some (.ref f))
 fn:PySem.W.isFn K (.ref f)=true
 kp:PySem.W.keepIn K (.ref C)=true
end
section
variable {X:Cx} {CX:CXT} {k:Nat} {f C:Addr} {fd:FuncData} {ps ks:List Str} {sp:Sp} {E:XK} {x m:Str} {p pos apos kpos:Pos} {e o:Expr} {es:List Expr} {kws:List Keyword} {te ta:TE} {t tk:TA} {nm:Option Str}
variable {g:List Value→List Value→List Value} {gV:List V→List V→List V}
end
structure FnScope (N P:List Str) (sc:Scope):Prop where
 kind:sc.kind=.function
 co:sc.isCoroutine=false
 gen:sc.isGenerator=false
 nd:N.Nodup
 pre:N.take P.length=P
 par:∀ x ∈ P,sc.names.lookup x=some .local ∨ sc.names.lookup x=some .cell
 nofree:∀ y ∈ sc.names,y.2≠.free
theorem bindL_out {kindOf:Str→Option NameKind} {x:Str}:∀ {binds:List (Str × Value)} {m:Str→Option Value},(∀ v,(x,v) ∉ binds)→bindL kindOf binds m x=m x
 | [],_,_=>rfl
 | (n,v) :: r,m,h=>by
  unfold bindL
  rw [bindL_out fun w hw=>h w (List.mem_cons_of_mem _ hw)]
  split
  ·have:x≠n:=by rintro rfl; exact h v List.mem_cons_self
   simp [this]
  ·rfl
theorem bindC_out {kindOf:Str→Option NameKind} {x:Str}:∀ {binds:List (Str × Value)} {m:Str→Option Value},(∀ v,(x,v) ∉ binds)→bindC kindOf binds m x=m x
 | [],_,_=>rfl
 | (n,v) :: r,m,h=>by
  unfold bindC
  rw [bindC_out fun w hw=>h w (List.mem_cons_of_mem _ hw)]
  split
  ·rfl
  ·have:x≠n:=by rintro rfl; exact h v List.mem_cons_self
   simp [this]
theorem bindL_get {kindOf:Str→Option NameKind} {x:Str} {v:Value}:∀ {P:List Str} {vs:List Value} {i:Nat} {m:Str→Option Value},P.Nodup→P[i]? = some x→vs[i]? = some v→kindOf x=some .local →
  bindL kindOf (P.zip vs) m x=some v
 | [],_,_,_,_,h,_,_=>by simp at h
 | _ :: _,[],_,_,_,_,h,_=>by simp at h
 | p :: P,w :: vs,0,m,nd,h1,h2,hk=>by
  simp at h1 h2; subst h1; subst h2
  show bindL kindOf ((p,w) :: P.zip vs) m p=_
  unfold bindL
  rw [bindL_out fun v hv=>(List.nodup_cons.mp nd).1 (List.of_mem_zip hv).1,if_pos hk]
  simp
 | p :: P,w :: vs,i+1,m,nd,h1,h2,hk=>by
  show bindL kindOf ((p,w) :: P.zip vs) m x=_
  unfold bindL
  exact bindL_get (i:=i) (List.nodup_cons.mp nd).2 (by simpa using h1) (by simpa using h2) hk
theorem bindC_get {kindOf:Str→Option NameKind} {x:Str} {v:Value}:∀ {P:List Str} {vs:List Value} {i:Nat} {m:Str→Option Value},P.Nodup→P[i]? = some x→vs[i]? = some v→kindOf x≠some .local →
  bindC kindOf (P.zip vs) m x=some v
 | [],_,_,_,_,h,_,_=>by simp at h
 | _ :: _,[],_,_,_,_,h,_=>by simp at h
 | p :: P,w :: vs,0,m,nd,h1,h2,hk=>by
  simp at h1 h2; subst h1; subst h2
  show bindC kindOf ((p,w) :: P.zip vs) m p=_
  unfold bindC
  rw [bindC_out fun v hv=>(List.nodup_cons.mp nd).1 (List.of_mem_zip hv).1,if_neg hk]
  simp
 | p :: P,w :: vs,i+1,m,nd,h1,h2,hk=>by
  show bindC kindOf ((p,w) :: P.zip vs) m x=_
  unfold bindC
  exact bindC_get (i:=i) (List.nodup_cons.mp nd).2 (by simpa using h1) (by simpa using h2) hk
def start (N:List Str) (vs:List V):St:=vs.map some++List.replicate (N.length - vs.length) none
def cxOf (CX:CXT) (P:Program) (w:World) (K:PySem.W.Frag) (mg:Str→Option Value) (base:Heap) (N:List Str) (qual:Str) (scope:Scope) (f:Addr) (cd:Value) (A:Around) (outer:List Env) (s:Shared) (H:Hp) (E:XK):Cx where
 prog:=P
 w:=w
 K:=K
 mg:=mg
 base:=base
 A:=A.deeper (envOfC qual scope s.heap.objs.size f cd)
 N:=N
 s₀:=s
 H₀:=H
 env:=envOfC qual scope s.heap.objs.size f cd
 outer:=outer
 stack:=envOfC qual scope s.heap.objs.size f cd :: outer
 ex:=[]
 calm:=true
 fn:=fun _=>true
 pn:=[]
 xe:=fun e s'=>wpAny (model P w) (A.deeper (envOfC qual scope s.heap.objs.size f cd)) (leaving (envOfC qual scope s.heap.objs.size f cd) e) (fun _ s''=>CX outer H s E e s'') (fun e' s''=>CX outer H s E e' s'') s'
theorem cell_has {sc:Scope} {n:Nat} {x:Str} (h:sc.names.lookup x=some .cell):∃ c,(cellsFrom n sc.names []).lookup x=some c:=by
 have q:=PySem.W.cellsFrom_some sc.names n [] (.inl h)
 exact Option.isSome_iff_exists.mp q
theorem inv_start {CX:CXT} {P:Program} {w:World} {K:PySem.W.Frag} {mg:Str→Option Value} {base:Heap} {N ps:List Str} {qual:Str} {scope:Scope} {f:Addr} {cd:Value} {A:Around} {outer:List Env} {s s1:Shared} {H:Hp} {E:XK} {us:List Value} {vs:List V}
  (S:FnScope N ps scope) (hd:A.handled=none) (e0:Env0 P w K mg base A outer s H) (hl:vs.length=ps.length) (r:Vals vs us)
  (x:InCallC s s.heap.objs.size (bindL (envOfC qual scope s.heap.objs.size f cd).kindOf (ps.zip us) fun _=>none) (cellsFrom (s.heap.objs.size+1) scope.names []) (bindC (envOfC qual scope s.heap.objs.size f cd).kindOf (ps.zip us) fun _=>none) s1) :
  Inv (cxOf CX P w K mg base N qual scope f cd A outer s H E) [] (start N vs) H s1:=by
 have hpl:ps.length≤N.length:=by have:=congrArg List.length S.pre; rw [List.length_take] at this; omega
 obtain ⟨h1,tk,rfl,hk⟩:=x.done
 have noA:∀ b:Addr,b ∉ (cxOf CX P w K mg base N qual scope f cd A outer s H E).ex:=fun b z=>absurd (show b ∈ ([]:List Addr) from z) (by simp)
 refine ⟨⟨e0.mod,S.kind,rfl,rfl,Nat.le_refl _,fun y z c h1 h2=>?_,fun y hy=>?_,fun y c _ h=>?_,fun _=>hd,Around.frames_deeper e0.frames,.inr ⟨rfl,rfl⟩,fun b z=>absurd z (noA b),e0.bs,e0.bsz,fun b _ _=>noA b,fun b z=>absurd z (noA b),e0.funs,e0.frf⟩,
  rfl,e0.bare,Un.kept hk,⟨_,x.toInCall.ns,fun i y v h1 h2 h3=>?_⟩,fun y c h=>⟨_,x.cell y c h⟩,e0.hok.fresh (Nat.le_refl _),fun y c h=>?_,fun p hp=>absurd (show p ∈ ([]:List (Addr × Obj)) from hp) (by simp),e0.hok.kept hk,?_⟩
 ·exact name_of_addr x.apart (PySem.mem_of_lookup h1) (PySem.mem_of_lookup h2)
 ·have hy:scope.names.lookup y=some .cell ∨ scope.names.lookup y=some .free:=hy
  rcases hy with hy | hy
  ·exact cell_has hy
  ·exact absurd rfl (S.nofree _ (PySem.mem_of_lookup hy))
 ·exact Nat.le_of_lt (x.above y c (PySem.mem_of_lookup h))
 ·have hi:i < vs.length:=by
   unfold start at h2
   by_cases hi:i < vs.length
   ·exact hi
   ·rw [List.getElem?_append_right (by simpa using hi)] at h2
    rw [List.getElem?_replicate] at h2
    split at h2 <;> cases h2
  have ha:vs[i]? = some v:=by
   unfold start at h2
   rw [List.getElem?_append_left (by simpa using hi),List.getElem?_map] at h2
   cases e:vs[i]? with
   | none=>rw [e] at h2; cases h2
   | some a=>rw [e] at h2; cases h2; rfl
  obtain ⟨u,hu,rv⟩:=r.get ha
  have hp:ps[i]? = some y:=by
   rw [←S.pre,List.getElem?_take_of_lt (by omega)]; exact h1
  have ndP:ps.Nodup:=by rw [←S.pre]; exact S.nd.sublist (List.take_sublist _ _)
  refine ⟨u,rv,?_⟩
  rcases S.par y (List.mem_of_getElem? hp) with k | k
  ·exact .inl ⟨k,bindL_get ndP hp hu k⟩
  ·obtain ⟨c,e⟩:=cell_has (n:=s.heap.objs.size+1) k
   refine .inr ⟨.inl k,c,e,?_⟩
   have q:=x.cell y c e
   rw [bindC_get ndP hp hu (by show scope.names.lookup y≠_; rw [k]; decide)] at q
   exact q
 ·exact e0.hok.fresh (Nat.le_of_lt (x.above y c (PySem.mem_of_lookup h)))
 ·unfold start
  show _=N.length
  rw [List.length_append,List.length_map,List.length_replicate]
  omega
theorem fn_of {CX:CXT} {P:Program} {w:World} {K:PySem.W.Frag} {mg:Str→Option Value} {base:Heap} {k:Nat} {f:Addr} {name qual:Str} {params:Arguments} {body:List Stmt} {scope:Scope} {dV kV doc pm cdv ct oc:Value} {an od:Option Addr}
  {osl:Array (Option Value)} {N ps:List Str} {sp:Sp} (lk:K.lookup f=some ⟨oc,od,.func (PySem.W.fnOf name qual params body scope dV kV doc pm an cdv ct),osl⟩) (hcd:PySem.W.codeIn K cdv qual=true) (S:FnScope N ps scope)
  (len:∀ vs H Q E,sp vs H Q E→vs.length=ps.length)
  (hbody:∀ (A:Around) (outer:List Env) (s:Shared) (H:Hp) (vs:List V) (Q:VK) (E:XK),Room k (A.deeper (envOfC qual scope s.heap.objs.size f cdv))→sp vs H Q E →
   ∃ t,PSs (cxOf CX P w K mg base N qual scope f cdv A outer s H E) body t∧t { nx:=fun _ H'=>Q .non H',rt:=Q } (start N vs) H) :
  FnOk P w K mg base CX (k+1) f (PySem.W.fnOf name qual params body scope dV kV doc pm an cdv ct) ps sp:=by
 refine ⟨len,fun A outer s H args us vs Q E hr e0 hb r hsp=>?_⟩
 have hl:=len _ _ _ _ hsp
 have KX:K.In s.heap:=e0.mod.kin.keeps fun b o e=>(e0.bs b o e).1
 have lim:s.heap.NoLimit:=e0.mod.nolimit.keeps fun b o e=>(e0.bs b o e).1
 have hkind:∀ y ∈ ps.zip us,scope.names.lookup y.1=some .local ∨ (scope.names.lookup y.1=some .cell∧((cellsFrom (s.heap.objs.size+1) scope.names []).lookup y.1).isSome=true):=fun ⟨n,v⟩ hy=>by
  rcases S.par n (List.of_mem_zip hy).1 with q | q
  ·exact .inl q
  ·exact .inr ⟨q,PySem.W.cellsFrom_some _ _ _ (.inl q)⟩
 refine codeAny_call_function hr.depth (KX _ _ lk) rfl S.co S.gen rfl (PySem.W.codeRec_of KX hcd) (hb _ _ _ _ ?_)
 refine wpAny_newFunctionEnv_cells S.kind hkind fun env he s1 x=>?_
 subst he
 refine ⟨lim.keeps x.toInCall.keep,codeAny_func ?_⟩
 obtain ⟨t,ht,hq⟩:=hbody A outer s H vs Q E (hr.deeper _) hsp
 have I:Inv (cxOf CX P w K mg base N qual scope f cdv A outer s H E) [] (start N vs) H s1:=inv_start S hr.hd e0 hl r x
 refine wpAny_mono (ht [] s1 (start N vs) H _ I hq) (fun fl s' hs=>?_) fun e s' hs=>hs
 have fin:∀ {σ':St} {H':Hp} {v:V} {u:Value},Inv (cxOf CX P w K mg base N qual scope f cdv A outer s H E) [] σ' H' s'→RelV v u→Q v H'→CE outer P w H s Q u s' :=
  fun {σ' H' v u} J rv q=>⟨v,H',J.os,J.bare,J.base,J.hok,rv,q⟩
 cases fl with
 | ret u =>
  obtain ⟨v,σ',H',J,rv,q⟩:=hs
  exact fin J rv q
 | next =>
  obtain ⟨σ',H',J,q⟩:=hs
  exact fin (v:=V.non) (u:=Value.none) J rfl q
 | brk =>
  obtain ⟨_,_,_,q⟩:=hs
  exact False.elim q
 | cont =>
  obtain ⟨_,_,_,q⟩:=hs
  exact False.elim q
end L2
namespace L2
open PySem PySem.Spec PyProof.Rows
section
variable {X:Cx} {x:Str} {p pos:Pos} {e:Expr} {es:List Expr} {t:TA} {id T:String} {r:List V→Hp→VK→Prop}
def tCB (r:List V→Hp→VK→Prop) (t:TA):TE:=fun σ H Q=>t σ H fun vs H1=>r vs H1 Q
theorem pe_callB (hc:CallR X (.builtin id) r) (hg:Gl X x) (hm:X.mg x=none) (hv:bootBuiltins x=some (.builtin id)) (ha:PA X (e :: es) t) (hn:x≠"__name__":=by decide) (hdb:(x == ("__debug__" : Str))=false:=by decide)
  (he:starEach (e :: es) X.env=(false,eval e X.env) :: starEach es X.env:=by rfl) (hpl:(backTo pos (starEach es X.env)).any (·.1)=false:=by rfl):PE X (.Call (.Name x p) (e :: es) [] pos) (tCB r t):=by
 intro pins s σ H Q I h
 refine wpAny_Call_Name_kw (ld_blt I hg hm hv ?_ hn hdb)
 exact PyProof.Rows.callWith_builtin1 (thn (ha pos pins s σ H _ I h) fun us s1 ⟨vs,H1,I1,r1,q1⟩=>hc pins s1 σ H1 vs us Q I1 r1 q1) he hpl
theorem pe_callTy (hc:CallR X (.type T) r) (hg:Gl X x) (hm:X.mg x=none) (hv:bootBuiltins x=some (.type T)) (ha:PA X (e :: es) t) (hn:x≠"__name__":=by decide) (hdb:(x == ("__debug__" : Str))=false:=by decide)
  (he:starEach (e :: es) X.env=(false,eval e X.env) :: starEach es X.env:=by rfl) (hpl:(backTo pos (starEach es X.env)).any (·.1)=false:=by rfl):PE X (.Call (.Name x p) (e :: es) [] pos) (tCB r t):=by
 intro pins s σ H Q I h
 refine wpAny_Call_Name_kw (ld_blt I hg hm hv ?_ hn hdb)
 exact PyProof.Rows.callWith_type1 (thn (ha pos pins s σ H _ I h) fun us s1 ⟨vs,H1,I1,r1,q1⟩=>hc pins s1 σ H1 vs us Q I1 r1 q1) he hpl
end
end L2
namespace HT
open PySem PyProof.Rows
section
open PySem.SeqAt
open PySem.AutoSeq1 (wpAny_loadPart')
open PySem.MeetsSeq PySem.MeetsSeq2 PySem.MeetsSeq3
end
section
variable {prog:Program} {w:World} {A:Around} {E:Value→Shared→Prop} {s:Shared}
def sIx (n d:Nat):Option Int→Nat
 | none=>d
 | some v=>if v < 0 then (v+(n:Int)).toNat else min v.toNat n
theorem sIx_none (n d:Nat):sIx n d none=d:=rfl
theorem sIx_nat (n d k:Nat):sIx n d (some (k:Int))=min k n:=by
 show (if (k:Int) < 0 then ((k:Int)+(n:Int)).toNat else min (k:Int).toNat n)=min k n
 rw [if_neg (by omega),Int.toNat_natCast]
end
end HT
namespace L2
open PySem PySem.Spec PyProof.Rows
abbrev TO:=St→Hp→(Option Int→Hp→Prop)→Prop
def PO (X:Cx) (e:Option Expr) (t:TO):Prop :=
 ∀ (pins:List (Addr × Obj)) (s:Shared) (σ:St) (H:Hp) (Q:Option Int→Hp→Prop),Inv X pins σ H s→t σ H Q →
  wpAny (model X.prog X.w) X.A (evalPart e X.env) (fun u s'=>∃ o H',Inv X pins σ H' s'∧IsPart u o∧Q o H') X.xe s
def tNoPart:TO:=fun _ H Q=>Q none H
def tPart (t:TE):TO:=fun σ H Q=>t σ H fun x H1=>∃ i,x=.int i∧Q (some i) H1
theorem intsAre_of {ns:List Int}:∀ {us:List Value},Vals (ns.map V.int) us→IntsAre us ns:=by
 induction ns with
 | nil=>intro us r; rw [List.map_nil] at r; cases r; exact .nil
 | cons n ns ih =>
  intro us r
  rw [List.map_cons] at r
  cases r with
  | cons r1 r2 =>
   obtain ⟨t,e⟩:=r1
   subst e
   exact .cons n t (ih r2)
section
variable {X:Cx} {e:Expr} {te:TE} {lo hi:Option Expr} {tl th:TO} {pos p2:Pos}
theorem po_none:PO X none tNoPart:=by
 intro pins s σ H Q I h
 rw [evalPart_none]
 exact wpAny_pure ⟨none,H,I,.none,h⟩
theorem po_some (h:PE X e te):PO X (some e) (tPart te):=by
 intro pins s σ H Q I hw
 rw [evalPart_some]
 refine thn (h pins s σ H _ I hw) fun u s1 ⟨x,H1,I1,r1,q1⟩=>?_
 obtain ⟨i,rfl,q⟩:=q1
 obtain ⟨t,rfl⟩:=r1
 exact ⟨some i,H1,I1,.int i t,q⟩
def SlR (X:Cx) (r:V→Option Int→Option Int→Hp→VK→Prop):Prop :=
 ∀ (pins:List (Addr × Obj)) (s:Shared) (σ:St) (H:Hp) (x:V) (v vl vu:Value) (lo hi:Option Int) (sl:Addr) (Q:VK),Inv X pins σ H s→RelV x v→s.heap.IsSliceOf sl vl vu .none→IsPart vl lo→IsPart vu hi→r x lo hi H Q →
  ∃ T id,typeLookup (.type T) "__getitem__" = pure (some (.builtin id))∧s.TypeIs v T∧wpAny (model X.prog X.w) X.A (getItem v (.ref sl)) (EP X pins σ Q) X.xe s
def tSl (r:V→Option Int→Option Int→Hp→VK→Prop) (te:TE) (tl th:TO):TE:=fun σ H Q=>te σ H fun x H1=>tl σ H1 fun l H2=>th σ H2 fun u H3=>r x l u H3 Q
theorem pe_slice {r:V→Option Int→Option Int→Hp→VK→Prop} (hr:SlR X r) (he:PE X e te) (hl:PO X lo tl) (hu:PO X hi th):PE X (.Subscript e (.Slice lo hi none p2) pos) (tSl r te tl th):=by
 intro pins s σ H Q I h
 refine Subscript_ (thn (he pins s σ H _ I h) fun v s1 ⟨x,H1,I1,r1,q1⟩=>?_)
 refine wpAny_Slice (thn (hl pins s1 σ H1 _ I1 q1) fun vl s2 ⟨l,H2,I2,pl,q2⟩=>thn (hu pins s2 σ H2 _ I2 q2) fun vu s3 ⟨u,H3,I3,pu,q3⟩=>?_)
 rw [evalPart_none]
 refine wpAny_pure ?_
 have I4:Inv X pins σ H3 { s3 with heap:=s3.heap.push { cls:=.type "slice",data:=.fields #[vl,vu,.none] } }:=I3.kept (t':=s3.toks) fun b ob q=>Heap.get?_push_of_some _ q
 obtain ⟨T,id,hT,ht,hg⟩:=hr pins { s3 with heap:=s3.heap.push { cls:=.type "slice",data:=.fields #[vl,vu,.none] } } σ H3 x v vl vu l u s3.heap.objs.size Q I4 r1 (Heap.IsSliceOf.new ..) pl pu q3
 show wpAny (model X.prog X.w) X.A (subscriptTail e (.Slice lo hi none p2) v (.ref s3.heap.objs.size)) (EP X pins σ Q) X.xe { s3 with heap:=s3.heap.push { cls:=.type "slice",data:=.fields #[vl,vu,.none] } }
 exact tail_any (ops:=[.ref s3.heap.objs.size,v]) ht hT hg (by with_unfolding_all rfl)
def cutV (xs:List V) (lo hi:Option Int):List V:=(xs.drop (HT.sIx xs.length 0 lo)).take (HT.sIx xs.length xs.length hi - HT.sIx xs.length 0 lo)
theorem cutV_length (xs:List V) (lo hi:Option Int):(cutV xs lo hi).length≤xs.length:=by
 unfold cutV
 rw [List.length_take,List.length_drop]
 omega
end
end L2
namespace L2
open PySem PySem.Spec PyProof.Rows
def ixN (n:Nat) (i:Int):Option Nat:=if 0≤i then (if i < n then some i.toNat else none) else if -(n:Int)≤i then some (i+n).toNat else none
def atI {α:Type} (xs:List α) (i:Int):Option α:=(ixN xs.length i).bind fun j=>xs[j]?
theorem ixN_seq {n:Nat} {i:Int} {j:Nat} (h:ixN n i=some j):seqIndex? i n=some j∧j < n∧-(n:Int)≤i∧i < n:=by
 unfold ixN at h
 by_cases h0:0≤i
 ·rw [if_pos h0] at h
  by_cases h1:i < n
  ·rw [if_pos h1] at h
   have e:i.toNat=j:=Option.some.inj h
   exact ⟨by rw [seqIndex_of h0 h1,e],by omega,by omega,h1⟩
  ·rw [if_neg h1] at h; cases h
 ·rw [if_neg h0] at h
  by_cases h1:-(n:Int)≤i
  ·rw [if_pos h1] at h
   have e:(i+n).toNat=j:=Option.some.inj h
   exact ⟨by rw [seqIndex_neg (by omega) h1,e],by omega,h1,by omega⟩
  ·rw [if_neg h1] at h; cases h
theorem atI_get {α:Type} {xs:List α} {i:Int} {v:α} (h:atI xs i=some v):∃ j,seqIndex? i xs.length=some j∧xs[j]? = some v∧j < xs.length∧-(xs.length:Int)≤i∧i < xs.length:=by
 unfold atI at h
 cases e:ixN xs.length i with
 | none=>rw [e] at h; cases h
 | some j =>
  rw [e] at h
  obtain ⟨h1,h2,h3,h4⟩:=ixN_seq e
  exact ⟨j,h1,h,h2,h3,h4⟩
theorem atI_nat {α:Type} {xs:List α} {j:Nat} {v:α} (h:xs[j]? = some v):atI xs (j:Int)=some v:=by
 have hj:j < xs.length:=(List.getElem?_eq_some_iff.mp h).1
 have e:ixN xs.length (j:Int)=some j:=by
  unfold ixN
  rw [if_pos (by omega),if_pos (by omega)]; simp
 unfold atI; rw [e]; exact h
def PlainIx (b:Expr):Prop:=∀ o i,subscripted b false o i=operate [o,i] (getItem o i)
def IxR (X:Cx) (r:R2):Prop :=
 ∀ (value slice:Expr) (pins:List (Addr × Obj)) (s:Shared) (σ:St) (H:Hp) (x y:V) (v u:Value) (Q:VK),Inv X pins σ H s→RelV x v→RelV y u→r x y H Q →
  subscripted slice false v u=operate [v,u] (getItem v u)→wpAny (model X.prog X.w) X.A (subscriptTail value slice v u) (EP X pins σ Q) X.xe s
def MtR (X:Cx) (id:String) (r:V→List V→Hp→VK→Prop):Prop :=
 ∀ (pins:List (Addr × Obj)) (s:Shared) (σ:St) (H:Hp) (x:V) (xs:List V) (v:Value) (us:List Value) (Q:VK),Inv X pins σ H s→RelV x v→Vals xs us→r x xs H Q →
  wpAny (model X.prog X.w) X.A (call (.builtin id) (v :: us)) (EP X pins σ Q) X.xe s
section
variable {X:Cx} {a b:Expr} {ta tb:TE} {pos:Pos}
theorem pe_ix {r:R2} (hr:IxR X r) (ha:PE X a ta) (hb:PE X b tb) (hs:PlainIx b):PE X (.Subscript a b pos) (tOp r ta tb):=by
 intro pins s σ H Q I h
 exact Subscript_ (binT ha hb I h fun v u s2 x y H2 I2 rx ry q=>hr a b pins s2 σ H2 x y v u Q I2 rx ry q (hs _ _))
def rIxL (K:PySem.W.Frag):R2:=fun x y H Q=>∃ p xs i v,x=.ref p∧y=.int i∧SqL K H p xs∧atI xs i=some v∧Q v H
def rIxT (K:PySem.W.Frag):R2:=fun x y H Q=>∃ p xs i v,x=.ref p∧y=.int i∧SqT K H p xs∧atI xs i=some v∧Q v H
theorem ix_list:IxR X (rIxL X.K):=by
 intro value slice pins s σ H x y v u Q I rx ry h hs
 obtain ⟨p,xs,i,z,rfl,rfl,hq,he,q⟩:=h
 cases rx
 obtain ⟨t,rfl⟩:=ry
 obtain ⟨its,r,pl,hz⟩:=I.list hq
 obtain ⟨j,h1,h2,h3,h4,h5⟩:=atI_get he
 obtain ⟨w,ew,rw'⟩:=r.get h2
 have hl:=r.length
 have hn:=line63
 have fin:EP X pins σ Q w s:=⟨z,H,I,rw',q⟩
 by_cases h0:0≤i
 ·have hj:i.toNat=j:=by
   rw [seqIndex_of h0 h5] at h1
   exact Option.some.inj h1
  exact item_listR pl.isList h0 (by omega) (by rw [hj]; simpa using ew) fin hs
 ·have hj:(i+(its.toArray.size:Int)).toNat=j:=by
   rw [seqIndex_neg (by omega) h4] at h1
   rw [List.size_toArray,←hl]
   exact Option.some.inj h1
  exact subscriptTail_builtinR (x:=w) pl.isList.typeIs slot_list_getitem.lookup
   (wpAny_getItem_list_neg (Q:=fun r s'=>r=w∧EP X pins σ Q r s') pl.isList (by omega) (by rw [List.size_toArray] <;> omega) (by omega) (by rw [hj]; simpa using ew) ⟨rfl,fin⟩) hs
theorem ix_tup:IxR X (rIxT X.K):=by
 intro value slice pins s σ H x y v u Q I rx ry h hs
 obtain ⟨p,xs,i,z,rfl,rfl,hq,he,q⟩:=h
 cases rx
 obtain ⟨t,rfl⟩:=ry
 obtain ⟨its,r,pl,hz⟩:=I.tuple hq
 obtain ⟨j,h1,h2,h3,h4,h5⟩:=atI_get he
 obtain ⟨w,ew,rw'⟩:=r.get h2
 have hl:=r.length
 have hn:=line63
 have fin:EP X pins σ Q w s:=⟨z,H,I,rw',q⟩
 exact subscriptTail_builtinR (x:=w) pl.typeIs slot_tuple_getitem.lookup
  (getItem_tuple (j:=j) (Q:=fun r s'=>r=w∧EP X pins σ Q r s') pl (by omega) (by omega) (by rw [List.size_toArray,←hl]; exact h1) (by simpa using ew) ⟨rfl,fin⟩) hs
theorem mapSeq_set (its:List Value) (n j:Nat) (u:Value):Obj.mapSeq (·.setIfInBounds j u) { cls:=.type "list",data:=.seq its.toArray n }={ cls:=.type "list",data:=.seq (its.set j u).toArray n }:=by
 simp [Obj.mapSeq]
theorem Inv.lst {pins:List (Addr × Obj)} {σ:St} {H:Hp} {s:Shared} {p:Addr} {xs:List V} (I:Inv X pins σ H s) (h:H p=some (.lst xs)) :
  ∃ (its:List Value) (n:Nat),Vals xs its∧s.heap.get? p=some { cls:=.type "list",data:=.seq its.toArray n }∧xs.length≤sizeLine:=by
 obtain ⟨z,its,n,r,e⟩:=I.hok p _ h
 exact ⟨its,n,r,e,z⟩
theorem Inv.lstUpd {pins:List (Addr × Obj)} {σ:St} {H:Hp} {s:Shared} {p:Addr} {xs ys:List V} {its its':List Value} {n n':Nat} {f:Obj→Obj} (I:Inv X pins σ H s) (h:H p=some (.lst xs))
  (ho:s.heap.get? p=some { cls:=.type "list",data:=.seq its.toArray n }) (hf:f { cls:=.type "list",data:=.seq its.toArray n }={ cls:=.type "list",data:=.seq its'.toArray n' }) (r:Vals ys its') (hz:ys.length≤sizeLine) (t:Nat) :
  Inv X pins σ (upd H p (.lst ys)) { s with heap:=s.heap.update p f,toks:=t }:=by
 have e:(s.heap.update p f).get? p=some { cls:=.type "list",data:=.seq its'.toArray n' }:=by
  rw [Heap.get?_update_self f ho (by rw [hf] <;> rfl),hf]
 refine I.write (x:=p) (e:=p) (by rw [h]; trivial) (.inl rfl) (fun b u hb q=>(Heap.get?_update_other _ _ (Ne.symm hb)).trans q) ⟨_,e⟩ ?_
 exact ⟨hz,its',n',r,e⟩
def rSetL:V→V→V→Hp→(Hp→Prop)→Prop:=fun o i v H Q=>∃ p xs k j,o=.ref p∧i=.int k∧H p=some (.lst xs)∧ixN xs.length k=some j∧Q (upd H p (.lst (xs.set j v)))
theorem set_list:PSet X rSetL:=by
 intro pins s σ H o i v ov iv u Q I ro ri rv h
 obtain ⟨p,xs,k,j,rfl,rfl,hp,hj,q⟩:=h
 cases ro
 obtain ⟨t,rfl⟩:=ri
 obtain ⟨its,n,r,ho,hz⟩:=I.lst hp
 obtain ⟨h1,h2,h3,h4⟩:=ixN_seq hj
 have hl:=r.length
 have hn:=line63
 have I':Inv X pins σ (upd H p (.lst (xs.set j v))) { s with heap:=s.heap.update p (Obj.mapSeq (·.setIfInBounds j u)) } :=
  I.lstUpd hp ho (mapSeq_set its n j u) (r.set rv j) (by rw [List.length_set]; exact hz) s.toks
 by_cases h0:0≤k
 ·have hk:k.toNat=j:=by
   rw [seqIndex_of h0 h4] at h1
   exact Option.some.inj h1
  exact PySem.W.ki_setAt ho h0 (by omega) (by rw [List.size_toArray,←hl]; exact h4) (by rw [hk]; exact ⟨_,I',q⟩)
 ·have hk:(k+(its.toArray.size:Int)).toNat=j:=by
   rw [seqIndex_neg (by omega) h3] at h1
   rw [List.size_toArray,←hl]
   exact Option.some.inj h1
  exact PySem.W.ki_setBack ho (by omega) (by rw [List.size_toArray,←hl]; exact h3) (by omega) (by rw [hk]; exact ⟨_,I',q⟩)
theorem slice_bounds (lo hi:Option Int) (n:Nat):(sliceBounds lo hi none n).1=((HT.sIx n 0 lo:Nat):Int)∧(sliceBounds lo hi none n).2.1=((HT.sIx n n hi:Nat):Int)∧(sliceBounds lo hi none n).2.2=1:=by
 refine ⟨?_,?_,rfl⟩
 ·cases lo with
  | none=>simp [sliceBounds,HT.sIx]
  | some i =>
   simp only [sliceBounds,HT.sIx,Option.getD_none,show (1:Int) > 0 by decide,if_true]
   by_cases h:i < 0
   ·simp only [h,if_true] <;> omega
   ·simp only [h,if_false] <;> omega
 ·cases hi with
  | none=>simp [sliceBounds,HT.sIx]
  | some i =>
   simp only [sliceBounds,HT.sIx,Option.getD_none,show (1:Int) > 0 by decide,if_true]
   by_cases h:i < 0
   ·simp only [h,if_true] <;> omega
   ·simp only [h,if_false] <;> omega
theorem slicePick_cut (its:List Value) (lo hi:Option Int):slicePick its.toArray lo hi none=((its.drop (HT.sIx its.length 0 lo)).take (HT.sIx its.length its.length hi - HT.sIx its.length 0 lo)).toArray:=by
 obtain ⟨h1,h2,h3⟩:=slice_bounds lo hi its.toArray.size
 unfold slicePick
 rw [h1,h2,h3]
 simp only [sliceRange_one,pick_run,List.size_toArray] <;> rfl
def rSlL (K:PySem.W.Frag):V→Option Int→Option Int→Hp→VK→Prop:=fun x lo hi H Q=>∃ a xs,x=.ref a∧SqL K H a xs∧∀ p,H p=none→Q (.ref p) (upd H p (.lst (cutV xs lo hi)))
theorem sl_list:SlR X (rSlL X.K):=by
 intro pins s σ H x v vl vu lo hi sl Q I rx hs pl pu h
 obtain ⟨a,xs,rfl,hx,q⟩:=h
 cases rx
 obtain ⟨its,r,ht,hz⟩:=I.list hx
 have hlen:=r.length
 refine ⟨"list",_,slot_list_getitem.lookup,ht.isList.typeIs,?_⟩
 refine wpAny_getItem_list_slice ht.isList hs pl pu .none (by simp) ?_ (by rw [List.size_toArray] <;> omega)
 rw [slicePick_cut,←hlen]
 refine ⟨.ref s.heap.objs.size,_,I.laid (t':=s.toks) (o:=.lst (cutV xs lo hi)) (fun b ob q=>Heap.get?_push_of_some _ q) (Nat.le_refl _) ?_,rfl,q _ (I.hok.fresh (Nat.le_refl _))⟩
 exact ⟨Nat.le_trans (cutV_length xs lo hi) hz,_,0,(r.drop (HT.sIx xs.length 0 lo)).take (HT.sIx xs.length xs.length hi - HT.sIx xs.length 0 lo),Heap.get?_push_size _ rfl⟩
theorem call_len_seq:CallR X (.builtin "len") (fun xs H Q=>∃ p ys,xs=[.ref p]∧(SqL X.K H p ys ∨ SqT X.K H p ys)∧Q (.int ys.length) H):=by
 intro pins s σ H xs us Q I r h
 obtain ⟨p,ys,rfl,hq,q⟩:=h
 obtain ⟨u,rfl,rx⟩:=vals1 r
 cases rx
 have hn:=line63
 rcases hq with hq | hq
 ·obtain ⟨its,r',pl,hz⟩:=I.list hq
  have hlen:=r'.length
  exact Calls.call_len_list pl.isList (by simp only [List.size_toArray] <;> omega) ⟨.int ys.length,H,I.tok _,⟨s.toks+1,by rw [List.size_toArray,hlen]⟩,q⟩
 ·obtain ⟨its,r',pl,hz⟩:=I.tuple hq
  have hlen:=r'.length
  exact len_tuple pl (by simp only [List.size_toArray] <;> omega) ⟨.int ys.length,H,I.tok _,⟨s.toks+1,by rw [List.size_toArray,hlen]⟩,q⟩
theorem call_list_of:CallR X (.type "list") (fun xs H Q=>∃ p ys,xs=[.ref p]∧(SqL X.K H p ys ∨ SqT X.K H p ys)∧∀ l,H l=none→Q (.ref l) (upd H l (.lst ys))):=by
 intro pins s σ H xs us Q I r h
 obtain ⟨p,ys,rfl,hq,q⟩:=h
 obtain ⟨u,rfl,rx⟩:=vals1 r
 cases rx
 have fin:∀ (its:List Value),Vals ys its→ys.length≤sizeLine→∀ (h':Heap) (c':Nat),(∀ b o',s.heap.get? b=some o'→h'.get? b=some o') →
   h'.get? s.heap.objs.size=some { cls:=.type "list",dict:=none,data:=.seq its.toArray c',slots:=#[] }→EP X pins σ Q (.ref s.heap.objs.size) { s with heap:=h' }:=fun its r' hz h' c' kp e =>
  ⟨.ref s.heap.objs.size,_,I.laid (t':=s.toks) kp (Nat.le_refl _) (show ObjOk X.prog X.w _ h' _ (.lst ys) from ⟨hz,its,c',r',e⟩),rfl,q _ (I.hok.fresh (Nat.le_refl _))⟩
 rcases hq with hq | hq
 ·obtain ⟨its,r',pl,hz⟩:=I.list hq
  have hlen:=r'.length
  obtain ⟨o,ho,hc,n,hd⟩:=pl.isList
  exact call_list_seq p (.inl rfl) ho hc hd (fun h' c' kp e=>fin its r' hz h' c' kp e) (by simp only [List.size_toArray] <;> omega)
 ·obtain ⟨its,r',pl,hz⟩:=I.tuple hq
  have hlen:=r'.length
  obtain ⟨o,ho,hc,n,hd⟩:=pl
  exact call_list_seq p (.inr rfl) ho hc hd (fun h' c' kp e=>fin its r' hz h' c' kp e) (by simp only [List.size_toArray] <;> omega)
def tyV (K:PySem.W.Frag) (T:String) (x:V) (H:Hp):Prop:=match x with
 | .str _=>T = "str"
 | .int _=>T = "int"
 | .ref p=>(T = "list"∧∃ xs,SqL K H p xs) ∨ (T = "tuple"∧∃ o,K.lookup p=some o∧o.cls=.type "tuple"∧o.dict=none) ∨
   (T = "dict"∧((∃ kvs,H p=some (.dK kvs)) ∨ ∃ kvs,H p=some (.dT kvs))) ∨ (T = "set"∧∃ S n,H p=some (.set S n))
 | _=>False
theorem tyV_is {pins:List (Addr × Obj)} {σ:St} {H:Hp} {s:Shared} {T:String} {x:V} {v:Value} (I:Inv X pins σ H s) (r:RelV x v) (ty:tyV X.K T x H) :
  s.TypeIs v T∧∀ a,v=.ref a→∃ ob,s.heap.get? a=some ob∧ob.dict=none:=by
 cases x with
 | str z =>
  obtain ⟨t,rfl⟩:=r
  cases (show T = "str" from ty)
  exact ⟨typeIs_str s z t,fun _ e=>nomatch e⟩
 | int i =>
  obtain ⟨t,rfl⟩:=r
  cases (show T = "int" from ty)
  exact ⟨typeIs_int s i t,fun _ e=>nomatch e⟩
 | ref p =>
  cases r
  rcases ty with ⟨rfl,xs,hq⟩ | ⟨rfl,o,hk,hc,hd⟩ | ⟨rfl,hk⟩ | ⟨rfl,S,n,hk⟩
  ·obtain ⟨its,_,pl,_⟩:=I.list hq
   refine ⟨pl.isList.typeIs,fun a e=>?_⟩
   cases e
   obtain ⟨o,n,e,c,hd,_⟩:=pl
   exact ⟨o,e,hd⟩
  ·refine ⟨⟨o,I.kIn p o hk,hc⟩,fun a e=>?_⟩
   cases e
   exact ⟨o,I.kIn _ o hk,hd⟩
  ·have z:∃ o,s.heap.get? p=some o∧o.ExactDict:=by
    rcases hk with ⟨kvs,hk⟩ | ⟨kvs,hk⟩
    ·obtain ⟨_,_,_,_,o,_,_,e,ex,_⟩:=I.hok p _ hk
     exact ⟨o,e,ex⟩
    ·obtain ⟨_,_,_,_,o,_,_,e,ex,_⟩:=I.hok p _ hk
     exact ⟨o,e,ex⟩
   obtain ⟨o,e,ex⟩:=z
   refine ⟨⟨o,e,ex.1⟩,fun a e2=>?_⟩
   cases e2
   exact ⟨o,e,ex.2.1⟩
  ·obtain ⟨o,_,_,_,e,ex,_⟩:=I.hok p _ hk
   refine ⟨⟨o,e,ex.1⟩,fun a e2=>?_⟩
   cases e2
   exact ⟨o,e,ex.2.1⟩
 | _=>exact False.elim ty
def tBM0 (K:PySem.W.Frag) (T:String) (r:V→List V→Hp→VK→Prop) (to:TE):TE:=fun σ H Q=>to σ H fun x H1=>tyV K T x H1∧r x [] H1 Q
def tBM (K:PySem.W.Frag) (T:String) (r:V→List V→Hp→VK→Prop) (to:TE) (t:TA):TE:=fun σ H Q=>to σ H fun x H1=>tyV K T x H1∧t σ H1 fun xs H2=>r x xs H2 Q
variable {o e:Expr} {es:List Expr} {to:TE} {t:TA} {name:Str} {apos cpos:Pos} {T id:String} {r:V→List V→Hp→VK→Prop}
theorem pe_bm0 (pa:PlainAttrs T) (slot:Slot T name id) (hty:typeOf (.builtin id)=pure (.type "method_descriptor")) (hm:MtR X id r) (ho:PE X o to)
  (hbase:attributeBase o name X.env (eval o X.env)=eval o X.env:=by rfl) (hline:(apos.endLine == cpos.line)=true:=by rfl):PE X (.Call (.Attribute o name apos) [] [] cpos) (tBM0 X.K T r to):=by
 intro pins s σ H Q I h
 refine wpAny_Call_method0_late hbase hline (thn (ho pins s σ H _ I h) fun v s1 ⟨x,H1,I1,r1,ty,q1⟩=>?_)
 obtain ⟨h1,h2⟩:=tyV_is I1 r1 ty
 exact ⟨T,id,pa,slot,hty,h1,h2,Calls.callWith_builtin rfl (PySem.evalArgs_none (hm pins s1 σ H1 x [] v [] Q I1 r1 .nil q1))⟩
theorem pe_bm (pa:PlainAttrs T) (slot:Slot T name id) (hty:typeOf (.builtin id)=pure (.type "method_descriptor")) (hm:MtR X id r) (ho:PE X o to) (ha:PA X (e :: es) t)
  (hbase:attributeBase o name X.env (eval o X.env)=eval o X.env:=by rfl)
  (hfew:((backTo cpos (starEach (e :: es) X.env)).all (fun x=>!x.1) && (backToKw cpos (keywordEach [] X.env)).all (fun x=>x.1.isSome)
   && decide ((e :: es).length+([]:List Keyword).length+(if ([]:List Keyword).isEmpty then 0 else 1) < 30))=true:=by rfl)
  (hline:(apos.endLine == cpos.line)=true:=by rfl) (hs:starEach (e :: es) X.env=(false,eval e X.env) :: starEach es X.env:=by rfl) (hplain:(backTo cpos (starEach es X.env)).any (·.1)=false:=by rfl) :
  PE X (.Call (.Attribute o name apos) (e :: es) [] cpos) (tBM X.K T r to t):=by
 intro pins s σ H Q I h
 refine wpAny_Call_method_late hbase hfew hline rfl (thn (ho pins s σ H _ I h) fun v s1 ⟨x,H1,I1,r1,ty,q1⟩=>?_)
 obtain ⟨h1,h2⟩:=tyV_is I1 r1 ty
 refine ⟨T,id,pa,slot,hty,h1,h2,?_⟩
 have hA:=ha cpos pins s1 σ H1 _ I1 q1
 rw [hs] at hA ⊢
 refine Calls.callWith_builtin (by show (false || (backTo cpos (starEach es X.env)).any (·.1))=false; rw [hplain] <;> rfl) (Calls.evalArgs_plain ?_)
 exact thn hA fun us s2 ⟨vs,H2,I2,r2,q2⟩=>hm pins s2 σ H2 x vs v us Q I2 r1 r2 q2
end
end L2
namespace L2
open PySem PySem.Spec PyProof.Rows
def MtM (X:Cx) (id:String) (r:V→List V→Hp→VK→Prop):Prop :=
 ∀ (pins:List (Addr × Obj)) (s:Shared) (σ:St) (H:Hp) (x:V) (xs:List V) (v:Value) (us:List Value) (Q:VK),Inv X pins σ H s→RelV x v→Vals xs us→r x xs H Q →
  wpAny (model X.prog X.w) X.A (call (.builtin id) (v :: us)) (EP X pins σ Q) X.xe s
theorem Vals.one:∀ {x:V} {us:List Value},Vals [x] us→∃ u,us=[u]∧RelV x u
 | _,_,.cons r .nil=>⟨_,rfl,r⟩
theorem Vals.two:∀ {x y:V} {us:List Value},Vals [x,y] us→∃ u v,us=[u,v]∧RelV x u∧RelV y v
 | _,_,_,.cons r (.cons q .nil)=>⟨_,_,rfl,r,q⟩
theorem Vals.rep {xs:List V} {us:List Value} (h:Vals xs us):∀ k:Nat,Vals (List.replicate k xs).flatten (List.replicate k us).flatten
 | 0=>.nil
 | k+1=>by
  rw [List.replicate_succ,List.replicate_succ,List.flatten_cons,List.flatten_cons]
  exact Vals.append h (Vals.rep h k)
theorem foldl_rep (its:List Value):∀ (k:Nat) (acc:List Value),
  List.foldl (fun x1 x2=>x1++x2) acc.toArray (List.replicate k its.toArray)=(acc++(List.replicate k its).flatten).toArray
 | 0,acc=>by simp
 | k+1,acc=>by
  have e:acc.toArray++its.toArray=(acc++its).toArray:=by simp
  have e2:(acc++its)++(List.replicate k its).flatten=acc++(List.replicate (k+1) its).flatten:=by
   rw [List.replicate_succ,List.flatten_cons,List.append_assoc]
  rw [←e2,←foldl_rep its k (acc++its),←e,List.replicate_succ,List.foldl_cons]
section
variable {X:Cx} {pins:List (Addr × Obj)} {σ:St} {H:Hp} {s:Shared} {l b:Addr} {xs ys zs:List V}
theorem Inv.lset {its its':List Value} {n:Nat} {f:Array Value→Array Value} {t':Nat} (I:Inv X pins σ H s) (hH:H l=some (.lst xs))
  (e:s.heap.get? l=some { cls:=.type "list",data:=.seq its.toArray n }) (hf:f its.toArray=its'.toArray) (hv:Vals ys its') (hz:ys.length≤sizeLine) :
  Inv X pins σ (upd H l (.lst ys)) { s with heap:=s.heap.update l (Obj.mapSeq f),toks:=t' }:=by
 have q:=PySem.IsL.update e f
 rw [hf] at q
 refine I.write (x:=l) (e:=l) (by rw [hH]; exact trivial) (.inl rfl) (fun b' u hb hu=>(Heap.get?_update_other s.heap (Obj.mapSeq f) (Ne.symm hb)).trans hu) ⟨_,q⟩ ?_
 exact ⟨hz,its',_,hv,q⟩
theorem Inv.lnew {its:List Value} {t':Nat} (I:Inv X pins σ H s) (hv:Vals ys its) (hz:ys.length≤sizeLine) :
  Inv X pins σ (upd H s.heap.objs.size (.lst ys)) { s with heap:=s.heap.push { cls:=.type "list",data:=.seq its.toArray },toks:=t' } :=
 I.laid (fun _ _ q=>Heap.get?_push_of_some _ q) (Nat.le_refl _) ⟨hz,its,0,hv,Heap.get?_push_size _ rfl⟩
theorem Inv.fresh (I:Inv X pins σ H s):H s.heap.objs.size=none:=I.hok.fresh (Nat.le_refl _)
theorem Inv.lstM (I:Inv X pins σ H s) (hH:H l=some (.lst xs)):xs.length≤sizeLine∧∃ (its:List Value) (n:Nat),Vals xs its∧xs.length=its.length∧s.heap.get? l=some { cls:=.type "list",data:=.seq its.toArray n }:=by
 obtain ⟨z,its,n,r,e⟩:=I.hok l _ hH
 exact ⟨z,its,n,r,r.length,e⟩
theorem notLongL {n:Nat} (h:n≤sizeLine):Builtin.List.listTooLong n=false:=by
 unfold Builtin.List.listTooLong
 exact decide_eq_false (by omega)
end
section
variable {X:Cx}
def rAppend:V→List V→Hp→VK→Prop:=fun x vs H Q=>∃ l xs y,x=.ref l∧vs=[y]∧H l=some (.lst xs)∧xs.length < sizeLine∧Q .non (upd H l (.lst (xs++[y])))
theorem mt_append:MtM X "list.append" rAppend:=by
 intro pins s σ H x vs v us Q I rx rv h
 obtain ⟨l,xs,y,rfl,rfl,hH,hz,q⟩:=h
 cases rx
 obtain ⟨u,rfl,ru⟩:=rv.one
 obtain ⟨z,its,n,r,hl,e⟩:=I.lstM hH
 refine call_meets F.slot_list_append ⟨_,e,rfl⟩ F.entry_list_append (F.args_list_append_2 _ _) (PySem.list_append l its.toArray n u (by rw [List.size_toArray]; omega)) ⟨e,?_⟩
 refine ⟨.non,_,I.lset (its':=its++[u]) hH e (by simp) (r.append (.cons ru .nil)) ?_,rfl,q⟩
 rw [List.length_append,List.length_singleton]
 omega
def rExtend:V→List V→Hp→VK→Prop:=fun x vs H Q=>∃ l b xs zs,x=.ref l∧vs=[.ref b]∧H l=some (.lst xs)∧H b=some (.lst zs)∧xs.length+zs.length≤sizeLine∧Q .non (upd H l (.lst (xs++zs)))
theorem mt_extend:MtM X "list.extend" rExtend:=by
 intro pins s σ H x vs v us Q I rx rv h
 obtain ⟨l,b,xs,zs,rfl,rfl,hH,hB,hz,q⟩:=h
 cases rx
 obtain ⟨u,rfl,ru⟩:=rv.one
 cases ru
 obtain ⟨z,its,n,r,hl,e⟩:=I.lstM hH
 obtain ⟨z2,its2,n2,r2,hl2,e2⟩:=I.lstM hB
 have hsz:its.toArray.size+its2.toArray.size≤sizeLine:=by rw [List.size_toArray,List.size_toArray]; omega
 have hlong:¬ (!its.toArray.isEmpty && Builtin.List.listTooLong (its.toArray.size+its2.toArray.size))=true:=by
  rw [notLongL hsz,Bool.and_false]
  exact Bool.false_ne_true
 refine call_meets F.slot_list_extend ⟨_,e,rfl⟩ F.entry_list_extend (F.args_list_extend_2 _ _)
  (AutoSeq1.list_extend_list_list_0 l its.toArray n b its2.toArray n2 hlong (by rw [List.size_toArray]; omega) (by omega)) ⟨e,e2,?_⟩
 refine ⟨.non,_,I.lset (its':=its++its2) hH e (by simp) (r.append r2) ?_,rfl,q⟩
 rw [List.length_append]
 omega
def rCat:R2:=fun x y H Q=>∃ l b xs zs,x=.ref l∧y=.ref b∧H l=some (.lst xs)∧H b=some (.lst zs)∧xs.length+zs.length≤sizeLine∧∀ p,H p=none→Q (.ref p) (upd H p (.lst (xs++zs)))
theorem op_cat:OpR X (binaryOp .Add) rCat:=by
 intro pins s σ H x y v u Q I rx ry h
 obtain ⟨l,b,xs,zs,rfl,rfl,hH,hB,hz,q⟩:=h
 cases rx
 cases ry
 obtain ⟨z,its,n,r,hl,e⟩:=I.lstM hH
 obtain ⟨z2,its2,n2,r2,hl2,e2⟩:=I.lstM hB
 refine PySem.P.add_list e e2 ?_ (by rw [List.size_toArray,List.size_toArray]; omega)
 have ea:its.toArray++its2.toArray=(its++its2).toArray:=by simp
 rw [ea]
 exact ⟨.ref _,_,I.lnew (t':=s.toks) (r.append r2) (by rw [List.length_append]; omega),rfl,q _ I.fresh⟩
def rRep:R2:=fun x y H Q=>∃ l k xs,x=.ref l∧y=.int k∧H l=some (.lst xs)∧-(2 ^ 63)≤k∧k < 2 ^ 63∧xs.length * k.toNat≤sizeLine ∧
 ∀ p,H p=none→Q (.ref p) (upd H p (.lst (List.replicate k.toNat xs).flatten))
theorem len_rep {α:Type} (xs:List α) (k:Nat):(List.replicate k xs).flatten.length=k * xs.length:=by
 induction k with
 | zero=>simp
 | succ k ih=>rw [List.replicate_succ,List.flatten_cons,List.length_append,ih,Nat.succ_mul,Nat.add_comm]
theorem op_rep:OpR X (binaryOp .Mult) rRep:=by
 intro pins s σ H x y v u Q I rx ry h
 obtain ⟨l,k,xs,rfl,rfl,hH,h1,h2,hz,q⟩:=h
 cases rx
 obtain ⟨t,rfl⟩:=ry
 obtain ⟨z,its,n,r,hl,e⟩:=I.lstM hH
 have hlen:its.toArray.size * k.toNat≤sizeLine:=by rw [List.size_toArray,←hl]; exact hz
 have hcap:¬ its.toArray.size * k.toNat > (2 ^ 63 - 1) / 8:=by
  have:(sizeLine:Nat)≤(2 ^ 63 - 1) / 8:=by decide
  omega
 have hfit:¬ (!Builtin.List.listFitsIndex k)=true:=by
  rw [fitsIndex_both h1 h2]
  exact Bool.false_ne_true
 have hlong:¬ Builtin.List.listTooLong (its.toArray.size * k.toNat)=true:=by
  rw [notLongL hlen]
  exact Bool.false_ne_true
 have hnew:List.foldl (fun x1 x2=>x1++x2) #[] (List.replicate (if its.toArray.isEmpty=true then 0 else k.toNat) its.toArray)=(List.replicate k.toNat its).flatten.toArray:=by
  have f0:∀ m:Nat,List.foldl (fun x1 x2=>x1++x2) #[] (List.replicate m its.toArray)=(List.replicate m its).flatten.toArray:=fun m=>by
   have:=foldl_rep its m []
   rw [List.nil_append] at this
   exact this
  rw [f0]
  cases its with
  | nil=>simp
  | cons a r'=>rw [if_neg (by simp)]
 refine wpAny_binaryOp_repeat_ref (T:="list") (U:="int") (by decide) ⟨_,e,rfl⟩ (fun s'=>typeIs_int s' k t) noFill_list_mul F.fills_int_mul F.slot_int_rmul repeat_list F.slot_int_index.lookup
  (call_meets F.slot_int_rmul (typeIs_int s k t) F.entry_int_rmul (F.args_int_rmul_2 _ _) (int___rmul___int_list k t l its.toArray n)
   ⟨e,rfl,⟨_,e,rfl⟩,call_meets F.slot_list_mul ⟨_,e,rfl⟩ F.entry_list_mul (F.args_list_mul_2 _ _) (AutoListH.list___mul___list_int_3 l its.toArray n k t hfit hcap hlong) ⟨e,?_⟩⟩)
 rw [hnew]
 exact ⟨.ref _,_,I.lnew (t':=s.toks) (r.rep k.toNat) (by rw [len_rep,Nat.mul_comm]; exact hz),rfl,q _ I.fresh⟩
end
section
variable {prog:Program} {w:World} {A:Around} {E:Value→Shared→Prop} {s:Shared}
end
section
variable {X:Cx}
end
end L2
namespace Att
open PySem PySem.W PySem.Calls PyProof.Rows
theorem ints_of_wellAll {P:Params} {h:Heap}:∀ (ns:List Int) (vs:List Value),WellAll P h vs (ns.map WData.int)→IntsAre vs ns:=by
 intro ns
 induction ns with
 | nil =>
  intro vs w
  rw [List.map_nil] at w
  cases w
  exact .nil
 | cons n ns ih =>
  intro vs w
  rw [List.map_cons] at w
  cases w with
  | cons a b =>
   cases a
   exact .cons _ _ (ih _ b)
theorem script_of {l:OpenLaw} {n:Nat} (hn:l.most=some n) {P:Params} {h:Heap} {args:List WData} {vals:List Value}
  (hpre:l.row.toRowW.claim.pre args=true) (hwl:WellAll P h vals args) :
  ∃ a vs ns,vals=[Value.ref a]∧args=[WData.list (ns.map WData.int)]∧h.get? a=some { cls:=.type "list",data:=.seq vs.toArray }∧IntsAre vs ns∧ns.length≤n:=by
 have hsh:WShape.hasAll [] args [.list .int]=true:=(pre_splitW hpre).1
 have hc:l.pre.holds [] { args:=args }=true:=(pre_splitW hpre).2
 obtain ⟨d,r,rfl,h1,h2⟩:=hasAllW_cons hsh
 obtain rfl:=hasAllW_nil h2
 obtain ⟨xs,rfl,h3⟩:=hasW_list h1
 obtain ⟨ns,rfl⟩:=items_int h3
 have hlen:ns.length≤n:=by
  unfold OpenLaw.pre at hc
  have h4:(WTm.not (.lt (.lit (.int (n:Int))) (.len (.arg 0)))).holds [] { args:=[.list (ns.map .int)] }=true:=by
   have h4:=(holds_andW hc).1
   rw [hn] at h4
   exact h4
  have h5:=condW_of h4 (w_not (w_lt w_lit (w_len_list (w_arg rfl))))
  rw [List.length_map] at h5
  refine Nat.le_of_not_lt fun q=>?_
  have q':(n:Int) < ((ns.length:Nat):Int):=by omega
  first
   | (rw [decide_eq_true q'] at h5; exact absurd h5 (by decide))
   | (simp at h5; omega)
 cases hwl with
 | cons w1 w2 =>
  cases w2
  cases w1 with
  | list ho hall=>exact ⟨_,_,ns,rfl,rfl,ho,ints_of_wellAll ns _ hall,hlen⟩
theorem post_true (l:OpenLaw) (args:List WData):l.row.toRowW.claim.post args (.bool true) args=true :=
 postW_of (r:=l.row.toRowW) (X:=(true == true))
  (show WShape.has [] (.bool true) .bool=true by first | rfl | decide | simp [WShape.has,WShape.arms,WShape.armsAll])
  (show (WTm.eq .res (.lit (.bool true))).value [] { args:=args,res:=some (.bool true),after:=args }=some (.bool (true == true)) from w_eq_bool (w_res rfl) w_lit) rfl
theorem attach_call {l:OpenLaw} {n:Nat} {q:Program} {loose:List Str} {XP:(Str→Option Value)→Heap→Prop} {YP:World→Heap→Prop} {d:DefRec}
  (hn:l.most=some n) (hdf:d.params.defaults=[])
  (call:∀ (w:World) (s₀ s₁:Shared) (mg mb:Str→Option Value) (fa:Addr) (o:Obj) (pm cd doc:Value) (a:Addr) (vs:List Value) (ns:List Int),
   Ground q loose [] XP w s₀ mg mb s₁.heap→YP w s₁.heap →
   s₁.heap.get? fa=some o→o.data=.func (docDef d.name d.params d.body d.scope pm cd doc)→s₁.heap.CodeRec cd d.name→mg d.name=some (.ref fa) →
   s₁.heap.get? a=some { cls:=.type "list",data:=.seq vs.toArray }→IntsAre vs ns→ns.length≤n→s₁.gens=#[] →
   codeAny (model l.prog w) callerA (.call (.ref fa) ⟨[.ref a],[]⟩) (fun r s'=>r=.ok (.ret (.bool true))∧OldK s₁.heap s'.heap∧s'.os=s₁.os∧AllBare s'.gens) s₁) :
  WalkO q loose XP YP l.row.toRowW d [] (fun f vs=>PySem.call f vs):=by
 intro w s₀ s₁ mg mb G Y fa o pm cd doc dV kV ho hd hcd hD hmg hg args vals as hpre hlay hrd hwl hlo
 obtain rfl:dV=.none:=Dflts.none hD hdf
 obtain rfl:kV=.none:=Dflts.noKw hD
 obtain ⟨a,vs,ns,rfl,rfl,hobj,hints,hlen⟩:=script_of hn hpre hwl
 refine enter_call (codeAny_mono (call w s₀ s₁ mg mb fa o pm cd doc a vs ns G Y ho (fd_plain hd) hcd hmg hobj hints hlen hg) fun r s' hq=>?_)
 obtain ⟨rfl,h2,h3,h4⟩:=hq
 exact ⟨.inl ⟨.bool true,.bool true,[],rfl,fun _=>rfl,.bool true,post_true l _,fun _=>⟨List.Pairwise.nil,fun _ hm=>(nomatch hm)⟩⟩,h2,h3,h4⟩
section
variable {prog:Program} {w:World} {A:Around} {E:Value→Shared→Prop} {s:Shared} {K:Frag}
end
end Att
namespace L2
open PySem PySem.Spec PyProof.Rows
theorem vals_ints:∀ {vs:List Value} {ns:List Int},IntsAre vs ns→Vals (ns.map V.int) vs
 | _,_,.nil=>.nil
 | _,_,.cons n t h=>.cons ⟨t,rfl⟩ (vals_ints h)
def Only (H:Hp):Prop:=∀ b,H b=none ∨ ∃ o xs,H b=some (.frz o (.lst xs))
theorem law_call {P:Program} {w:World} {K:PySem.W.Frag} {mg mb:Str→Option Value} {CX:CXT} {k:Nat} {fa a:Addr} {fd:FuncData} {x:Str} {sp:Sp} {s₁:Shared} {vs:List Value} {ns:List Int}
  (KX:K.In s₁.heap) (hns:s₁.heap.Ns mainGlobals mg) (hb:s₁.heap.Ns builtinsNs mb) (hbb:∀ x:Str,x≠"__name__"→mb x=bootBuiltins x) (hlim:s₁.heap.NoLimit) (hg:s₁.gens=#[])
  (ha:s₁.heap.get? a=some { cls:=.type "list",data:=.seq vs.toArray }) (hi:IntsAre vs ns) (hl:ns.length≤sizeLine) (hr:Room k callerA)
  (F:∀ base:Heap,K.In base→base.Ns mainGlobals mg→FnOk P w K mg base CX k fa fd [x] sp) (hbind:∀ (s:Shared) (u:Value),BindsTo s fd ⟨[u],[]⟩ [(x,u)])
  (hsp:∀ H:Hp,Only H→SqL K H a (ns.map V.int)→sp [.ref a] H (fun v _=>v=.bl true) fun _ _ _=>False)
  (hCX:∀ H e s',CX [] H s₁ (fun _ _ _=>False) e s'→False) :
  codeAny (model P w) callerA (.call (.ref fa) ⟨[.ref a],[]⟩) (fun r s'=>r=.ok (.ret (.bool true))∧OldK s₁.heap s'.heap∧s'.os=s₁.os∧AllBare s'.gens) s₁:=by
 have rv:=vals_ints hi
 have lenV:=hi.length
 have core:∀ H:Hp,Only H→SqL K H a (ns.map V.int)→HOk P w H s₁.heap→(∀ b,H b≠none→b=a)→(H a≠none→K.lookup a=none) →
   codeAny (model P w) callerA (.call (.ref fa) ⟨[.ref a],[]⟩) (fun r s'=>r=.ok (.ret (.bool true))∧OldK s₁.heap s'.heap∧s'.os=s₁.os∧AllBare s'.gens) s₁:=by
  intro H hO hS hok hA hK
  have base_of:∀ {b:Addr} {o:Obj},s₁.heap.get? b=some o→H b=none→(hidT s₁.heap H).get? b=some o:=fun e n=>hidT_get e n
  have noA:∀ {b:Addr} {o:Obj} {es:Array DictEntry} {ep:Nat},s₁.heap.get? b=some o→o.data=.dict es ep→H b=none:=fun {b o es ep} e d=>by
   cases q:H b with
   | none=>rfl
   | some u =>
    have e':b=a:=hA b (by rw [q]; simp)
    subst e'
    rw [ha] at e; cases e
    have d':Data.seq vs.toArray _=Data.dict es ep:=d
    cases d'
  have nsK:∀ {b:Addr} {m:Str→Option Value},s₁.heap.Ns b m→(hidT s₁.heap H).Ns b m:=fun {b m} ⟨o,es,ep,e,d,r⟩=>⟨o,es,ep,base_of e (noA e d),d,r⟩
  have hKb:K.In (hidT s₁.heap H):=fun b o e=>base_of (KX b o e) (by
   cases q:H b with
   | none=>rfl
   | some u =>
    have e':b=a:=hA b (by rw [q]; simp)
    subst e'
    rw [hK (by rw [q]; simp)] at e; cases e)
  have hM:Mod K mg (hidT s₁.heap H):=⟨hKb,nsK hns,⟨mb,nsK hb,hbb⟩,let ⟨mc,h1,h2⟩:=hlim; ⟨mc,nsK h1,h2⟩⟩
  have e0:Env0 P w K mg (hidT s₁.heap H) callerA [] s₁ H:=⟨rfl,hM,fun b o e=>of_hidT e,Nat.le_of_eq (hidT_size _ _),trivial,fun b hb=>absurd (show b ∈ ([]:List Addr) from hb) (by simp),hok,.of_eq hg⟩
  refine codeAny_mono ((F _ hKb (nsK hns)).run callerA [] s₁ H ⟨[.ref a],[]⟩ [.ref a] [.ref a] _ _ hr e0 (hbind s₁ (.ref a)) (.cons rfl .nil) (hsp H hO hS)) fun r s' h=>?_
  cases r with
  | error e=>exact (hCX H e s' h).elim
  | ok fl =>
   cases fl with
   | next=>exact False.elim h
   | brk=>exact False.elim h
   | cont=>exact False.elim h
   | ret u =>
    obtain ⟨v,H',os,bare,un,hok',r',q⟩:=h
    have q':v=.bl true:=q
    subst q'
    obtain rfl:u=Value.bool true:=r'
    refine ⟨rfl,OldK.of_keep fun b o e=>?_,os,bare⟩
    cases q:H b with
    | none=>exact un.keep b o e q (by intro z; exact absurd (show b ∈ ([]:List Addr) from z) (by simp)) (by simp)
    | some u =>
     rcases hO b with z | ⟨ob,xs,z⟩
     ·rw [q] at z; cases z
     ·have z2:=un.frzs b ob _ z
      obtain ⟨e1,_⟩:=hok b _ z
      obtain ⟨e2,_⟩:=hok' b _ z2
      rw [e] at e1; cases e1
      exact e2
 cases hk:K.lookup a with
 | some o =>
  have e:=KX a o hk
  rw [ha] at e
  cases e
  refine core (fun _=>none) (fun _=>.inl rfl) (.inr ⟨_,vs.toArray,_,hk,rfl,rfl,rfl,by rw [List.size_toArray,lenV]; exact hl,by simpa using rv⟩) (fun b u z=>by have z':(none:Option HO)=some u:=z; cases z') (fun b z=>absurd rfl z) fun z=>absurd rfl z
 | none =>
  refine core (fun b=>if b=a then some (.frz { cls:=.type "list",data:=.seq vs.toArray } (.lst (ns.map V.int))) else none) (fun b=>?_) (.inl (.inr ⟨{ cls:=.type "list",data:=.seq vs.toArray },if_pos rfl⟩)) (fun b u z=>?_) (fun b z=>?_) fun _=>hk
  ·by_cases hb:b=a
   ·exact .inr ⟨_,_,if_pos hb⟩
   ·exact .inl (if_neg hb)
  ·by_cases hb:b=a
   ·have z':=(if_pos hb).symm.trans z
    cases z'
    subst hb
    exact ⟨ha,by rw [List.length_map]; exact hl,vs,_,rv,ha⟩
   ·have z':=(if_neg hb).symm.trans z
    cases z'
  ·by_cases hb:b=a
   ·exact hb
   ·exact absurd (if_neg hb) z
end L2
namespace L2
open PySem PySem.Spec PyProof.Rows
theorem walk_of {l:PySem.W.OpenLaw} {n k:Nat} {q:Program} {loose:List Str} {XP:(Str→Option Value)→Heap→Prop} {YP:World→Heap→Prop} {d:DefRec} {K:Params→PySem.W.Frag} {CX:World→CXT} {sp:World→Sp} {x:Str}
  (hn:l.most=some n) (hn2:n≤sizeLine) (hdf:d.params.defaults=[]) (hr:Room k callerA)
  (hY:∀ (w:World) (h:Heap),YP w h→(K w.params).In h)
  (F:∀ (w:World) (mg:Str→Option Value) (fa:Addr) (h:Heap),(K w.params).In h→h.Ns mainGlobals mg→mg d.name=some (.ref fa) →
   ∃ fd:FuncData,(∀ (s:Shared) (u:Value),BindsTo s fd ⟨[u],[]⟩ [(x,u)]) ∧
    ∀ base:Heap,(K w.params).In base→base.Ns mainGlobals mg→FnOk l.prog w (K w.params) mg base (CX w) k fa fd [x] (sp w))
  (hsp:∀ (w:World) (H:Hp) (a:Addr) (ns:List Int),ns.length≤n→Only H→SqL (K w.params) H a (ns.map V.int)→sp w [.ref a] H (fun v _=>v=.bl true) fun _ _ _=>False)
  (hCX:∀ (w:World) (H:Hp) (s:Shared) (e:Value) (s':Shared),CX w [] H s (fun _ _ _=>False) e s'→False) :
  PySem.W.WalkO q loose XP YP l.row.toRowW d [] (fun f vs=>PySem.call f vs):=by
 refine Att.attach_call hn hdf fun w s₀ s₁ mg mb fa o pm cd doc a vs ns G Y ho hd hcd hmg hobj hints hlen hg=>?_
 have KX:=hY w _ Y
 obtain ⟨fd,hb,hF⟩:=F w mg fa _ KX G.T.g hmg
 exact law_call KX G.T.g G.T.b G.T.builtins G.T.nolimit hg hobj hints (Nat.le_trans hlen hn2) hr hF hb (fun H hO hS=>hsp w H a ns hlen hO hS) fun H e s'=>hCX w H s₁ e s'
end L2
namespace L2
open PySem PySem.Spec PyProof.Rows
def defArgs (s:Stmt):Arguments:=match s with
 | .FunctionDef _ a _ _ _ _ _ _ _ _=>a
 | _=>{ posonlyargs:=[],args:=[],vararg:=none,kwonlyargs:=[],kw_defaults:=[],kwarg:=none,defaults:=[] }
def defBody (s:Stmt):List Stmt:=match s with
 | .FunctionDef _ _ b _ _ _ _ _ _ _=>b
 | _=>[]
def defScope (s:Stmt):Scope:=match s with
 | .FunctionDef _ _ _ _ _ _ sc _ _ _=>sc
 | _=>{ kind:=.function,names:=[],isGenerator:=false,isCoroutine:=false }
abbrev CX0:CXT:=fun _ _ _ _ _ _=>False
abbrev E0:XK:=fun _ _ _=>False
theorem pass0 {X:Cx}:Passes CX0 X E0:=fun _ _ _ _ _ _ _ h=>h.elim
structure Fun (K:PySem.W.Frag) (x qual:Str) (st:Stmt) (f:Addr) (fd:FuncData):Prop where
 ex:∃ (oc:Value) (od:Option Addr) (kV doc pm:Value) (an:Option Addr) (cdv ct:Value) (osl:Array (Option Value)),
  fd=PySem.W.fnOf x qual (defArgs st) (defBody st) (defScope st) .none kV doc pm an cdv ct∧K.lookup f=some ⟨oc,od,.func fd,osl⟩∧PySem.W.codeIn K cdv qual=true
 kp:PySem.W.keepIn K (.ref f)=true
section
variable {P:Program} {w:World} {K:PySem.W.Frag} {mg:Str→Option Value} {base:Heap}
theorem Fun.ok {x qual:Str} {st:Stmt} {f:Addr} {fd:FuncData} {N ps:List Str} {k:Nat} {sp:Sp} (F:Fun K x qual st f fd) (S:FnScope N ps (defScope st)) (len:∀ vs H Q E,sp vs H Q E→vs.length=ps.length)
  (hbody:∀ (cdv:Value) (A:Around) (outer:List Env) (s:Shared) (H:Hp) (vs:List V) (Q:VK) (E:XK),Room k (A.deeper (envOfC qual (defScope st) s.heap.objs.size f cdv))→sp vs H Q E →
   ∃ t,PSs (cxOf CX0 P w K mg base N qual (defScope st) f cdv A outer s H E).nox (defBody st) t∧t { nx:=fun _ H'=>Q .non H',rt:=Q } (start N vs) H):FnOk P w K mg base CX0 (k+1) f fd ps sp:=by
 obtain ⟨oc,od,kV,doc,pm,an,cdv,ct,osl,rfl,lk,hcd⟩:=F.ex
 refine fn_of lk hcd S len fun A outer s H vs Q E hr hsp=>?_
 obtain ⟨t,h,q⟩:=hbody cdv A outer s H vs Q E hr hsp
 exact ⟨t,h.nox,q⟩
theorem Fun.binds {x qual:Str} {st:Stmt} {f:Addr} {fd:FuncData} {ps:List Str} (F:Fun K x qual st f fd)
  (h:∀ (kV doc pm:Value) (an:Option Addr) (cdv ct:Value) (us:List Value),us.length=ps.length→bindArgs (PySem.W.fnOf x qual (defArgs st) (defBody st) (defScope st) .none kV doc pm an cdv ct) ⟨us,[]⟩=pure (ps.zip us)):Binds K fd ps []:=by
 obtain ⟨oc,od,kV,doc,pm,an,cdv,ct,osl,rfl,lk,hcd⟩:=F.ex
 exact .all (h kV doc pm an cdv ct)
theorem fun_mk {x qual:Str} {st:Stmt} {f:Addr} {oc:Value} {od an:Option Addr} {osl:Array (Option Value)} {kV doc pm cdv ct:Value} (l:K.lookup f=some ⟨oc,od,.func (PySem.W.fnOf x qual (defArgs st) (defBody st) (defScope st) .none kV doc pm an cdv ct),osl⟩)
  (c:PySem.W.codeIn K cdv qual=true) (k:PySem.W.keepIn K (.ref f)=true):Fun K x qual st f (PySem.W.fnOf x qual (defArgs st) (defBody st) (defScope st) .none kV doc pm an cdv ct):=⟨⟨oc,od,kV,doc,pm,an,cdv,ct,osl,rfl,l,c⟩,k⟩
end
theorem hu_of {A:Around} {k:Nat} (hr:Room k A):A.units+1 < cLine:=Nat.lt_of_le_of_lt (Nat.add_le_add_left (by decide:1≤64) _) hr.units
theorem small1000 {n:Nat} (h:n≤1000):n < sizeLine:=Nat.lt_of_le_of_lt h (by decide)
section
variable {X:Cx}
theorem pv (i:Nat) {x:Str} {pos:Pos} (hN:X.N[i]? = some x:=by rfl) (hv:Vis X.env.scope x:=by first | exact Or.inl rfl | exact Or.inr (Or.inl rfl) | exact Or.inr (Or.inr rfl)) (hd:(x == ("__debug__" : Str))=false:=by decide)
  (hcd:(x == ("__classdict__" : Str))=false:=by decide):PE X (.Name x pos) (tVar i):=pe_var hN hv hd hcd
end
theorem iteF {A B:Prop} (h:B):if false=true then A else B:=by
 rw [if_neg Bool.false_ne_true]
 exact h
theorem iteT {A B:Prop} (h:A):if true=true then A else B:=by
 rw [if_pos rfl]
 exact h
theorem iteNS {c A B:Prop} [Decidable c] (hc:c) (h:B):if (!decide c)=true then A else B:=by
 rw [decide_eq_true hc]
 exact iteF h
def Same (H H':Hp):Prop:=∀ b o,H b=some o→H' b=some o
theorem Same.refl (H:Hp):Same H H:=fun _ _ h=>h
theorem Same.trans {H H1 H2:Hp} (a:Same H H1) (b:Same H1 H2):Same H H2:=fun c o h=>b c o (a c o h)
theorem Same.free {H H':Hp} (e:Same H H') {l:Addr} (h:H' l=Option.none):H l=Option.none:=by
 cases q:H l with
 | none=>rfl
 | some o =>
  rw [e l o q] at h
  cases h
theorem Same.seq {K:PySem.W.Frag} {H H':Hp} {a:Addr} {xs:List V} (e:Same H H') (h:SqL K H a xs):SqL K H' a xs:=by
 rcases h with (h | ⟨o,h⟩) | h
 ·exact .inl (.inl (e _ _ h))
 ·exact .inl (.inr ⟨o,e _ _ h⟩)
 ·exact .inr h
end L2
set_option maxHeartbeats 4000000
set_option exponentiation.threshold 2000
namespace L2
open PySem PySem.Spec PyProof.Rows
section
variable {X:Cx}
theorem bits_le {i:Int} {n:Nat} (h:i.natAbs < 2 ^ n):Builtin.Int.intBits i≤n:=by
 by_cases hz:i=0
 ·subst hz
  have e:Builtin.Int.intBits 0=0:=by decide
  rw [e]
  exact Nat.zero_le _
 ·have h0:i.natAbs≠0:=by omega
  have:=(Nat.log2_lt h0).mpr h
  unfold Builtin.Int.intBits
  split
  ·exact Nat.zero_le _
  ·omega
mutual
inductive DA (K:PySem.W.Frag) (ok:Addr→Prop) (H:Hp):V→PyData→Prop
 | non:DA K ok H .non .none
 | bl (b:Bool):DA K ok H (.bl b) (.bool b)
 | int (i:Int):DA K ok H (.int i) (.int i)
 | str (x:Str):DA K ok H (.str x) (.str x)
 | lst {a:Addr} {vs:List V} {ds:List PyData}:ok a→SqL K H a vs→DAs K ok H vs ds→DA K ok H (.ref a) (.list ds)
 | tup {a:Addr} {vs:List V} {ds:List PyData}:ok a→SqT K H a vs→DAs K ok H vs ds→DA K ok H (.ref a) (.tuple ds)
inductive DAs (K:PySem.W.Frag) (ok:Addr→Prop) (H:Hp):List V→List PyData→Prop
 | nil:DAs K ok H [] []
 | cons {v:V} {d:PyData} {vs:List V} {ds:List PyData}:DA K ok H v d→DAs K ok H vs ds→DAs K ok H (v :: vs) (d :: ds)
end
abbrev any (_:Addr):Prop:=True
def Keep (ok:Addr→Prop) (H H':Hp):Prop:=∀ b o,ok b→H b=some o→H' b=some o
theorem Keep.upd {ok:Addr→Prop} {H:Hp} {p:Addr} {o:HO} (h:¬ ok p):Keep ok H (upd H p o):=fun b u n e=>by
 have ne:b≠p:=fun z=>h (by rw [←z]; exact n)
 rw [upd_ne ne]
 exact e
theorem Same.keep {ok:Addr→Prop} {H H':Hp} (e:Same H H'):Keep ok H H':=fun b o _ h=>e b o h
theorem Keep.seq {K:PySem.W.Frag} {ok:Addr→Prop} {H H':Hp} {a:Addr} {xs:List V} (e:Keep ok H H') (n:ok a) (h:SqL K H a xs):SqL K H' a xs:=by
 rcases h with (h | ⟨o,h⟩) | h
 ·exact .inl (.inl (e _ _ n h))
 ·exact .inl (.inr ⟨o,e _ _ n h⟩)
 ·exact .inr h
theorem Keep.seqT {K:PySem.W.Frag} {ok:Addr→Prop} {H H':Hp} {a:Addr} {xs:List V} (e:Keep ok H H') (n:ok a) (h:SqT K H a xs):SqT K H' a xs:=by
 rcases h with (h | ⟨o,h⟩) | h
 ·exact .inl (.inl (e _ _ n h))
 ·exact .inl (.inr ⟨o,e _ _ n h⟩)
 ·exact .inr h
theorem Same.seqT {K:PySem.W.Frag} {H H':Hp} {a:Addr} {xs:List V} (e:Same H H') (h:SqT K H a xs):SqT K H' a xs:=(e.keep (ok:=any)).seqT trivial h
theorem Same.upd {H:Hp} {p:Addr} {o:HO} (h:H p=none):Same H (upd H p o):=fun b u e=>by rw [upd_ne (ne_of_none e h)]; exact e
mutual
theorem DA.mono {K:PySem.W.Frag} {ok ok':Addr→Prop} {H H':Hp} (e:Keep ok H H') (m:∀ a,ok a→ok' a):∀ {v:V} {d:PyData},DA K ok H v d→DA K ok' H' v d
 | _,_,.non=>.non
 | _,_,.bl b=>.bl b
 | _,_,.int i=>.int i
 | _,_,.str x=>.str x
 | _,_,.lst n s r=>.lst (m _ n) (e.seq n s) (DAs.mono e m r)
 | _,_,.tup n s r=>.tup (m _ n) (e.seqT n s) (DAs.mono e m r)
theorem DAs.mono {K:PySem.W.Frag} {ok ok':Addr→Prop} {H H':Hp} (e:Keep ok H H') (m:∀ a,ok a→ok' a):∀ {v:List V} {d:List PyData},DAs K ok H v d→DAs K ok' H' v d
 | _,_,.nil=>.nil
 | _,_,.cons a r=>.cons (DA.mono e m a) (DAs.mono e m r)
end
mutual
theorem DA.reads {ok:Addr→Prop} {pins:List (Addr × Obj)} {σ:St} {H:Hp} {s:Shared} (I:Inv X pins σ H s):∀ {v:V} {d:PyData} {u:Value},DA X.K ok H v d→RelV v u→∃ as,Reads s.heap u d as
 | _,_,_,.non,r=>by cases r; exact ⟨_,.none⟩
 | _,_,_,.bl b,r=>by cases r; exact ⟨_,.bool b⟩
 | _,_,_,.int i,r=>by obtain ⟨t,rfl⟩:=r; exact ⟨_,.int i t⟩
 | _,_,_,.str x,r=>by obtain ⟨t,rfl⟩:=r; exact ⟨_,.str x t⟩
 | _,_,_,.lst _ h q,r=>by
  cases r
  obtain ⟨its,rv,⟨o,n,e,c,_,d⟩,_⟩:=I.list h
  obtain ⟨as,p⟩:=DAs.reads I q rv
  exact ⟨_,.list e c d (by simpa using p)⟩
 | _,_,_,.tup _ h q,r=>by
  cases r
  obtain ⟨its,rv,⟨o,e,c,n,d⟩,_⟩:=I.tuple h
  obtain ⟨as,p⟩:=DAs.reads I q rv
  exact ⟨_,.tuple e c d (by simpa using p)⟩
theorem DAs.reads {ok:Addr→Prop} {pins:List (Addr × Obj)} {σ:St} {H:Hp} {s:Shared} (I:Inv X pins σ H s):∀ {v:List V} {d:List PyData} {u:List Value},DAs X.K ok H v d→Vals v u→∃ as,ReadsAll s.heap u d as
 | _,_,_,.nil,r=>by cases r; exact ⟨_,.nil⟩
 | _,_,_,.cons a q,r=>by
  cases r with
  | cons r1 r2 =>
   obtain ⟨as,p⟩:=DA.reads I a r1
   obtain ⟨bs,p'⟩:=DAs.reads I q r2
   exact ⟨_,.cons p p'⟩
end
def rEqD (K:PySem.W.Frag):R2:=fun x y H Q=>∃ d e,DA K any H x d∧DA K any H y e∧(d.canLay0=true∧e.canLay0=true∧d.depth≤64)∧Q (.bl (PyData.eqv d e)) H
def rNeD (K:PySem.W.Frag):R2:=fun x y H Q=>∃ d e,DA K any H x d∧DA K any H y e∧(d.canLay0=true∧e.canLay0=true∧d.depth≤64)∧Q (.bl (!PyData.eqv d e)) H
theorem op_eqD (hu:X.A.units+64 < cLine):OpR X (compareOp .Eq) (rEqD X.K):=by
 intro pins s σ H x y v u Q I rx ry h
 obtain ⟨d,e,hd,he,⟨l1,l2,l3⟩,q⟩:=h
 obtain ⟨as,p1⟩:=hd.reads I rx
 obtain ⟨bs,p2⟩:=he.reads I ry
 exact PySem.SeqAt.compareEq_reads p1 p2 l1 l2 (by omega) ⟨.bl _,H,I,rfl,q⟩
theorem op_neD (hu:X.A.units+64 < cLine):OpR X (compareOp .NotEq) (rNeD X.K):=by
 intro pins s σ H x y v u Q I rx ry h
 obtain ⟨d,e,hd,he,⟨l1,l2,l3⟩,q⟩:=h
 obtain ⟨as,p1⟩:=hd.reads I rx
 obtain ⟨bs,p2⟩:=he.reads I ry
 exact PySem.SeqAt.compareNe_reads p1 p2 l1 l2 (by omega) ⟨.bl _,H,I,rfl,q⟩
end
theorem iteNP {c A B:Prop} [Decidable c] (hc:¬ c) (h:A):if (!decide c)=true then A else B:=by
 rw [decide_eq_false hc]
 exact iteT h
theorem itDP {c A B:Prop} [Decidable c] (hc:c) (h:A):if decide c=true then A else B:=by
 rw [decide_eq_true hc]
 exact iteT h
theorem itDN {c A B:Prop} [Decidable c] (hc:¬ c) (h:B):if decide c=true then A else B:=by
 rw [decide_eq_false hc]
 exact iteF h
structure Dn (K:PySem.W.Frag) (mg:Str→Option Value) (x:Str) (st:Stmt) (ps:List Str) (f:Addr) (fd:FuncData):Prop where
 fn:Fun K x x st f fd
 gl:mg x=some (.ref f)
 bd:Binds K fd ps []
section
variable {X:Cx} {k:Nat} {f:Addr} {fd:FuncData} {x:Str} {st:Stmt} {ps:List Str} {sp:Sp} {e:Expr} {es:List Expr} {p pos:Pos} {t:TA}
theorem pe_fn (D:Dn X.K X.mg x st ps f fd) (G:FnOk X.prog X.w X.K X.mg X.base CX0 k f fd ps sp) (hr:Room k X.A) (hg:Gl X x) (ha:PA X (e :: es) t) (hdb:(x == ("__debug__" : Str))=false:=by decide)
  (hs:starEach (e :: es) X.env=(false,eval e X.env) :: starEach es X.env:=by rfl) (hpl:(backTo pos (starEach es X.env)).any (·.1)=false:=by rfl):PE X (.Call (.Name x p) (e :: es) [] pos) (tCall sp [] E0 t) :=
 pe_call G hr hg D.gl D.fn.kp D.bd .nil pass0 ha hdb hs hpl
end
end L2
namespace L2
open PySem PySem.Spec PyProof.Rows
def blkN (N:List Str) (x:Str):List Str:=N.map (fun y=>if y=x then Str.empty else y)++[x]
def clOf (cells:List (Str × Addr)):List (Str × NameKind)→List (Str × Addr)→List (Str × Addr)
 | [],acc=>acc
 | (n,k) :: r,acc=>clOf cells r (if (k == .free)=true then (match cells.lookup n with | some c=>(n,c) :: acc | none=>acc) else acc)
structure LcScope (S:Scope) (N:List Str) (sc:Scope) (x:Str):Prop where
 uniq:(sc.names.map (·.1)).Nodup
 kind:sc.kind=.function
 names:∀ y ∈ sc.names,y.2=.local→sc.names.lookup y.1=some .local
 loc:sc.names.lookup x=some .local ∨ sc.names.lookup x=some .cell
 free:∀ y ∈ sc.names,y.2=.free→S.names.lookup y.1=some .cell ∨ S.names.lookup y.1=some .free
 only:∀ y ∈ sc.names,y.2=.local→y.1=x ∨ y.1 = ".0"
 onlyC:∀ y ∈ sc.names,y.2=.cell→y.1=x
 ne:∀ y ∈ sc.names,y.1≠Str.empty
 dot:∀ y ∈ N,y≠".0"
 nd:(blkN N x).Nodup
theorem lookup_relab {c:Str→NameKind→Bool} {y:Str}:∀ (names:List (Str × NameKind)),(names.map fun (n,k)=>if c n k=true then (n,NameKind.cell) else (n,k)).lookup y=(names.lookup y).map fun k=>if c y k=true then NameKind.cell else k
 | []=>rfl
 | (n,k) :: r=>by
  have ih:=lookup_relab (c:=c) (y:=y) r
  show List.lookup y ((if c n k=true then (n,NameKind.cell) else (n,k)) :: _)=_
  cases hx:y == n with
  | true =>
   have e:y=n:=by simpa using hx
   subst e
   by_cases hc:c y k=true
   ·rw [if_pos hc]; simp [List.lookup_cons,hc]
   ·rw [if_neg hc]; simp [List.lookup_cons,hc]
  | false =>
   by_cases hc:c n k=true
   ·rw [if_pos hc]; simp only [List.lookup_cons,hx]; exact ih
   ·rw [if_neg hc]; simp only [List.lookup_cons,hx]; exact ih
theorem relab_lookup {sc:Scope} {env:Env} {y:Str} {k:NameKind} (h:(relabel sc env).names.lookup y=some k):∃ k0,(y,k0) ∈ sc.names∧(k=k0 ∨ (k=.cell∧k0=.free)):=by
 have e:=lookup_relab (c:=fun n k=>k == NameKind.free && env.scope.kind == .function && env.kindOf n == some .cell) (y:=y) sc.names
 have h':(sc.names.map fun (n,k)=>if (k == NameKind.free && env.scope.kind == .function && env.kindOf n == some .cell)=true then (n,NameKind.cell) else (n,k)).lookup y=some k:=h
 rw [e] at h'
 cases q:sc.names.lookup y with
 | none=>rw [q] at h'; cases h'
 | some k0 =>
  rw [q] at h'
  refine ⟨k0,PySem.mem_of_lookup q,?_⟩
  have h'':(if (k0 == NameKind.free && env.scope.kind == .function && env.kindOf y == some .cell)=true then NameKind.cell else k0)=k:=Option.some.inj h'
  by_cases hc:(k0 == NameKind.free && env.scope.kind == .function && env.kindOf y == some .cell)=true
  ·rw [if_pos hc] at h''
   refine .inr ⟨h''.symm,?_⟩
   have:=(Bool.and_eq_true_iff.mp (Bool.and_eq_true_iff.mp hc).1).1
   simpa using this
  ·rw [if_neg hc] at h''
   exact .inl h''.symm
theorem clOf_sub {cells:List (Str × Addr)}:∀ (names:List (Str × NameKind)) (acc:List (Str × Addr)),(∀ y c,acc.lookup y=some c→cells.lookup y=some c)→∀ y c,(clOf cells names acc).lookup y=some c→cells.lookup y=some c
 | [],_,h=>h
 | (n,k) :: r,acc,h=>by
  refine clOf_sub r _ fun y c=>?_
  by_cases hk:(k == NameKind.free)=true
  ·rw [if_pos hk]
   cases q:cells.lookup n with
   | none=>exact h y c
   | some d =>
    intro e
    show cells.lookup y=some c
    have e':List.lookup y ((n,d) :: acc)=some c:=e
    rw [List.lookup_cons] at e'
    cases hx:y == n with
    | true =>
     rw [hx] at e'
     have:y=n:=by simpa using hx
     subst this
     rw [q]; exact e'
    | false =>
     rw [hx] at e'
     exact h y c e'
  ·rw [if_neg hk]
   exact h y c
theorem clOf_acc {cells:List (Str × Addr)} {y:Str}:∀ (names:List (Str × NameKind)) (acc:List (Str × Addr)),(acc.lookup y).isSome=true→((clOf cells names acc).lookup y).isSome=true
 | [],_,h=>h
 | (n,k) :: r,acc,h=>by
  refine clOf_acc r _ ?_
  by_cases hk:(k == NameKind.free)=true
  ·rw [if_pos hk]
   cases q:cells.lookup n with
   | none=>exact h
   | some d =>
    show (List.lookup y ((n,d) :: acc)).isSome=true
    rw [List.lookup_cons]
    cases hx:y == n with
    | true=>rfl
    | false=>exact h
  ·rw [if_neg hk]; exact h
theorem clOf_has {cells:List (Str × Addr)} {y:Str} (hc:(cells.lookup y).isSome=true):∀ (names:List (Str × NameKind)) (acc:List (Str × Addr)),(y,NameKind.free) ∈ names→((clOf cells names acc).lookup y).isSome=true
 | (n,k) :: r,acc,h=>by
  rcases List.mem_cons.mp h with e | h
  ·cases e
   refine clOf_acc r _ ?_
   rw [if_pos (by rfl)]
   obtain ⟨c,q⟩:=Option.isSome_iff_exists.mp hc
   rw [q]
   show (List.lookup y ((y,c) :: acc)).isSome=true
   rw [List.lookup_cons,beq_self_eq_true]
   rfl
  ·exact clOf_has hc r _ h
theorem cellOf_some {env:Env} {y:Str} {c:Addr} (h:env.cells.lookup y=some c):cellOf env y=pure c:=by
 unfold cellOf
 rw [h]
theorem closure_of {sc:Scope} {env:Env} (h:∀ y ∈ sc.names,y.2=.free→(env.cells.lookup y.1).isSome=true):closureFor sc env=pure (clOf env.cells sc.names []):=by
 have all:∀ (names:List (Str × NameKind)) (acc:List (Str × Addr)),(∀ y ∈ names,y.2=.free→(env.cells.lookup y.1).isSome=true) →
   (forIn names acc fun (x:Str × NameKind) (cs:List (Str × Addr))=>(do
    let (name,kind):=x
    if (kind == .free)=true then let c ← cellOf env name; pure (ForInStep.yield ((name,c) :: cs)) else pure (ForInStep.yield cs):Sem (ForInStep (List (Str × Addr)))))=pure (clOf env.cells names acc):=by
  intro names
  induction names with
  | nil=>intro acc _; rfl
  | cons a r ih =>
   intro acc hh
   obtain ⟨n,k⟩:=a
   rw [List.forIn_cons]
   by_cases hk:(k == NameKind.free)=true
   ·obtain ⟨c,q⟩:=Option.isSome_iff_exists.mp (hh (n,k) List.mem_cons_self (by simpa using hk))
    simp only [hk,if_true,cellOf_some q,pure_bind]
    rw [ih _ fun y hy=>hh y (List.mem_cons_of_mem _ hy)]
    show pure (clOf env.cells r ((n,c) :: acc))=pure (clOf env.cells r (if (k == NameKind.free)=true then _ else acc))
    rw [if_pos hk,q]
   ·simp only [hk,Bool.false_eq_true,if_false,pure_bind]
    rw [ih _ fun y hy=>hh y (List.mem_cons_of_mem _ hy)]
    show pure (clOf env.cells r acc)=pure (clOf env.cells r (if (k == NameKind.free)=true then _ else acc))
    rw [if_neg hk]
 unfold closureFor
 first
  | exact (congrArg (fun z=>z >>= pure) (all sc.names [] h)).trans (by simp)
  | (have e:=all sc.names [] h
     simp only [bind_pure] at e ⊢
     exact e)
def ownC (sc:Scope) (x:Str) (n:Nat):List (Str × Addr):=if sc.names.lookup x=some .cell then [(x,n)] else []
def Cx.blk (X:Cx) (N':List Str) (sc:Scope) (x:Str) (s₀:Shared) (H₀:Hp) (fp:List Addr):Cx :=
 { X with N:=N',s₀:=s₀,H₀:=H₀,env:=compEnvC sc (ownC sc x (s₀.heap.objs.size+1)++clOf X.env.cells sc.names []) s₀.heap.objs.size X.env,outer:=X.stack,stack:=X.stack,ex:=fp,fn:=fun y=>decide (y=x∧sc.names.lookup x=some .cell),pn:=[],xe:=fun _ _=>False }
theorem lookup_mem {α:Type}:∀ {l:List (Str × α)} {y:Str} {k:α},(l.map (·.1)).Nodup→(y,k) ∈ l→l.lookup y=some k
 | (n,v) :: r,y,k,nd,h=>by
  rw [List.lookup_cons]
  have nd':(n :: r.map (·.1)).Nodup:=nd
  obtain ⟨h1,h2⟩:=List.nodup_cons.mp nd'
  rcases List.mem_cons.mp h with e | h
  ·cases e
   rw [beq_self_eq_true]
  ·have ne:(y == n)=false:=by
    rw [beq_eq_false_iff_ne]
    exact fun e=>h1 (List.mem_map.mpr ⟨(y,k),h,e⟩)
   rw [ne]
   exact lookup_mem h2 h
theorem cellsFrom_none {acc:List (Str × Addr)}:∀ {names:List (Str × NameKind)} {n:Nat},(∀ y ∈ names,y.2≠.cell)→cellsFrom n names acc=acc
 | [],_,_=>rfl
 | (y,k) :: r,n,h=>by
  unfold cellsFrom
  rw [if_neg (by simpa using h (y,k) List.mem_cons_self)]
  exact cellsFrom_none fun z hz=>h z (List.mem_cons_of_mem _ hz)
theorem pushCells_none:∀ {names:List (Str × NameKind)} {h:Heap},(∀ y ∈ names,y.2≠.cell)→pushCells h names=h
 | [],_,_=>rfl
 | (y,k) :: r,h,hn=>by
  unfold pushCells
  rw [if_neg (by simpa using hn (y,k) List.mem_cons_self)]
  exact pushCells_none fun z hz=>hn z (List.mem_cons_of_mem _ hz)
theorem cellsFrom_one {x:Str} {acc:List (Str × Addr)}:∀ {names:List (Str × NameKind)} {n:Nat},(names.map (·.1)).Nodup→(∀ y ∈ names,y.2=.cell→y.1=x)→(x,NameKind.cell) ∈ names→cellsFrom n names acc=(x,n) :: acc
 | (y,k) :: r,n,nd,ho,hm=>by
  have nd':(y :: r.map (·.1)).Nodup:=nd
  obtain ⟨h1,h2⟩:=List.nodup_cons.mp nd'
  unfold cellsFrom
  by_cases hk:(k == NameKind.cell)=true
  ·rw [if_pos hk]
   have e:y=x:=ho (y,k) List.mem_cons_self (by simpa using hk)
   subst e
   refine cellsFrom_none fun z hz hc=>h1 (List.mem_map.mpr ⟨z,hz,?_⟩)
   exact ho z (List.mem_cons_of_mem _ hz) hc
  ·rw [if_neg hk]
   rcases List.mem_cons.mp hm with e | hm
   ·cases e
    exact absurd rfl hk
   ·exact cellsFrom_one h2 (fun z hz=>ho z (List.mem_cons_of_mem _ hz)) hm
theorem pushCells_one {x:Str}:∀ {names:List (Str × NameKind)} {h:Heap},(names.map (·.1)).Nodup→(∀ y ∈ names,y.2=.cell→y.1=x)→(x,NameKind.cell) ∈ names→pushCells h names=h.push { cls:=.type "cell",data:=.cell none }
 | (y,k) :: r,h,nd,ho,hm=>by
  have nd':(y :: r.map (·.1)).Nodup:=nd
  obtain ⟨h1,h2⟩:=List.nodup_cons.mp nd'
  unfold pushCells
  by_cases hk:(k == NameKind.cell)=true
  ·rw [if_pos hk]
   have e:y=x:=ho (y,k) List.mem_cons_self (by simpa using hk)
   subst e
   refine pushCells_none fun z hz hc=>h1 (List.mem_map.mpr ⟨z,hz,?_⟩)
   exact ho z (List.mem_cons_of_mem _ hz) hc
  ·rw [if_neg hk]
   rcases List.mem_cons.mp hm with e | hm
   ·cases e
    exact absurd rfl hk
   ·exact pushCells_one h2 (fun z hz=>ho z (List.mem_cons_of_mem _ hz)) hm
theorem newEnv_lc {M:Model} {A:Around} {E:Value→Shared→Prop} {s:Shared} {scope:Scope} {globals:Addr} {closure:List (Str × Addr)} {qual:Str} {func:Option Addr} {code:Value} {outer:Env} {builtins:Addr} {Q:Env→Shared→Prop}
  (hQ:Q (newEnv scope s.heap.objs.size globals (cellsFrom (s.heap.objs.size+1) scope.names closure) qual func code (some outer) builtins) { s with heap:=pushCells (s.heap.push { cls:=.type "dict",data:=.dict #[] }) scope.names }) :
  wpAny M A (newFunctionEnv scope globals closure [] qual func code (some outer) builtins) Q E s:=by
 simp only [newFunctionEnv,Option.isSome_some,if_true]
 refine wpAny_bind (wpAny_alloc ?_)
 refine wpAny_bind (wpAny_layCells _ (fun name kind cells=>by cases hkc:kind == NameKind.cell <;> simp [hkc]) _ _ _ _ ?_)
 rw [show ({ s with heap:=s.heap.push { cls:=.type "dict",data:=.dict #[] } }:Shared).heap.objs.size=s.heap.objs.size+1 from Heap.size_push ..]
 exact wpAny_bind (wpAny_pure (wpAny_pure hQ))
theorem LcScope.cells {S:Scope} {N:List Str} {sc:Scope} {x:Str} (L:LcScope S N sc x) (n:Nat) (cl:List (Str × Addr)):cellsFrom n sc.names cl=ownC sc x n++cl:=by
 unfold ownC
 rcases L.loc with h | h
 ·rw [if_neg (by rw [h]; simp)]
  exact cellsFrom_none fun y hy hc=>by
   have e:=L.onlyC y hy hc
   have:=lookup_mem L.uniq (y:=x) (k:=.cell) (by rw [←e,←hc]; exact hy)
   rw [h] at this
   cases this
 ·rw [if_pos h]
  exact cellsFrom_one L.uniq L.onlyC (PySem.mem_of_lookup h)
theorem LcScope.heap {S:Scope} {N:List Str} {sc:Scope} {x:Str} (L:LcScope S N sc x) (h:Heap):(∀ b o,h.get? b=some o→(pushCells h sc.names).get? b=some o)∧(sc.names.lookup x=some .cell→(pushCells h sc.names).IsCell h.objs.size none):=by
 refine ⟨fun b o e=>pushCells_keeps _ _ b o e,fun hc=>?_⟩
 rw [pushCells_one L.uniq L.onlyC (PySem.mem_of_lookup hc)]
 exact ⟨_,Heap.get?_push_size _ rfl,rfl⟩
theorem ownC_lookup {sc:Scope} {x y:Str} {n:Nat} {c:Addr} {cl:List (Str × Addr)} (h:(ownC sc x n++cl).lookup y=some c):(y=x∧c=n∧sc.names.lookup x=some .cell) ∨ cl.lookup y=some c:=by
 unfold ownC at h
 by_cases hc:sc.names.lookup x=some .cell
 ·rw [if_pos hc] at h
  have h':List.lookup y ((x,n) :: cl)=some c:=h
  rw [List.lookup_cons] at h'
  cases e:y == x with
  | true =>
   rw [e] at h'
   exact .inl ⟨by simpa using e,(Option.some.inj h').symm,hc⟩
  | false =>
   rw [e] at h'
   exact .inr h'
 ·rw [if_neg hc] at h
  exact .inr h
theorem ownC_other {sc:Scope} {x y:Str} {n:Nat} {cl:List (Str × Addr)} (h:y≠x):(ownC sc x n++cl).lookup y=cl.lookup y:=by
 unfold ownC
 by_cases hc:sc.names.lookup x=some .cell
 ·rw [if_pos hc]
  show List.lookup y ((x,n) :: cl)=_
  rw [List.lookup_cons,beq_eq_false_iff_ne.mpr h]
 ·rw [if_neg hc]
  rfl
theorem ownC_self {sc:Scope} {x:Str} {n:Nat} {cl:List (Str × Addr)} (h:sc.names.lookup x=some .cell):(ownC sc x n++cl).lookup x=some n:=by
 unfold ownC
 rw [if_pos h]
 show List.lookup x ((x,n) :: cl)=_
 rw [List.lookup_cons,beq_self_eq_true]
section
variable {X:Cx} {pins:List (Addr × Obj)} {σ:St} {H:Hp} {s:Shared} {sc:Scope} {x:Str} {fp:List Addr}
theorem blkN_len (N:List Str) (x:Str):(blkN N x).length=N.length+1:=by simp [blkN]
theorem blkN_at {N:List Str} {x:Str} {i:Nat} {y:Str} (h:(blkN N x)[i]? = some y) (hi:i < N.length):∃ y0,N[i]? = some y0∧((y0=x∧y=Str.empty) ∨ (y0≠x∧y=y0)):=by
 unfold blkN at h
 rw [List.getElem?_append_left (by simpa using hi),List.getElem?_map] at h
 cases q:N[i]? with
 | none=>rw [q] at h; cases h
 | some y0 =>
  rw [q] at h
  refine ⟨y0,rfl,?_⟩
  have h':(if y0=x then Str.empty else y0)=y:=Option.some.inj h
  by_cases e:y0=x
  ·rw [if_pos e] at h'; exact .inl ⟨e,h'.symm⟩
  ·rw [if_neg e] at h'; exact .inr ⟨e,h'.symm⟩
theorem Inv.has_cell (I:Inv X pins σ H s) {S:Scope} (L:LcScope S X.N sc x) (hS:X.env.scope=S):∀ y ∈ sc.names,y.2=.free→(X.env.cells.lookup y.1).isSome=true:=fun y hy hf=>by
 have k:X.env.kindOf y.1=some .cell ∨ X.env.kindOf y.1=some .free:=by
  show X.env.scope.names.lookup y.1=_ ∨ X.env.scope.names.lookup y.1=_
  rw [hS]
  exact L.free y hy hf
 obtain ⟨c,e⟩:=I.ok.has y.1 k
 rw [e]; rfl
theorem Inv.blk (I:Inv X pins σ H s) {S:Scope} (L:LcScope S X.N sc x) (hS:X.env.scope=S) (hf:∀ b ∈ fp,FpOk X pins H b) (hb:∀ b ∈ fp,b < s.heap.objs.size) {h1:Heap} {tk:Nat} {m:Str→Option Value} (hn:h1.Ns s.heap.objs.size m)
  (hk:∀ b o,s.heap.get? b=some o→h1.get? b=some o) (hoc:sc.names.lookup x=some .cell→h1.IsCell (s.heap.objs.size+1) none):Inv (X.blk (blkN X.N x) sc x s H fp) [] (σ++[none]) H { s with heap:=h1,toks:=tk }:=by
 have sub:∀ y c,(clOf X.env.cells sc.names []).lookup y=some c→X.env.cells.lookup y=some c:=clOf_sub sc.names [] fun _ _ z=>by cases z
 have sub2:∀ y c,(ownC sc x (s.heap.objs.size+1)++clOf X.env.cells sc.names []).lookup y=some c→(y=x∧c=s.heap.objs.size+1∧sc.names.lookup x=some .cell) ∨ X.env.cells.lookup y=some c:=fun y c e =>
  (ownC_lookup e).imp id (sub y c)
 have ltc:∀ y c,X.env.cells.lookup y=some c→c < s.heap.objs.size:=fun y c e=>by
  obtain ⟨v,z⟩:=I.cell y c e
  exact z.lt
 have fkey:∀ y,(y,NameKind.free) ∈ sc.names→y≠x:=fun y hy e=>by
  subst e
  have z:=lookup_mem L.uniq hy
  rcases L.loc with q | q <;> rw [q] at z <;> cases z
 have hasC:∀ y,(y,NameKind.free) ∈ sc.names→∃ c,(ownC sc x (s.heap.objs.size+1)++clOf X.env.cells sc.names []).lookup y=some c:=fun y hy=>by
  rw [ownC_other (fkey y hy)]
  exact Option.isSome_iff_exists.mp (clOf_has (I.has_cell L hS (y,.free) hy rfl) sc.names [] hy)
 have kinds:∀ y k,(relabel sc X.env).names.lookup y=some k→(k=.cell ∨ k=.free)→(y,NameKind.free) ∈ sc.names ∨ (y=x∧sc.names.lookup x=some .cell):=fun y k e hk=>by
  obtain ⟨k0,hm,q⟩:=relab_lookup e
  rcases q with rfl | ⟨_,rfl⟩
  ·rcases hk with rfl | rfl
   ·have e:=L.onlyC _ hm rfl
    have e':y=x:=e
    subst e'
    exact .inr ⟨rfl,lookup_mem L.uniq hm⟩
   ·exact .inl hm
  ·exact .inl hm
 have stk:=I.stkSub
 refine ⟨⟨I.ok.mod,L.kind,I.ok.glob,I.ok.blt,Nat.le_refl _,fun y z c e1 e2=>?_,fun y hy=>?_,fun y c z e=>?_,I.ok.hd,I.ok.frames,.inl rfl,fun b hb'=>?_,I.bs,Nat.le_trans I.ok.bsz I.sz,fun b o e hb'=>?_,fun b hb' z=>?_,I.stack,I.stkFree⟩,
  rfl,I.bare,Un.kept hk,⟨m,hn,fun i y v e1 e2 e3=>?_⟩,fun y c e=>?_,I.hok.fresh (Nat.le_refl _),fun y c e=>?_,fun p hp=>absurd (show p ∈ ([]:List (Addr × Obj)) from hp) (by simp),I.hok.kept hk,?_⟩
 ·rcases sub2 y c e1 with ⟨q1,q2,_⟩ | q <;> rcases sub2 z c e2 with ⟨q1',q2',_⟩ | q'
  ·rw [q1,q1']
  ·have z1:=ltc z c q'
   rw [q2] at z1
   exact absurd z1 (Nat.not_lt.mpr (Nat.le_succ _))
  ·have z1:=ltc y c q
   rw [q2'] at z1
   exact absurd z1 (Nat.not_lt.mpr (Nat.le_succ _))
  ·exact I.ok.inj y z c q q'
 ·have hy':(relabel sc X.env).names.lookup y=some .cell ∨ (relabel sc X.env).names.lookup y=some .free:=hy
  have z:(y,NameKind.free) ∈ sc.names ∨ (y=x∧sc.names.lookup x=some .cell):=by
   rcases hy' with e | e
   ·exact kinds y _ e (.inl rfl)
   ·exact kinds y _ e (.inr rfl)
  rcases z with z | ⟨rfl,z⟩
  ·exact hasC y z
  ·exact ⟨_,ownC_self z⟩
 ·have z':decide (y=x∧sc.names.lookup x=some .cell)=true:=z
  obtain ⟨rfl,z2⟩:=of_decide_eq_true z'
  have e':(ownC sc y (s.heap.objs.size+1)++clOf X.env.cells sc.names []).lookup y=some c:=e
  rw [ownC_self z2] at e'
  cases e'
  exact Nat.le_succ _
 ·obtain ⟨f0,f1,f2,f3,f4,f5⟩:=hf b hb'
  refine ⟨Nat.ne_of_lt (hb b hb'),fun y c e z=>?_⟩
  rcases sub2 y c e with ⟨_,q2,_⟩ | q
  ·have z1:=hb b hb'
   rw [←z,q2] at z1
   exact absurd z1 (Nat.not_lt.mpr (Nat.le_succ _))
  ·exact f4 y c q z
 ·obtain ⟨f0,f1,f2,f3,f4,f5⟩:=hf b hb'
  rcases f3 with z | z
  ·exact I.ok.noex b o e z
  ·exact absurd (Nat.lt_of_lt_of_le (Heap.lt_size (I.ok.bs b o e).1) z) (Nat.lt_irrefl _)
 ·obtain ⟨f0,f1,f2,f3,f4,f5⟩:=hf b hb'
  rcases List.mem_cons.mp (stk b z) with q | q
  ·exact f1 q
  ·exact f2 q
 ·have hl:σ.length=X.N.length:=I.len
  have hi:i < X.N.length:=by
   by_cases hi:i < σ.length
   ·omega
   ·rw [List.getElem?_append_right (by omega)] at e2
    cases q:i - σ.length with
    | zero=>rw [q] at e2; cases e2
    | succ n=>rw [q] at e2; cases e2
  rw [List.getElem?_append_left (by omega)] at e2
  obtain ⟨y0,g1,g2⟩:=blkN_at e1 hi
  have vis:∃ k,(relabel sc X.env).names.lookup y=some k∧(k=.local ∨ k=.cell ∨ k=.free):=by
   rcases e3 with q | q | q
   ·exact ⟨_,q,.inl rfl⟩
   ·exact ⟨_,q,.inr (.inl rfl)⟩
   ·exact ⟨_,q,.inr (.inr rfl)⟩
  obtain ⟨k,q,hk'⟩:=vis
  obtain ⟨k0,hm,q0⟩:=relab_lookup q
  rcases g2 with ⟨_,rfl⟩ | ⟨g2,rfl⟩
  ·exact absurd rfl (L.ne _ hm)
  ·have hkc:k=.cell ∨ k=.free:=by
    rcases hk' with rfl | z
    ·exfalso
     rcases q0 with rfl | ⟨z,_⟩
     ·rcases L.only _ hm rfl with z | z
      ·exact g2 z
      ·exact L.dot y (List.mem_of_getElem? g1) z
     ·cases z
    ·exact z
   have hfr:(y,NameKind.free) ∈ sc.names:=(kinds y k q hkc).resolve_right fun z=>g2 z.1
   have visX:X.env.scope.names.lookup y=some .cell ∨ X.env.scope.names.lookup y=some .free:=by rw [hS]; exact L.free _ hfr rfl
   obtain ⟨m0,_,hl0⟩:=I.loc
   obtain ⟨u,r,lk⟩:=hl0 i y v g1 e2 (.inr visX)
   refine ⟨u,r,?_⟩
   rcases lk with ⟨z,_⟩ | ⟨_,c,ec,hc⟩
   ·exfalso
    have z':X.env.scope.names.lookup y=some .local:=z
    rcases visX with w' | w' <;> rw [z'] at w' <;> cases w'
   ·obtain ⟨c',ec'⟩:=hasC y hfr
    have:c'=c:=by
     rw [ownC_other (fkey y hfr)] at ec'
     exact Option.some.inj ((sub y c' ec').symm.trans ec)
    subst this
    refine .inr ⟨?_,c',ec',?_⟩
    ·rcases hkc with rfl | rfl
     ·exact .inl q
     ·exact .inr q
    ·obtain ⟨o,ho,hd⟩:=hc
     exact ⟨o,hk _ _ ho,hd⟩
 ·rcases sub2 y c e with ⟨_,q2,q3⟩ | q
  ·rw [q2]; exact ⟨_,hoc q3⟩
  ·obtain ⟨v,o,ho,hd⟩:=I.cell y c q
   exact ⟨v,o,hk _ _ ho,hd⟩
 ·rcases sub2 y c e with ⟨_,q2,_⟩ | q
  ·rw [q2]; exact I.hok.fresh (Nat.le_succ _)
  ·exact I.freeC y c q
 ·rw [List.length_append,I.len]
  exact (blkN_len X.N x).symm
theorem relab_own {sc:Scope} {env:Env} {x:Str} (h:sc.names.lookup x=some .cell):(relabel sc env).names.lookup x=some .cell:=by
 have e:=lookup_relab (c:=fun n k=>k == NameKind.free && env.scope.kind == .function && env.kindOf n == some .cell) (y:=x) sc.names
 show (sc.names.map fun (n,k)=>if (k == NameKind.free && env.scope.kind == .function && env.kindOf n == some .cell)=true then (n,NameKind.cell) else (n,k)).lookup x=some .cell
 rw [e,h]
 rfl
theorem relab_loc {S:Scope} {N:List Str} {env:Env} (L:LcScope S N sc x):Loc (relabel sc env) x:=by
 rcases L.loc with h | h
 ·exact .inl (lookup_relabel_local h)
 ·exact .inr (relab_own h)
theorem relab_fn {S:Scope} {N:List Str} {env:Env} (L:LcScope S N sc x):decide (x=x∧sc.names.lookup x=some .cell)=true ∨ (relabel sc env).names.lookup x=some .local:=by
 rcases L.loc with h | h
 ·exact .inr (lookup_relabel_local h)
 ·exact .inl (decide_eq_true ⟨rfl,h⟩)
theorem compLoopG {prog:Program} {w:World} {A:Around} {R:Result→Shared→Prop} {elt target iter:Expr} {scope:Scope} {pos:Pos} {it acc:Value} {env:Env} (I:Nat→Shared→Prop)
  (turn:∀ n s,I n s→wpAny (model prog w) A (pyNext it) (fun r s₁=>match r with
   | none=>R (.ok .next) s₁
   | some v=>wpAny (model prog w) A (letOwnedTupleGo target it v) (fun _ s₁'=>wpAny (model prog w) A (assign target env v) (fun _ s₂=>wpAny (model prog w) A (eval elt env) (fun x s₃ =>
     wpAny (model prog w) A (call (.builtin "list.append") [acc,x]) (fun _ s₄=>∃ m,m < n∧I m s₄) (fun _ _=>False) s₃) (fun _ _=>False) s₂) (fun _ _=>False) s₁') (fun _ _=>False) s₁) (fun _ _=>False) s)
  (n:Nat) (h:I n s):codeAny (model prog w) A (.compLoop (.ListComp elt [⟨target,iter,[],0⟩] scope pos) 0 it acc env) R s:=by
 refine codeAny_loop rfl I (fun n s hI=>?_) n h
 show wpAny _ _ ((compTurn (.ListComp elt [⟨target,iter,[],0⟩] scope pos) 0 it acc env).onRaise (fun x=>do noteFrame x env; theTreesLotGoes x)) _ _ s
 refine wpAny_noted ?_
 rw [compTurn_list1]
 refine wpAny_bind (wpAny_standAt (wpAny_bind (wpAny_mono (turn n s hI) (fun r s₁ h₁=>?_) fun _ _ z=>z.elim)))
 cases r with
 | none=>exact wpAny_pure h₁
 | some v =>
  exact wpAny_bind (wpAny_mono h₁ (fun _ s₁' h₁'=>wpAny_bind (wpAny_mono h₁' (fun _ s₂ h₂=>wpAny_bind (wpAny_bind (wpAny_mono h₂ (fun x s₃ h₃=>wpAny_bind (wpAny_mono h₃
   (fun _ s₄ h₄=>wpAny_pure (wpAny_pure ⟨rfl,h₄⟩)) fun _ _ z=>z.elim)) fun _ _ z=>z.elim))) fun _ _ z=>z.elim)) fun _ _ z=>z.elim)
def tLc (ti:TI) (te:TE):TE:=fun σ H Q=>ti σ H fun J H1=>∀ D,H1 D=none→∃ W:Nat→Nat→List V→Hp→Prop,(∃ m,W 0 m [] (upd H1 D (.lst []))) ∧
 ∀ i m ys H',W i m ys H'→H' D=some (.lst ys)∧((J.stop i H'∧Q (.ref D) H') ∨ (J.go i H'∧∀ z H2,J.yld i H' z H2→te (σ++[some z]) H2 fun v H3=>H3 D=some (.lst ys)∧ys.length < sizeLine∧∃ m',m' < m∧W (i+1) m' (ys++[v]) (upd H3 D (.lst (ys++[v])))))
theorem lc_core {elt iter:Expr} {px pos:Pos} {te:TE} {S:Scope} {use:Option (Value→Sem Unit)} {QQ:Value→Shared→Prop} {Q:VK} {it:Addr} {tn:Nat→Heap→Prop} {J:It} (hc:X.calm=true) (L:LcScope S X.N sc x) (hS:X.env.scope=S)
  (he:∀ (s₀:Shared) (H₀:Hp) (fp:List Addr),PE (X.blk (blkN X.N x) sc x s₀ H₀ fp) elt te)
  (I:Inv X pins σ H s) (T:Turn X.prog X.w X.K (.Name x px) J fp it tn) (st:tn 0 s.heap) (hf:∀ b ∈ fp,FpOk X pins H b)
  (h:∀ D,H D=none→∃ W:Nat→Nat→List V→Hp→Prop,(∃ m,W 0 m [] (upd H D (.lst []))) ∧
   ∀ i m ys H',W i m ys H'→H' D=some (.lst ys)∧((J.stop i H'∧Q (.ref D) H') ∨ (J.go i H'∧∀ z H2,J.yld i H' z H2→te (σ++[some z]) H2 fun v H3=>H3 D=some (.lst ys)∧ys.length < sizeLine∧∃ m',m' < m∧W (i+1) m' (ys++[v]) (upd H3 D (.lst (ys++[v]))))))
  (fin:∀ (D C:Addr) (H':Hp) (s':Shared) (m:Str→Option Value),Inv X pins σ H' s'→Q (.ref D) H'→s'.heap.Ns C m→H' C=none→s.heap.objs.size≤C→(∀ p ∈ X.pn++pins,p.1≠C)→C≠X.env.locals→(∀ y c,X.env.cells.lookup y=some c→c≠C)→compPost (model X.prog X.w) X.A X.xe use QQ (.ref D) C (.ok .next) s') :
  wpAny (model X.prog X.w) X.A (newList []) (fun acc s₃=>wpAny (model X.prog X.w) X.A (newFunctionEnv sc X.env.globals (clOf X.env.cells sc.names []) [] X.env.qual none .none (some X.env)) (fun cenv s₄ =>
   codeAny (model X.prog X.w) X.A (.compStart (.ListComp elt [⟨.Name x px,iter,[],0⟩] sc pos) 0 (.ref it) acc { cenv with scope:=relabel sc X.env }) (compPost (model X.prog X.w) X.A X.xe use QQ acc cenv.locals) s₄) X.xe s₃) X.xe s:=by
 refine wpAny_newObj_type ?_
 have hD:H s.heap.objs.size=none:=I.hok.fresh (Nat.le_refl _)
 obtain ⟨W,⟨m0,w0⟩,turn⟩:=h s.heap.objs.size hD
 have I2:Inv X pins σ (upd H s.heap.objs.size (.lst [])) { s with heap:=s.heap.push { cls:=.type "list",data:=.seq ([]:List Value).toArray } }:=I.lnew (t':=s.toks) .nil (Nat.zero_le _)
 have lt0:∀ b ∈ fp,b < s.heap.objs.size:=fun b hb=>by
  obtain ⟨o,e,_⟩:=T.obj 0 s.heap st b hb
  exact Heap.lt_size e
 have hf2:∀ b ∈ fp,FpOk X pins (upd H s.heap.objs.size (.lst [])) b:=fun b hb=>by
  obtain ⟨f0,f⟩:=hf b hb
  exact ⟨by rw [upd_ne (Nat.ne_of_lt (lt0 b hb))]; exact f0,f⟩
 have st2:tn 0 (s.heap.push { cls:=.type "list",data:=.seq ([]:List Value).toArray }):=T.keep 0 _ _ st fun b _ o e=>Heap.get?_push_of_some _ e
 generalize hs2:({ s with heap:=s.heap.push { cls:=.type "list",data:=.seq ([]:List Value).toArray } }:Shared)=s2 at I2
 have eh:s2.heap=s.heap.push { cls:=.type "list",data:=.seq ([]:List Value).toArray }:=by rw [←hs2]
 have lt2:∀ b ∈ fp,b < s2.heap.objs.size:=fun b hb=>by rw [eh,Heap.size_push]; exact Nat.lt_succ_of_lt (lt0 b hb)
 rw [←eh] at st2
 have le2:s.heap.objs.size≤s2.heap.objs.size:=by rw [eh,Heap.size_push]; exact Nat.le_succ _
 show wpAny _ _ _ _ _ s2
 refine newEnv_lc ?_
 rw [L.cells]
 have hp0:=L.heap (s2.heap.push { cls:=.type "dict",data:=.dict #[] })
 have hns0:(s2.heap.push { cls:=.type "dict",data:=.dict #[] }).Ns s2.heap.objs.size _:=Heap.Ns.new s2.heap (.type "dict")
 have hns₁:=hns0.keeps hp0.1
 have hoc:=hp0.2
 rw [Heap.size_push] at hoc
 have keep:∀ b o,s2.heap.get? b=some o→(pushCells (s2.heap.push { cls:=.type "dict",data:=.dict #[] }) sc.names).get? b=some o:=fun b o e=>hp0.1 b o (Heap.get?_push_of_some _ e)
 generalize pushCells (s2.heap.push { cls:=.type "dict",data:=.dict #[] }) sc.names=h₁ at hns₁ hoc keep ⊢
 have J0:Inv (X.blk (blkN X.N x) sc x s2 (upd H s.heap.objs.size (.lst [])) fp) [] (σ++[none]) (upd H s.heap.objs.size (.lst [])) { s2 with heap:=h₁ }:=I2.blk (tk:=s2.toks) L hS hf2 lt2 hns₁ keep hoc
 have st3:tn 0 h₁:=T.keep 0 _ _ st2 fun b _ o e=>keep b o e
 have hl:σ.length=X.N.length:=I.len
 have stat:∀ {H':Hp},(∀ b ∈ fp,H' b=none)→∀ b ∈ fp,FpOk (X.blk (blkN X.N x) sc x s2 (upd H s.heap.objs.size (.lst [])) fp) [] H' b:=fun {H'} hn b hb=>by
  have o1:=J0.ok.exf b hb
  exact ⟨hn b hb,o1.1,J0.ok.exfs b hb,.inl hb,o1.2,fun p hp=>absurd (show p ∈ ([]:List (Addr × Obj)) from hp) (by simp)⟩
 have loop:codeAny (model X.prog X.w) X.A (.compLoop (.ListComp elt [⟨.Name x px,iter,[],0⟩] sc pos) 0 (.ref it) (.ref s.heap.objs.size) (compEnvC sc (ownC sc x (s2.heap.objs.size+1)++clOf X.env.cells sc.names []) s2.heap.objs.size X.env))
   (compPost (model X.prog X.w) X.A X.xe use QQ (.ref s.heap.objs.size) s2.heap.objs.size) { s2 with heap:=h₁ }:=by
  refine compLoopG (fun n s'=>∃ i ys H' o,Inv (X.blk (blkN X.N x) sc x s2 (upd H s.heap.objs.size (.lst [])) fp) [] (σ++[o]) H' s'∧tn i s'.heap∧(∀ b ∈ fp,H' b=none)∧W i n ys H') ?_ m0 ⟨0,[],_,none,J0,st3,fun b hb=>(hf2 b hb).1,w0⟩
  rintro n s4 ⟨i,ys,H4,o,J4,st4,fr4,w4⟩
  obtain ⟨hD4,tt⟩:=turn i n ys H4 w4
  rcases tt with ⟨stop,q⟩ | ⟨go,step⟩
  ·refine thn (T.done (X.blk (blkN X.N x) sc x s2 (upd H s.heap.objs.size (.lst [])) fp) rfl rfl rfl hc i [] s4 _ H4 _ J4 (stat fr4) st4 stop) fun r s5 ⟨hr,J5⟩=>?_
   subst hr
   have I5:Inv X pins σ H4 s5:=I2.call' J5.os J5.base J5.hok J5.bare fun b hb=>by
    obtain ⟨f0,f1,f2,f3,f4,f5⟩:=hf2 b hb
    exact ⟨f3,f1,f4,f5⟩
   obtain ⟨m5,n5,_⟩:=J5.loc
   exact fin _ _ H4 s5 m5 I5 q n5 J5.free le2 (fun p hp z=>by
     have:=Heap.lt_size (I2.pin p hp).1
     rw [z] at this
     exact Nat.lt_irrefl _ this) (Nat.ne_of_gt I2.lt) (fun y c e z=>by
     obtain ⟨v,o,ho,_⟩:=I2.cell y c e
     have:=Heap.lt_size ho
     rw [z] at this
     exact Nat.lt_irrefl _ this)
  ·refine thn (T.item (X.blk (blkN X.N x) sc x s2 (upd H s.heap.objs.size (.lst [])) fp) rfl rfl rfl hc i [] s4 _ H4 _ J4 (stat fr4) st4 go) fun r s5 ⟨u,hr,h5⟩=>?_
   subst hr
   refine thn h5 fun _ s6 ⟨z,H6,J6,r6,y6,st6,fr6⟩=>?_
   have J6':=J6.pinned (stat fr6) (T.obj _ _ st6)
   refine thn (pg_name (X:=X.blk (blkN X.N x) sc x s2 (upd H s.heap.objs.size (.lst [])) fp) (i:=X.N.length) L.nd (by show (blkN X.N x)[X.N.length]? = some x; unfold blkN; rw [List.getElem?_append_right (by simp)]; simp) (relab_loc L) (relab_fn L)
    _ s6 _ H6 z u (fun σ' H'=>σ'=σ++[some z]∧H'=H6) J6' r6 ⟨by
     rw [List.set_append_right _ _ (by omega)]
     have:X.N.length - σ.length=0:=by omega
     rw [this]
     rfl,rfl⟩) fun _ s7 ⟨σ7,H7,J7,e7,e8⟩=>?_
   subst e7 e8
   refine thn (he s2 (upd H s.heap.objs.size (.lst [])) fp _ s7 _ H7 _ J7 (step z H7 y6)) fun vv s8 ⟨v,H8,J8,r8,hD8,hz8,m',hm,w8⟩=>?_
   refine thn (mt_append (X:=X.blk (blkN X.N x) sc x s2 (upd H s.heap.objs.size (.lst [])) fp) _ s8 _ H8 (.ref s.heap.objs.size) [v] (.ref s.heap.objs.size) [vv] (fun _ H'=>H'=upd H8 s.heap.objs.size (.lst (ys++[v]))) J8 rfl (.cons r8 .nil) ⟨_,ys,v,rfl,rfl,hD8,hz8,rfl⟩) fun _ s9 ⟨_,H9,J9,_,e9⟩=>?_
   subst e9
   refine ⟨m',hm,i+1,ys++[v],_,some z,J9.unpinned,T.keep _ _ _ st6 fun b hb o e=>(J9.pin (b,o) (List.mem_append_right _ (List.mem_append_right _ (mem_pinsAt hb e)))).1,fun b hb=>?_,w8⟩
   obtain ⟨o',e',_⟩:=T.obj _ _ st6 b hb
   exact (J9.pin (b,o') (List.mem_append_right _ (List.mem_append_right _ (mem_pinsAt hb e')))).2.1
 refine codeAny_compStart_list loop (T.self _ 0 _ _ _ st3 loop)
theorem pe_lc {elt iter:Expr} {px pos:Pos} {ti:TI} {te:TE} {S:Scope} (hc:X.calm=true) (L:LcScope S X.N sc x) (hS:X.env.scope=S) (hi:PI X (.Name x px) iter ti)
  (he:∀ (s₀:Shared) (H₀:Hp) (fp:List Addr),PE (X.blk (blkN X.N x) sc x s₀ H₀ fp) elt te) (hs:∀ x,foldedSetIterable iter X.env x=pure x:=by intro _; rfl) :
  PE X (.ListComp elt [⟨.Name x px,iter,[],0⟩] sc pos) (tLc ti te):=by
 intro pins s σ H Q I h
 rw [eval_ListComp]
 refine wpAny_comprehension_free (use:=none) rfl hs (closure_of (I.has_cell L hS)) L.kind L.names (thn (hi pins s σ H _ I h) fun xv s₁ h₁=>thn h₁ fun itv s₂ h₂=>?_)
 obtain ⟨it,fp,tn,J,H2,rfl,I2,T,st2,f2,q2⟩:=h₂
 refine lc_core hc L hS he I2 T st2 f2 q2 ?_
 intro D C H' s' m I' q hn hC hle hp hL hcl
 refine ⟨m,hn,fun h' hs'=>?_⟩
 have I3:Inv X pins σ H' { s' with heap:=h' }:=I'.turned (t':=s'.toks) (fun b o hb e=>(hs'.2 b hb).trans e) hC hL (.inr (Nat.le_trans I2.sz hle)) hcl hp
 exact ⟨.ref D,H',I3,rfl,q⟩
theorem ps_setLc {elt iter:Expr} {i:Nat} {y:Str} {px py pos spos:Pos} {ti:TI} {te:TE} {S:Scope} (hN:X.N.Nodup) (hi:X.N[i]? = some y) (hy:Loc X.env.scope y) (hc:X.calm=true) (L:LcScope S X.N sc x) (hS:X.env.scope=S) (hit:PI X (.Name x px) iter ti)
  (he:∀ (s₀:Shared) (H₀:Hp) (fp:List Addr),PE (X.blk (blkN X.N x) sc x s₀ H₀ fp) elt te)
  (hsw:swapsWith (.ListComp elt [⟨.Name x px,iter,[],0⟩] sc pos) (some (.Name y py)) spos.line X.env=pure true:=by rfl) (hs:∀ x,foldedSetIterable iter X.env x=pure x:=by intro _; rfl)
  (hf:X.fn y=true ∨ X.env.scope.names.lookup y=some .local:=by first | exact .inl rfl | exact .inr rfl | assumption) :
  PS X (.Assign [.Name y py] (.ListComp elt [⟨.Name x px,iter,[],0⟩] sc pos) spos) (tAsg (tLc ti te) (gName i)):=by
 intro pins s σ H D I h
 rw [exec_Assign_Name_used _ _ _ _ hsw]
 refine wpAny_bind (wpAny_standAt (wpAny_bind ?_))
 show wpAny _ _ (do let _ ← comprehension (.ListComp elt [⟨.Name x px,iter,[],0⟩] sc pos) sc X.env _ (newList []) false (eval iter X.env) (some (assign (.Name y py) X.env))) _ _ s
 refine wpAny_bind (wpAny_mono (wpAny_comprehension_free (use:=some (assign (.Name y py) X.env)) (Q:=fun _ s'=>SP X pins D .next s') rfl hs (closure_of (I.has_cell L hS)) L.kind L.names
  (thn (hit pins s σ H _ I h) fun xv s₁ h₁=>thn h₁ fun itv s₂ h₂=>?_)) (fun _ s' hq=>wpAny_pure (wpAny_pure hq)) fun _ _ e=>e)
 obtain ⟨it,fp,tn,J,H2,rfl,I2,T,st2,f2,q2⟩:=h₂
 refine lc_core (Q:=fun v H'=>D.nx (σ.set i (some v)) H') hc L hS he I2 T st2 f2 q2 ?_
 intro D' C H' s' m I' q hn hC hle hp hL hcl
 show wpAny _ _ (assign (.Name y py) X.env (.ref D')) _ _ s'
 refine wpAny_assign_Name (store_ok2 I' hN hi hy (v:=.ref D') (u:=.ref D') rfl (fun s'' I'' ⟨a,sb,ha⟩=>?_) hf)
 have nCa:C≠a:=by
  rcases ha with rfl | ha
  ·exact hL
  ·exact fun z=>hcl y a ha z.symm
 refine ⟨m,hn.sameBut sb nCa,fun h' hs'=>?_⟩
 have I3:Inv X pins (σ.set i (some (.ref D'))) H' { s'' with heap:=h' }:=I''.turned (t':=s''.toks) (fun b o hb e=>(hs'.2 b hb).trans e) hC hL (.inr (Nat.le_trans I2.sz hle)) hcl hp
 exact ⟨_,H',I3,q⟩
end
end L2
namespace L2
open PySem PySem.Spec PyProof.Rows
section
variable {X:Cx}
theorem call_sorted:CallR X (.builtin "sorted") (fun xs H Q=>∃ (p:Addr) (ns:List Int),xs=[.ref p]∧SqL X.K H p (ns.map V.int)∧ns.length < 64∧∀ (l:Addr) (ns':List Int),H l=none→ns'.Perm ns→ns'.Pairwise (·≤·)→Q (.ref l) (upd H l (.lst (ns'.map V.int)))):=by
 intro pins s σ H xs us Q I r h
 obtain ⟨p,ns,rfl,hq,hl,q⟩:=h
 obtain ⟨u,rfl,rx⟩:=vals1 r
 cases rx
 obtain ⟨its,rv,pl,hz⟩:=I.list hq
 have hI:IntsAre its ns:=intsAre_of rv
 have hlen:=rv.length
 rw [List.length_map] at hlen
 refine sorted_ints pl.isList hI (by omega) fun out ns' a1 a2 a3=>?_
 obtain ⟨e,he⟩:=sortedAll_at s.heap its out
 have hn:H (s.heap.objs.size+1)=none:=I.hok.fresh (Nat.le_succ _)
 refine ⟨.ref (s.heap.objs.size+1),_,I.laid (t':=s.toks) (fun b o z=>sortedAll_old z) (Nat.le_succ _) ?_,rfl,q _ ns' hn a2 a3⟩
 refine ⟨?_,out.toList,e,vals_ints a1,he⟩
 rw [List.length_map,a2.length_eq]
 exact Nat.le_of_lt (small1000 (by omega))
theorem call_range1v:CallR X (.type "range") (fun xs H Q=>∃ j:Int,xs=[.int j]∧∀ p,H p=none→Q (.ref p) (upd H p (.rng 0 j))):=by
 intro pins s σ H xs us Q I r h
 obtain ⟨j,rfl,q⟩:=h
 obtain ⟨u,rfl,t,rfl⟩:=vals1 r
 have hn:H s.heap.objs.size=none:=I.hok.fresh (Nat.le_refl _)
 exact call_range_1 ⟨.ref s.heap.objs.size,_,I.laid (fun b o z=>Heap.get?_push_of_some _ z) (Nat.le_refl _) (show ObjOk X.prog X.w (upd H s.heap.objs.size (.rng 0 j)) _ s.heap.objs.size (.rng 0 j) from ⟨_,_,_,Heap.get?_push_size _ rfl⟩),rfl,q _ hn⟩
theorem vals_items:∀ {n:Nat} {us:List Value} {f:Nat→Int},us.length=n→(∀ (i:Nat) (u:Value),us[i]? = some u→∃ t,u=.int (f i) t)→Vals ((List.range n).map fun i=>V.int (f i)) us:=by
 intro n
 induction n with
 | zero =>
  intro us f hl _
  rw [List.length_eq_zero_iff.mp hl]
  exact .nil
 | succ n ih =>
  intro us f hl h
  cases us with
  | nil=>cases hl
  | cons u us =>
   rw [List.range_succ_eq_map,List.map_cons,List.map_map]
   obtain ⟨t,e⟩:=h 0 u rfl
   refine .cons ⟨t,e⟩ (ih (f:=fun i=>f (i+1)) (by simpa using hl) fun i u' hu=>h (i+1) u' (by simpa using hu))
theorem call_list_rng (hc:X.calm=true):CallR X (.type "list") (fun xs H Q=>∃ (p:Addr) (n:Nat),xs=[.ref p]∧H p=some (.rng 0 (n:Int))∧n≤1000∧∀ l,H l=none→Q (.ref l) (upd H l (.lst ((List.range n).map fun (i:Nat)=>V.int (i:Int))))):=by
 intro pins s σ H xs us Q I r h
 obtain ⟨p,n,rfl,hp,hle,q⟩:=h
 obtain ⟨u,rfl,rx⟩:=vals1 r
 cases rx
 obtain ⟨t,u,v,e⟩:=I.hok p _ hp
 have hs:Builtin.Range.rangeSize 0 (n:Int) 1=(n:Nat):=by rw [rangeSize_one]; split <;> omega
 have hn:H s.heap.objs.size=none:=I.hok.fresh (Nat.le_refl _)
 refine call_list_range (I.ok.hd hc) (show IsRange s.heap p 0 (n:Int) 1 t u v from e) (small_one (by omega) (by omega) (by omega) (by omega)) hs (by omega) fun h' tk acc c' kp ga it=>?_
 refine ⟨.ref s.heap.objs.size,_,I.laid (t':=tk) kp (Nat.le_refl _) ?_,rfl,q _ hn⟩
 have hv:Vals ((List.range n).map fun (i:Nat)=>V.int (i:Int)) acc.toList:=by
  refine vals_items (f:=fun i=>(i:Int)) (by simpa using it.1) fun i w hw=>?_
  obtain ⟨t',et⟩:=it.2 i w (by simpa using hw)
  refine ⟨t',?_⟩
  rw [et]
  congr 1
  omega
 refine ⟨?_,acc.toList,c',hv,by simpa using ga⟩
 rw [List.length_map,List.length_range]
 exact Nat.le_of_lt (small1000 hle)
end
end L2
namespace L2
open PySem PySem.Spec PyProof.Rows
theorem lc_list {K:PySem.W.Frag} {a:Addr} {xs:List V} {te:TE} {Q:Hp→Prop} {σ:St} {H1:Hp} {D:Addr} (Pv:Nat→List V→Hp→Prop) (h0:Pv 0 [] (upd H1 D (.lst []))) (hl:∀ i ys H',i≤xs.length→Pv i ys H'→SqL K H' a xs∧H' D=some (.lst ys))
  (hs:∀ i x ys H',xs[i]? = some x→Pv i ys H'→te (σ++[some x]) H' fun v H3=>H3 D=some (.lst ys)∧ys.length < sizeLine∧Pv (i+1) (ys++[v]) (upd H3 D (.lst (ys++[v])))) (hd:∀ ys H',Pv xs.length ys H'→Q H')
  (mono:∀ σ H Q Q',(∀ v H1,Q v H1→Q' v H1)→te σ H Q→te σ H Q') :
  ∃ W:Nat→Nat→List V→Hp→Prop,(∃ m,W 0 m [] (upd H1 D (.lst []))) ∧
   ∀ i m ys H',W i m ys H'→H' D=some (.lst ys)∧(((Itl K a).stop i H'∧Q H') ∨ ((Itl K a).go i H'∧∀ z H2,(Itl K a).yld i H' z H2→te (σ++[some z]) H2 fun v H3=>H3 D=some (.lst ys)∧ys.length < sizeLine∧∃ m',m' < m∧W (i+1) m' (ys++[v]) (upd H3 D (.lst (ys++[v]))))):=by
 refine ⟨fun i m ys H'=>m=xs.length - i∧i≤xs.length∧Pv i ys H',⟨xs.length,by simp,Nat.zero_le _,h0⟩,?_⟩
 rintro i m ys H' ⟨rfl,hi,p⟩
 obtain ⟨q,eD⟩:=hl i ys H' hi p
 refine ⟨eD,?_⟩
 by_cases hlt:i < xs.length
 ·refine .inr ⟨⟨xs,xs[i],q,by simp [hlt]⟩,fun z H2 y=>?_⟩
  obtain ⟨e,y⟩:=y
  subst e
  refine mono _ _ _ _ (fun v H3 ⟨z1,z2,z3⟩=>⟨z1,z2,xs.length - (i+1),by omega,rfl,hlt,z3⟩) (hs i z ys _ (y xs q) p)
 ·have e:i=xs.length:=by omega
  subst e
  exact .inl ⟨⟨xs,q,Nat.le_refl _⟩,hd ys H' p⟩
theorem lc_range {lo:Int} {n:Nat} {te:TE} {Q:Hp→Prop} {σ:St} {H1:Hp} {D:Addr} (Pv:Nat→List V→Hp→Prop) (h0:Pv 0 [] (upd H1 D (.lst []))) (hl:∀ i ys H',i≤n→Pv i ys H'→H' D=some (.lst ys))
  (hs:∀ i ys H',i < n→Pv i ys H'→te (σ++[some (.int (lo+(i:Nat)))]) H' fun v H3=>H3 D=some (.lst ys)∧ys.length < sizeLine∧Pv (i+1) (ys++[v]) (upd H3 D (.lst (ys++[v])))) (hd:∀ ys H',Pv n ys H'→Q H')
  (mono:∀ σ H Q Q',(∀ v H1,Q v H1→Q' v H1)→te σ H Q→te σ H Q') :
  ∃ W:Nat→Nat→List V→Hp→Prop,(∃ m,W 0 m [] (upd H1 D (.lst []))) ∧
   ∀ i m ys H',W i m ys H'→H' D=some (.lst ys)∧(((Itr lo n).stop i H'∧Q H') ∨ ((Itr lo n).go i H'∧∀ z H2,(Itr lo n).yld i H' z H2→te (σ++[some z]) H2 fun v H3=>H3 D=some (.lst ys)∧ys.length < sizeLine∧∃ m',m' < m∧W (i+1) m' (ys++[v]) (upd H3 D (.lst (ys++[v]))))):=by
 refine ⟨fun i m ys H'=>m=n - i∧i≤n∧Pv i ys H',⟨n,by simp,Nat.zero_le _,h0⟩,?_⟩
 rintro i m ys H' ⟨rfl,hi,p⟩
 refine ⟨hl i ys H' hi p,?_⟩
 by_cases hlt:i < n
 ·refine .inr ⟨hlt,fun z H2 y=>?_⟩
  obtain ⟨e,y⟩:=y
  subst e y
  refine mono _ _ _ _ (fun v H3 ⟨z1,z2,z3⟩=>⟨z1,z2,n - (i+1),by omega,rfl,hlt,z3⟩) (hs i ys _ hlt p)
 ·have e:i=n:=by omega
  subst e
  exact .inl ⟨Nat.le_refl _,hd ys H' p⟩
end L2
namespace L2
open PySem PySem.Spec PyProof.Rows
section
variable {X:Cx}
theorem call_sum (hc:X.calm=true):CallR X (.builtin "sum") (fun xs H Q=>∃ (p:Addr) (ns:List Int),xs=[.ref p]∧SqL X.K H p (ns.map V.int)∧Q (.int ns.sum) H):=by
 intro pins s σ H xs us Q I r h
 obtain ⟨p,ns,rfl,hq,q⟩:=h
 obtain ⟨u,rfl,rx⟩:=vals1 r
 cases rx
 obtain ⟨its,rv,pl,hz⟩:=I.list hq
 have hI:IntsAre its ns:=intsAre_of rv
 obtain ⟨ys,hx⟩:=hI.allInts.items
 have hl':s.heap.IsList p (intItems ys):=hx ▸ pl.isList
 refine sum_intListG (I.ok.hd hc) hl' fun h' tk t' hk=>?_
 have e1:ns=ys.toList.map (·.1):=by
  rw [←nums_intItems,←hx]
  exact (show numsOf its.toArray.toList=ns from hI.numsOf).symm
 have e2:preSum (numAt ys) ys.size=ns.sum:=by
  rw [preSum_eq,List.take_of_length_le (by simp),e1]
 rw [e2]
 exact ⟨.int ns.sum,H,I.kept hk,⟨_,rfl⟩,q⟩
end
end L2
namespace L2
open PySem PySem.Spec PyProof.Rows
section
variable {X:Cx} {pins:List (Addr × Obj)} {σ:List (Option V)} {H:Hp} {s:Shared} {h':Heap}
theorem Inv.turnedL {t':Nat} {its:List Addr} (I:Inv X pins σ H s) (k:∀ b o,b ∉ its→s.heap.get? b=some o→h'.get? b=some o) (hf:∀ b ∈ its,FpOk X pins H b):Inv X pins σ H { s with heap:=h',toks:=t' }:=by
 have nit:∀ b u,H b=some u→b ∉ its:=fun b u e z=>by rw [(hf b z).1] at e; cases e
 refine I.step (g':=s.gens) (d':=s.drawn) (ch:=its) (fun b hb=>?_) (fun b o _ _ hc e _=>k b o hc e) (fun b o _ _ hc e _=>⟨o.slots,k b o hc e⟩) (fun _ _ _ _ n=>n)
  (fun b o hc e=>⟨o,k b o hc e⟩) (fun _ _ e=>e) (fun _ _ _ e=>e) (fun b ps e=>⟨#[],by rw [e]; simp⟩) (fun m hm=>?_) (fun b u e=>?_) I.bare
 ·obtain ⟨f0,f1,f2,f3,f4,f5⟩:=hf b hb
  exact ⟨f3,f1,f4,f5⟩
 ·obtain ⟨o,es,ep,ho,r⟩:=hm
  exact ⟨o,es,ep,k _ o (fun z=>(hf _ z).2.1 rfl) ho,r⟩
 ·refine (I.hok b u e).stay (fun c v hc q=>k c v ?_ q) (fun _ q=>q) fun _ _ q=>q
  rcases hc with z | z
  ·rw [z]; exact nit b u e
  ·exact nit c _ z
end
def Itz (K:PySem.W.Frag) (a b:Addr):It :=
 ⟨fun i H=>∃ xs ys x y,SqL K H a xs∧SqL K H b ys∧xs[i]? = some x∧ys[i]? = some y,
  fun i H z H'=>∃ t x y,z=.ref t∧H t=none∧H'=upd H t (.tup [x,y])∧(∀ xs,SqL K H a xs→xs[i]? = some x)∧∀ ys,SqL K H b ys→ys[i]? = some y,
  fun i H=>∃ xs ys,SqL K H a xs∧SqL K H b ys∧(xs.length≤i ∨ ys.length≤i)⟩
structure Ap5 (z TI TO i1 i2:Addr):Prop where
 a1:TI≠z
 a2:TO≠z
 a3:i1≠z
 a4:i2≠z
 a5:TI≠TO
 a6:TI≠i1
 a7:TI≠i2
 a8:TO≠i1
 a9:TO≠i2
 b1:i1≠i2
def ZSt (z TI TO i1 i2 a b:Addr) (i:Nat) (h:Heap):Prop:=IsZip h z TI TO .none∧IsPair h TI (.ref i1) (.ref i2)∧(∃ c d,IsPair h TO c d)∧h.IsListIter i1 a i∧h.IsListIter i2 b i
theorem cls_ne {h:Heap} {a b:Addr} {o o':Obj} (e:h.get? a=some o) (e':h.get? b=some o') (n:o.cls≠o'.cls):a≠b:=fun z=>by
 subst z
 rw [e] at e'
 cases e'
 exact n rfl
theorem zap {h:Heap} {z TI TO i1 i2 a b:Addr} {i:Nat} {xs ys:Array Value} (D:Ap5 z TI TO i1 i2) (st:ZSt z TI TO i1 i2 a b i h) (ha:h.IsList a xs) (hb:h.IsList b ys):ZipApart z TI TO i1 i2 a b:=by
 obtain ⟨hz,hTI,⟨c,d,hTO⟩,⟨o1,e1,c1,_⟩,⟨o2,e2,c2,_⟩⟩:=st
 obtain ⟨oa,ea,ca,_⟩:=ha
 obtain ⟨ob,eb,cb,_⟩:=hb
 exact ⟨D.a1,D.a2,D.a3,D.a4,D.a5,D.a6,D.a7,D.a8,D.a9,D.b1,
  cls_ne ea hz (by rw [ca]; show Value.type "list"≠Value.type "zip"; decide),cls_ne ea hTO (by rw [ca]; show Value.type "list"≠Value.type "tuple"; decide),cls_ne ea e1 (by rw [ca,c1]; decide),cls_ne ea e2 (by rw [ca,c2]; decide),
  cls_ne eb hz (by rw [cb]; show Value.type "list"≠Value.type "zip"; decide),cls_ne eb hTO (by rw [cb]; show Value.type "list"≠Value.type "tuple"; decide),cls_ne eb e1 (by rw [cb,c1]; decide),cls_ne eb e2 (by rw [cb,c2]; decide)⟩
theorem turn_zip {P:Program} {w:World} {K:PySem.W.Frag} {elts:List Expr} {ek:Nat} {epos:Pos} {z TI TO i1 i2 a b:Addr} (D:Ap5 z TI TO i1 i2):Turn P w K (.Tuple elts ek epos) (Itz K a b) [z,TI,TO,i1,i2] z (ZSt z TI TO i1 i2 a b) where
 mem:=by simp
 obj:=fun i h st c hc=>by
  obtain ⟨hz,hTI,⟨p,q,hTO⟩,⟨o1,e1,c1,d1⟩,⟨o2,e2,c2,d2⟩⟩:=st
  have hc':c=z ∨ c=TI ∨ c=TO ∨ c=i1 ∨ c=i2:=by simpa using hc
  rcases hc' with rfl | rfl | rfl | rfl | rfl
  ·exact ⟨_,hz,fun v e=>by cases e⟩
  ·exact ⟨_,hTI,fun v e=>by cases e⟩
  ·exact ⟨_,hTO,fun v e=>by cases e⟩
  ·exact ⟨_,e1,fun v e=>by rw [d1] at e; cases e⟩
  ·exact ⟨_,e2,fun v e=>by rw [d2] at e; cases e⟩
 keep:=fun i h h' st k=>by
  obtain ⟨hz,hTI,⟨p,q,hTO⟩,l1,l2⟩:=st
  exact ⟨k z (by simp) _ hz,k TI (by simp) _ hTI,⟨p,q,k TO (by simp) _ hTO⟩,l1.at fun o e=>k i1 (by simp) o e,l2.at fun o e=>k i2 (by simp) o e⟩
 item:=by
  intro X hP hw hK hc i pins s σ H E I hf st hg
  subst hP hw hK
  obtain ⟨xs,ys,x,y,hx,hy,ex,ey⟩:=hg
  obtain ⟨ia,ra,pa,za⟩:=I.list hx
  obtain ⟨ib,rb,pb,zb⟩:=I.list hy
  obtain ⟨u,hu,ru⟩:=ra.get ex
  obtain ⟨v,hv,rv⟩:=rb.get ey
  have A:=zap D st pa.isList pb.isList
  have stl:=st
  obtain ⟨hz,hTI,⟨p,q,hTO⟩,l1,l2⟩:=st
  refine wpAny_pyNext_zip_item A hz hTI hTO l1 l2 pa.isList pb.isList (x:=u) (y:=v) (by simpa using hu) (by simpa using hv) fun h' a1 a2 a3 a4 a5 a6 a7=>?_
  refine ⟨_,rfl,wpAny_letOwnedTupleGo_zip a1 fun h2 b1 b2=>?_⟩
  have hT:H s.heap.objs.size=none:=I.hok.fresh (Nat.le_refl _)
  have ltz:∀ c o,s.heap.get? c=some o→s.heap.objs.size≠c:=fun c o e=>Nat.ne_of_gt (Heap.lt_size e)
  have hTI':=a7 _ _ D.a1 D.a5 D.a6 D.a7 hTI
  have Tz:s.heap.objs.size≠z:=ltz _ _ hz
  have aT:h2.get? s.heap.objs.size=some { cls:=.type "tuple",data:=.seq #[u,v] }:=b2.extBut _ _ Tz a5
  have k2:∀ c o,c≠z→c≠TO→c≠i1→c≠i2→s.heap.get? c=some o→h2.get? c=some o:=fun c o n1 n2 n3 n4 e=>b2.extBut _ _ n1 (a7 c o n1 n2 n3 n4 e)
  have I1:Inv X pins σ (upd H s.heap.objs.size (.tup [x,y])) { s with heap:=s.heap.push { cls:=.type "tuple",data:=.seq #[u,v] } }:=by
   refine I.laid (t':=s.toks) (fun c o e=>Heap.get?_push_of_some _ e) (Nat.le_refl _) ?_
   exact ⟨(by show 2≤sizeLine; decide),[u,v],.cons ru (.cons rv .nil),IsTup.new s.heap _⟩
  have hf1:∀ c ∈ [z,TI,TO,i1,i2],FpOk X pins (upd H s.heap.objs.size (.tup [x,y])) c:=fun c hc'=>by
   obtain ⟨f0,f⟩:=hf c hc'
   refine ⟨?_,f⟩
   have:∃ o,s.heap.get? c=some o:=by
    have hc'':c=z ∨ c=TI ∨ c=TO ∨ c=i1 ∨ c=i2:=by simpa using hc'
    obtain ⟨o1,e1,_⟩:=l1
    obtain ⟨o2,e2,_⟩:=l2
    rcases hc'' with rfl | rfl | rfl | rfl | rfl
    ·exact ⟨_,hz⟩
    ·exact ⟨_,hTI⟩
    ·exact ⟨_,hTO⟩
    ·exact ⟨_,e1⟩
    ·exact ⟨_,e2⟩
   obtain ⟨o,e⟩:=this
   rw [upd_ne (ltz c o e).symm]
   exact f0
  have I2:Inv X pins σ (upd H s.heap.objs.size (.tup [x,y])) { s with heap:=h2 }:=by
   refine Inv.turnedL (s:={ s with heap:=s.heap.push { cls:=.type "tuple",data:=.seq #[u,v] } }) (h':=h2) (t':=s.toks) (its:=[z,TI,TO,i1,i2]) I1 (fun c o hc' e=>?_) hf1
   have hc'':¬ (c=z ∨ c=TI ∨ c=TO ∨ c=i1 ∨ c=i2):=by simpa using hc'
   by_cases hcs:c=s.heap.objs.size
   ·subst hcs
    have e':(s.heap.push { cls:=.type "tuple",data:=.seq #[u,v] }).get? s.heap.objs.size=some o:=e
    rw [Heap.get?_push_size _ rfl] at e'
    cases e'
    exact aT
   ·have hlt:c < (s.heap.push { cls:=.type "tuple",data:=.seq #[u,v] }).objs.size:=Heap.lt_size e
    rw [Heap.size_push] at hlt
    refine k2 c o (fun z'=>hc'' (.inl z')) (fun z'=>hc'' (.inr (.inr (.inl z')))) (fun z'=>hc'' (.inr (.inr (.inr (.inl z'))))) (fun z'=>hc'' (.inr (.inr (.inr (.inr z'))))) ?_
    rw [←e]
    exact (Heap.get?_push_ne _ _ _ hcs).symm
  refine ⟨.ref s.heap.objs.size,_,I2,rfl,⟨_,x,y,rfl,hT,rfl,fun ws hw=>by rw [I.list_inj hw hx]; exact ex,fun ws hw=>by rw [I.list_inj hw hy]; exact ey⟩,?_,fun c hc'=>(hf1 c hc').1⟩
  exact ⟨b1,b2.extBut _ _ D.a1 hTI',⟨_,_,b2.extBut _ _ D.a2 a2⟩,a3.extBut b2.extBut D.a3,a4.extBut b2.extBut D.a4⟩
 done:=by
  intro X hP hw hK hc i pins s σ H E I hf st hg
  subst hP hw hK
  obtain ⟨xs,ys,hx,hy,hl⟩:=hg
  obtain ⟨ia,ra,pa,za⟩:=I.list hx
  obtain ⟨ib,rb,pb,zb⟩:=I.list hy
  have A:=zap D st pa.isList pb.isList
  have hla:=ra.length
  have hlb:=rb.length
  obtain ⟨hz,hTI,⟨p,q,hTO⟩,l1,l2⟩:=st
  refine wpAny_pyNext_zip_end (I.ok.hd hc) A hz hTI hTO l1 l2 pa.isList pb.isList (by
   rcases hl with hl | hl
   ·exact .inl (by simp; omega)
   ·exact .inr (by simp; omega)) fun h' k=>⟨rfl,?_⟩
  exact I.turnedL (t':=s.toks) (its:=[z,TI,TO,i1,i2]) (fun c o hc' e=>by
   have hc'':¬ (c=z ∨ c=TI ∨ c=TO ∨ c=i1 ∨ c=i2):=by simpa using hc'
   exact k c o (fun z'=>hc'' (.inl z')) (fun z'=>hc'' (.inr (.inr (.inl z')))) (fun z'=>hc'' (.inr (.inr (.inr (.inl z'))))) (fun z'=>hc'' (.inr (.inr (.inr (.inr z'))))) e) hf
 self:=fun _ _ _ _ _ st h=>wpAny_pyIter_zip st.1 h
section
variable {X:Cx}
def iZip (K:PySem.W.Frag) (ta:TA):TI:=fun σ H R=>ta σ H fun vs H1=>∃ a b,vs=[.ref a,.ref b]∧(∃ xs,SqL K H1 a xs)∧(∃ ys,SqL K H1 b ys)∧R (Itz K a b) H1
theorem boot_zip:bootBuiltins "zip" = some (.type "zip"):=by decide +kernel
theorem pi_zip {elts:List Expr} {ek:Nat} {epos:Pos} {a b:Expr} {ta:TA} {p pos:Pos} (hg:Gl X "zip") (hm:X.mg "zip" = none) (ha:PA X [a,b] ta) (hs:starEach [a,b] X.env=[(false,eval a X.env),(false,eval b X.env)]:=by rfl) (hs2:starEach [b] X.env=[(false,eval b X.env)]:=by rfl) :
  PI X (.Tuple elts ek epos) (.Call (.Name "zip" p) [a,b] [] pos) (iZip X.K ta):=by
 intro pins s σ H R I h
 refine Call_ (ld_blt I hg hm boot_zip (PyProof.Rows.callWith_type1 (thn (ha pos pins s σ H _ I h) fun us s1 ⟨vs,H1,I1,r1,q1⟩=>?_) (by rw [hs,hs2]) (by rw [hs2]; rfl)))
 obtain ⟨l1,l2,e,⟨xs,hx⟩,⟨ys,hy⟩,q⟩:=q1
 subst e
 obtain ⟨u,v,rfl,ru,rv⟩:=vals2 r1
 cases ru
 cases rv
 obtain ⟨ia,ra,pa,za⟩:=I1.list hx
 obtain ⟨ib,rb,pb,zb⟩:=I1.list hy
 refine call_zip_2 pa.isList pb.isList fun h' hz hTI hTO hi1 hi2 hsz hk=>wpAny_pyIter_zip hz ?_
 have fr:∀ b,s1.heap.objs.size≤b→FpOk X pins H1 b:=fun b hb=>I1.fpOk hb (I1.hok.fresh hb)
 refine ⟨_,[s1.heap.objs.size+4,s1.heap.objs.size+2,s1.heap.objs.size+3,s1.heap.objs.size,s1.heap.objs.size+1],_,_,H1,rfl,I1.kept (t':=s1.toks) hk,
  turn_zip (TI:=s1.heap.objs.size+2) (TO:=s1.heap.objs.size+3) (i1:=s1.heap.objs.size) (i2:=s1.heap.objs.size+1) (a:=l1) (b:=l2) ?_,⟨hz,hTI,⟨_,_,hTO⟩,hi1,hi2⟩,fun b hb=>?_,q⟩
 ·generalize s1.heap.objs.size=n
  have ne:∀ {x y:Nat},x≠y→(n+x:Nat)≠n+y:=fun h e=>h (Nat.add_left_cancel e)
  exact ⟨ne (by decide),ne (by decide),ne (x:=0) (by decide),ne (by decide),ne (by decide),ne (y:=0) (by decide),ne (by decide),ne (y:=0) (by decide),ne (by decide),ne (x:=0) (by decide)⟩
 ·have hb':b=s1.heap.objs.size+4 ∨ b=s1.heap.objs.size+2 ∨ b=s1.heap.objs.size+3 ∨ b=s1.heap.objs.size ∨ b=s1.heap.objs.size+1:=by simpa using hb
  rcases hb' with rfl | rfl | rfl | rfl | rfl
  ·exact fr _ (Nat.le_add_right _ _)
  ·exact fr _ (Nat.le_add_right _ _)
  ·exact fr _ (Nat.le_add_right _ _)
  ·exact fr _ (Nat.le_refl _)
  ·exact fr _ (Nat.le_add_right _ _)
def tabD (D:List (Str × Int)):List (Str × PyProof.Rows.KTD.Dat):=D.map fun p=>(p.1,.flat (.int p.2))
end
end L2
namespace L2
open PySem PySem.Spec PyProof.Rows
def hid (y:Str):Str:="."++y
def blkNs (N xs:List Str):List Str:=N.map (fun y=>if y ∈ xs then hid y else y)++xs
structure LcScopes (S:Scope) (N:List Str) (sc:Scope) (xs:List Str):Prop where
 uniq:(sc.names.map (·.1)).Nodup
 kind:sc.kind=.function
 names:∀ y ∈ sc.names,y.2=.local→sc.names.lookup y.1=some .local
 loc:∀ x ∈ xs,sc.names.lookup x=some .local
 free:∀ y ∈ sc.names,y.2=.free→S.names.lookup y.1=some .cell ∨ S.names.lookup y.1=some .free
 only:∀ y ∈ sc.names,y.2=.local→y.1 ∈ xs ∨ y.1 = ".0"
 noC:∀ y ∈ sc.names,y.2≠.cell
 ne:∀ y ∈ sc.names,∀ x ∈ xs,y.1≠hid x
 dot:∀ y ∈ N,y≠".0"
 nd:(blkNs N xs).Nodup
def Cx.blks (X:Cx) (N':List Str) (sc:Scope) (s₀:Shared) (H₀:Hp) (fp:List Addr):Cx :=
 { X with N:=N',s₀:=s₀,H₀:=H₀,env:=compEnvC sc (clOf X.env.cells sc.names []) s₀.heap.objs.size X.env,outer:=X.stack,stack:=X.stack,ex:=fp,fn:=fun _=>false,pn:=[],xe:=fun _ _=>False }
section
variable {X:Cx} {pins:List (Addr × Obj)} {σ:St} {H:Hp} {s:Shared} {sc:Scope} {xs:List Str} {fp:List Addr}
theorem blkNs_len (N xs:List Str):(blkNs N xs).length=N.length+xs.length:=by simp [blkNs]
theorem blkNs_at {N xs:List Str} {i:Nat} {y:Str} (h:(blkNs N xs)[i]? = some y) (hi:i < N.length):∃ y0,N[i]? = some y0∧((y0 ∈ xs∧y=hid y0) ∨ (y0 ∉ xs∧y=y0)):=by
 unfold blkNs at h
 rw [List.getElem?_append_left (by simpa using hi),List.getElem?_map] at h
 cases q:N[i]? with
 | none=>rw [q] at h; cases h
 | some y0 =>
  rw [q] at h
  refine ⟨y0,rfl,?_⟩
  have h':(if y0 ∈ xs then hid y0 else y0)=y:=Option.some.inj h
  by_cases e:y0 ∈ xs
  ·rw [if_pos e] at h'; exact .inl ⟨e,h'.symm⟩
  ·rw [if_neg e] at h'; exact .inr ⟨e,h'.symm⟩
theorem Inv.has_cells (I:Inv X pins σ H s) {S:Scope} (L:LcScopes S X.N sc xs) (hS:X.env.scope=S):∀ y ∈ sc.names,y.2=.free→(X.env.cells.lookup y.1).isSome=true:=fun y hy hf=>by
 have k:X.env.kindOf y.1=some .cell ∨ X.env.kindOf y.1=some .free:=by
  show X.env.scope.names.lookup y.1=_ ∨ X.env.scope.names.lookup y.1=_
  rw [hS]
  exact L.free y hy hf
 obtain ⟨c,e⟩:=I.ok.has y.1 k
 rw [e]; rfl
theorem Inv.blks (I:Inv X pins σ H s) {S:Scope} (L:LcScopes S X.N sc xs) (hS:X.env.scope=S) (hf:∀ b ∈ fp,FpOk X pins H b) (hb:∀ b ∈ fp,b < s.heap.objs.size) {h1:Heap} {tk:Nat} {m:Str→Option Value} (hn:h1.Ns s.heap.objs.size m)
  (hk:∀ b o,s.heap.get? b=some o→h1.get? b=some o):Inv (X.blks (blkNs X.N xs) sc s H fp) [] (σ++xs.map fun _=>none) H { s with heap:=h1,toks:=tk }:=by
 have sub:∀ y c,(clOf X.env.cells sc.names []).lookup y=some c→X.env.cells.lookup y=some c:=clOf_sub sc.names [] fun _ _ z=>by cases z
 have hasC:∀ y,(y,NameKind.free) ∈ sc.names→∃ c,(clOf X.env.cells sc.names []).lookup y=some c:=fun y hy =>
  Option.isSome_iff_exists.mp (clOf_has (I.has_cells L hS (y,.free) hy rfl) sc.names [] hy)
 have kinds:∀ y k,(relabel sc X.env).names.lookup y=some k→(k=.cell ∨ k=.free)→(y,NameKind.free) ∈ sc.names:=fun y k e hk=>by
  obtain ⟨k0,hm,q⟩:=relab_lookup e
  rcases q with rfl | ⟨_,rfl⟩
  ·rcases hk with rfl | rfl
   ·exact absurd rfl (L.noC _ hm)
   ·exact hm
  ·exact hm
 have stk:=I.stkSub
 refine ⟨⟨I.ok.mod,L.kind,I.ok.glob,I.ok.blt,Nat.le_refl _,fun y z c e1 e2=>?_,fun y hy=>?_,fun y c z e=>?_,I.ok.hd,I.ok.frames,.inl rfl,fun b hb'=>?_,I.bs,Nat.le_trans I.ok.bsz I.sz,fun b o e hb'=>?_,fun b hb' z=>?_,I.stack,I.stkFree⟩,
  rfl,I.bare,Un.kept hk,⟨m,hn,fun i y v e1 e2 e3=>?_⟩,fun y c e=>?_,I.hok.fresh (Nat.le_refl _),fun y c e=>?_,fun p hp=>absurd (show p ∈ ([]:List (Addr × Obj)) from hp) (by simp),I.hok.kept hk,?_⟩
 ·exact I.ok.inj y z c (sub y c e1) (sub z c e2)
 ·have hy':(relabel sc X.env).names.lookup y=some .cell ∨ (relabel sc X.env).names.lookup y=some .free:=hy
  rcases hy' with e | e
  ·exact hasC y (kinds y _ e (.inl rfl))
  ·exact hasC y (kinds y _ e (.inr rfl))
 ·exact absurd (show false=true from z) (by decide)
 ·obtain ⟨f0,f1,f2,f3,f4,f5⟩:=hf b hb'
  exact ⟨Nat.ne_of_lt (hb b hb'),fun y c e z=>f4 y c (sub y c e) z⟩
 ·obtain ⟨f0,f1,f2,f3,f4,f5⟩:=hf b hb'
  rcases f3 with z | z
  ·exact I.ok.noex b o e z
  ·exact absurd (Nat.lt_of_lt_of_le (Heap.lt_size (I.ok.bs b o e).1) z) (Nat.lt_irrefl _)
 ·obtain ⟨f0,f1,f2,f3,f4,f5⟩:=hf b hb'
  rcases List.mem_cons.mp (stk b z) with q | q
  ·exact f1 q
  ·exact f2 q
 ·have hl:σ.length=X.N.length:=I.len
  have hi:i < X.N.length:=by
   by_cases hi:i < σ.length
   ·omega
   ·rw [List.getElem?_append_right (by omega),List.getElem?_map] at e2
    cases q:xs[i - σ.length]? with
    | none=>rw [q] at e2; cases e2
    | some n=>rw [q] at e2; cases e2
  rw [List.getElem?_append_left (by omega)] at e2
  obtain ⟨y0,g1,g2⟩:=blkNs_at e1 hi
  have vis:∃ k,(relabel sc X.env).names.lookup y=some k∧(k=.local ∨ k=.cell ∨ k=.free):=by
   rcases e3 with q | q | q
   ·exact ⟨_,q,.inl rfl⟩
   ·exact ⟨_,q,.inr (.inl rfl)⟩
   ·exact ⟨_,q,.inr (.inr rfl)⟩
  obtain ⟨k,q,hk'⟩:=vis
  obtain ⟨k0,hm,q0⟩:=relab_lookup q
  rcases g2 with ⟨g2,rfl⟩ | ⟨g2,rfl⟩
  ·exact absurd rfl (L.ne _ hm _ g2)
  ·have hkc:k=.cell ∨ k=.free:=by
    rcases hk' with rfl | z
    ·exfalso
     rcases q0 with rfl | ⟨z,_⟩
     ·rcases L.only _ hm rfl with z | z
      ·exact g2 z
      ·exact L.dot y (List.mem_of_getElem? g1) z
     ·cases z
    ·exact z
   have hfr:(y,NameKind.free) ∈ sc.names:=kinds y k q hkc
   have visX:X.env.scope.names.lookup y=some .cell ∨ X.env.scope.names.lookup y=some .free:=by rw [hS]; exact L.free _ hfr rfl
   obtain ⟨m0,_,hl0⟩:=I.loc
   obtain ⟨u,r,lk⟩:=hl0 i y v g1 e2 (.inr visX)
   refine ⟨u,r,?_⟩
   rcases lk with ⟨z,_⟩ | ⟨_,c,ec,hc⟩
   ·exfalso
    have z':X.env.scope.names.lookup y=some .local:=z
    rcases visX with w' | w' <;> rw [z'] at w' <;> cases w'
   ·obtain ⟨c',ec'⟩:=hasC y hfr
    have:c'=c:=Option.some.inj ((sub y c' ec').symm.trans ec)
    subst this
    refine .inr ⟨?_,c',ec',?_⟩
    ·rcases hkc with rfl | rfl
     ·exact .inl q
     ·exact .inr q
    ·obtain ⟨o,ho,hd⟩:=hc
     exact ⟨o,hk _ _ ho,hd⟩
 ·obtain ⟨v,o,ho,hd⟩:=I.cell y c (sub y c e)
  exact ⟨v,o,hk _ _ ho,hd⟩
 ·exact I.freeC y c (sub y c e)
 ·rw [List.length_append,List.length_map,I.len]
  exact (blkNs_len X.N xs).symm
def PTs (X:Cx) (ifs:List Expr) (t:TT):Prop :=
 ∀ (pins:List (Addr × Obj)) (s:Shared) (σ:St) (H:Hp) (Q:Bool→Hp→Prop),Inv X pins σ H s→t σ H Q →
  wpAny (model X.prog X.w) X.A (forIn ifs true fun c r=>if r=true then do let ok ← isTrue c X.env (eval c X.env); pure (ForInStep.yield ok) else pure (ForInStep.yield r)) (TP X pins σ Q) X.xe s
def tYes:TT:=fun _ H Q=>Q true H
theorem pts_nil:PTs X [] tYes:=fun _ _ _ H _ I h=>wpAny_tests_nil ⟨H,I,h⟩
theorem pts_one {c:Expr} {t:TT} (h:PT X c t):PTs X [c] t:=fun pins s σ H Q I q=>wpAny_tests_one (h pins s σ H Q I q)
theorem compLoopT {prog:Program} {w:World} {A:Around} {R:Result→Shared→Prop} {elt target iter:Expr} {ifs:List Expr} {scope:Scope} {pos:Pos} {it acc:Value} {env:Env} (I:Nat→Shared→Prop)
  (turn:∀ n s,I n s→wpAny (model prog w) A (pyNext it) (fun r s₁=>match r with
   | none=>R (.ok .next) s₁
   | some v=>wpAny (model prog w) A (letOwnedTupleGo target it v) (fun _ s₁'=>wpAny (model prog w) A (assign target env v) (fun _ s₂ =>
     wpAny (model prog w) A (forIn ifs true fun c r=>if r=true then do let ok ← isTrue c env (eval c env); pure (ForInStep.yield ok) else pure (ForInStep.yield r)) (fun ok s₃ =>
      if ok=true then wpAny (model prog w) A (eval elt env) (fun x s₄ =>
       wpAny (model prog w) A (call (.builtin "list.append") [acc,x]) (fun _ s₅=>∃ m,m < n∧I m s₅) (fun _ _=>False) s₄) (fun _ _=>False) s₃
      else ∃ m,m < n∧I m s₃) (fun _ _=>False) s₂) (fun _ _=>False) s₁') (fun _ _=>False) s₁) (fun _ _=>False) s)
  (n:Nat) (h:I n s):codeAny (model prog w) A (.compLoop (.ListComp elt [⟨target,iter,ifs,0⟩] scope pos) 0 it acc env) R s:=by
 refine codeAny_loop rfl I (fun n s hI=>?_) n h
 show wpAny _ A ((compTurn (.ListComp elt [⟨target,iter,ifs,0⟩] scope pos) 0 it acc env).onRaise (fun x=>do noteFrame x env; theTreesLotGoes x)) _ _ s
 refine wpAny_noted ?_
 rw [compTurn_list]
 refine wpAny_bind (wpAny_standAt (wpAny_bind (wpAny_mono (turn n s hI) (fun r s₁ h₁=>?_) fun _ _ z=>z.elim)))
 cases r with
 | none=>exact wpAny_pure h₁
 | some v =>
  refine wpAny_bind (wpAny_mono h₁ (fun _ s₁' h₁'=>?_) fun _ _ z=>z.elim)
  refine wpAny_bind (wpAny_mono h₁' (fun _ s₂ h₂=>wpAny_bind (wpAny_mono h₂ (fun ok s₃ h₃=>?_) fun _ _ z=>z.elim)) fun _ _ z=>z.elim)
  cases ok with
  | false=>exact wpAny_pure ⟨rfl,h₃⟩
  | true =>
   exact wpAny_bind (wpAny_bind (wpAny_mono h₃ (fun x s₄ h₄=>wpAny_bind (wpAny_mono h₄ (fun _ s₅ h₅=>wpAny_pure (wpAny_pure ⟨rfl,h₅⟩)) fun _ _ z=>z.elim)) fun _ _ z=>z.elim))
def LcW (n:Nat) (J:It) (g:TG) (tt:TT) (te:TE) (σ:St) (H1:Hp) (Q:VK):Prop:=∀ D,H1 D=none→∃ W:Nat→Nat→List V→Hp→Prop,(∃ m,W 0 m [] (upd H1 D (.lst []))) ∧
 ∀ i m ys H',W i m ys H'→H' D=some (.lst ys)∧((J.stop i H'∧Q (.ref D) H') ∨ (J.go i H'∧∀ z H2,J.yld i H' z H2→∀ os:St,os.length=n→g z (σ++os) H2 fun σ' H3=>(∃ os':St,σ'=σ++os'∧os'.length=n)∧tt σ' H3 fun ok H4 =>
  if ok=true then te σ' H4 fun v H5=>H5 D=some (.lst ys)∧ys.length < sizeLine∧∃ m',m' < m∧W (i+1) m' (ys++[v]) (upd H5 D (.lst (ys++[v]))) else ∃ m',m' < m∧W (i+1) m' ys H4))
def tLcs (n:Nat) (ti:TI) (g:TG) (tt:TT) (te:TE):TE:=fun σ H Q=>ti σ H fun J H1=>LcW n J g tt te σ H1 Q
theorem lcs_core {elt iter target:Expr} {ifs:List Expr} {pos:Pos} {g:TG} {tt:TT} {te:TE} {S:Scope} {use:Option (Value→Sem Unit)} {QQ:Value→Shared→Prop} {Q:VK} {it:Addr} {tn:Nat→Heap→Prop} {J:It} (hc:X.calm=true) (L:LcScopes S X.N sc xs) (hS:X.env.scope=S)
  (hg:∀ (s₀:Shared) (H₀:Hp) (fp:List Addr),PG (X.blks (blkNs X.N xs) sc s₀ H₀ fp) target g) (ht:∀ (s₀:Shared) (H₀:Hp) (fp:List Addr),PTs (X.blks (blkNs X.N xs) sc s₀ H₀ fp) ifs tt)
  (he:∀ (s₀:Shared) (H₀:Hp) (fp:List Addr),PE (X.blks (blkNs X.N xs) sc s₀ H₀ fp) elt te)
  (I:Inv X pins σ H s) (T:Turn X.prog X.w X.K target J fp it tn) (st:tn 0 s.heap) (hf:∀ b ∈ fp,FpOk X pins H b) (h:LcW xs.length J g tt te σ H Q)
  (fin:∀ (D C:Addr) (H':Hp) (s':Shared) (m:Str→Option Value),Inv X pins σ H' s'→Q (.ref D) H'→s'.heap.Ns C m→H' C=none→s.heap.objs.size≤C→(∀ p ∈ X.pn++pins,p.1≠C)→C≠X.env.locals→(∀ y c,X.env.cells.lookup y=some c→c≠C)→compPost (model X.prog X.w) X.A X.xe use QQ (.ref D) C (.ok .next) s') :
  wpAny (model X.prog X.w) X.A (newList []) (fun acc s₃=>wpAny (model X.prog X.w) X.A (newFunctionEnv sc X.env.globals (clOf X.env.cells sc.names []) [] X.env.qual none .none (some X.env)) (fun cenv s₄ =>
   codeAny (model X.prog X.w) X.A (.compStart (.ListComp elt [⟨target,iter,ifs,0⟩] sc pos) 0 (.ref it) acc { cenv with scope:=relabel sc X.env }) (compPost (model X.prog X.w) X.A X.xe use QQ acc cenv.locals) s₄) X.xe s₃) X.xe s:=by
 refine wpAny_newObj_type ?_
 have hD:H s.heap.objs.size=none:=I.hok.fresh (Nat.le_refl _)
 obtain ⟨W,⟨m0,w0⟩,turn⟩:=h s.heap.objs.size hD
 have I2:Inv X pins σ (upd H s.heap.objs.size (.lst [])) { s with heap:=s.heap.push { cls:=.type "list",data:=.seq ([]:List Value).toArray } }:=I.lnew (t':=s.toks) .nil (Nat.zero_le _)
 have lt0:∀ b ∈ fp,b < s.heap.objs.size:=fun b hb=>by
  obtain ⟨o,e,_⟩:=T.obj 0 s.heap st b hb
  exact Heap.lt_size e
 have hf2:∀ b ∈ fp,FpOk X pins (upd H s.heap.objs.size (.lst [])) b:=fun b hb=>by
  obtain ⟨f0,f⟩:=hf b hb
  exact ⟨by rw [upd_ne (Nat.ne_of_lt (lt0 b hb))]; exact f0,f⟩
 have st2:tn 0 (s.heap.push { cls:=.type "list",data:=.seq ([]:List Value).toArray }):=T.keep 0 _ _ st fun b _ o e=>Heap.get?_push_of_some _ e
 generalize hs2:({ s with heap:=s.heap.push { cls:=.type "list",data:=.seq ([]:List Value).toArray } }:Shared)=s2 at I2
 have eh:s2.heap=s.heap.push { cls:=.type "list",data:=.seq ([]:List Value).toArray }:=by rw [←hs2]
 have lt2:∀ b ∈ fp,b < s2.heap.objs.size:=fun b hb=>by rw [eh,Heap.size_push]; exact Nat.lt_succ_of_lt (lt0 b hb)
 rw [←eh] at st2
 have le2:s.heap.objs.size≤s2.heap.objs.size:=by rw [eh,Heap.size_push]; exact Nat.le_succ _
 show wpAny _ _ _ _ _ s2
 refine newEnv_lc ?_
 rw [cellsFrom_none L.noC,pushCells_none L.noC]
 have hns₁:(s2.heap.push { cls:=.type "dict",data:=.dict #[] }).Ns s2.heap.objs.size _:=Heap.Ns.new s2.heap (.type "dict")
 have keep:∀ b o,s2.heap.get? b=some o→(s2.heap.push { cls:=.type "dict",data:=.dict #[] }).get? b=some o:=fun b o e=>Heap.get?_push_of_some _ e
 generalize s2.heap.push { cls:=.type "dict",data:=.dict #[] }=h₁ at hns₁ keep ⊢
 have J0:Inv (X.blks (blkNs X.N xs) sc s2 (upd H s.heap.objs.size (.lst [])) fp) [] (σ++xs.map fun _=>none) (upd H s.heap.objs.size (.lst [])) { s2 with heap:=h₁ }:=I2.blks (tk:=s2.toks) L hS hf2 lt2 hns₁ keep
 have st3:tn 0 h₁:=T.keep 0 _ _ st2 fun b _ o e=>keep b o e
 have stat:∀ {H':Hp},(∀ b ∈ fp,H' b=none)→∀ b ∈ fp,FpOk (X.blks (blkNs X.N xs) sc s2 (upd H s.heap.objs.size (.lst [])) fp) [] H' b:=fun {H'} hn b hb=>by
  have o1:=J0.ok.exf b hb
  exact ⟨hn b hb,o1.1,J0.ok.exfs b hb,.inl hb,o1.2,fun p hp=>absurd (show p ∈ ([]:List (Addr × Obj)) from hp) (by simp)⟩
 have loop:codeAny (model X.prog X.w) X.A (.compLoop (.ListComp elt [⟨target,iter,ifs,0⟩] sc pos) 0 (.ref it) (.ref s.heap.objs.size) (compEnvC sc (clOf X.env.cells sc.names []) s2.heap.objs.size X.env))
   (compPost (model X.prog X.w) X.A X.xe use QQ (.ref s.heap.objs.size) s2.heap.objs.size) { s2 with heap:=h₁ }:=by
  refine compLoopT (fun n s'=>∃ i ys H' os,os.length=xs.length∧Inv (X.blks (blkNs X.N xs) sc s2 (upd H s.heap.objs.size (.lst [])) fp) [] (σ++os) H' s'∧tn i s'.heap∧(∀ b ∈ fp,H' b=none)∧W i n ys H') ?_ m0 ⟨0,[],_,xs.map fun _=>none,by simp,J0,st3,fun b hb=>(hf2 b hb).1,w0⟩
  rintro n s4 ⟨i,ys,H4,os,los,J4,st4,fr4,w4⟩
  obtain ⟨hD4,tt'⟩:=turn i n ys H4 w4
  rcases tt' with ⟨stop,q⟩ | ⟨go,step⟩
  ·refine thn (T.done (X.blks (blkNs X.N xs) sc s2 (upd H s.heap.objs.size (.lst [])) fp) rfl rfl rfl hc i [] s4 _ H4 _ J4 (stat fr4) st4 stop) fun r s5 ⟨hr,J5⟩=>?_
   subst hr
   have I5:Inv X pins σ H4 s5:=I2.call' J5.os J5.base J5.hok J5.bare fun b hb=>by
    obtain ⟨f0,f1,f2,f3,f4,f5⟩:=hf2 b hb
    exact ⟨f3,f1,f4,f5⟩
   obtain ⟨m5,n5,_⟩:=J5.loc
   exact fin _ _ H4 s5 m5 I5 q n5 J5.free le2 (fun p hp z=>by
     have:=Heap.lt_size (I2.pin p hp).1
     rw [z] at this
     exact Nat.lt_irrefl _ this) (Nat.ne_of_gt I2.lt) (fun y c e z=>by
     obtain ⟨v,o,ho,_⟩:=I2.cell y c e
     have:=Heap.lt_size ho
     rw [z] at this
     exact Nat.lt_irrefl _ this)
  ·refine thn (T.item (X.blks (blkNs X.N xs) sc s2 (upd H s.heap.objs.size (.lst [])) fp) rfl rfl rfl hc i [] s4 _ H4 _ J4 (stat fr4) st4 go) fun r s5 ⟨u,hr,h5⟩=>?_
   subst hr
   refine thn h5 fun _ s6 ⟨z,H6,J6,r6,y6,st6,fr6⟩=>?_
   have J6':=J6.pinned (stat fr6) (T.obj _ _ st6)
   refine thn (hg s2 (upd H s.heap.objs.size (.lst [])) fp _ s6 _ H6 z u _ J6' r6 (step z H6 y6 os los)) fun _ s7 ⟨σ7,H7,J7,⟨os',e7,l7⟩,t7⟩=>?_
   subst e7
   refine thn (ht s2 (upd H s.heap.objs.size (.lst [])) fp _ s7 _ H7 _ J7 t7) fun ok s8 ⟨H8,J8,t8⟩=>?_
   cases ok with
   | false =>
    rw [if_neg Bool.false_ne_true] at t8 ⊢
    obtain ⟨m',hm,w8⟩:=t8
    refine ⟨m',hm,i+1,ys,_,os',l7,J8.unpinned,T.keep _ _ _ st6 fun b hb o e=>(J8.pin (b,o) (List.mem_append_right _ (List.mem_append_right _ (mem_pinsAt hb e)))).1,fun b hb=>?_,w8⟩
    obtain ⟨o',e',_⟩:=T.obj _ _ st6 b hb
    exact (J8.pin (b,o') (List.mem_append_right _ (List.mem_append_right _ (mem_pinsAt hb e')))).2.1
   | true =>
    rw [if_pos rfl] at t8 ⊢
    refine thn (he s2 (upd H s.heap.objs.size (.lst [])) fp _ s8 _ H8 _ J8 t8) fun vv s9 ⟨v,H9,J9,r9,hD9,hz9,m',hm,w9⟩=>?_
    refine thn (mt_append (X:=X.blks (blkNs X.N xs) sc s2 (upd H s.heap.objs.size (.lst [])) fp) _ s9 _ H9 (.ref s.heap.objs.size) [v] (.ref s.heap.objs.size) [vv] (fun _ H'=>H'=upd H9 s.heap.objs.size (.lst (ys++[v]))) J9 rfl (.cons r9 .nil) ⟨_,ys,v,rfl,rfl,hD9,hz9,rfl⟩) fun _ s10 ⟨_,H10,J10,_,e10⟩=>?_
    subst e10
    refine ⟨m',hm,i+1,ys++[v],_,os',l7,J10.unpinned,T.keep _ _ _ st6 fun b hb o e=>(J10.pin (b,o) (List.mem_append_right _ (List.mem_append_right _ (mem_pinsAt hb e)))).1,fun b hb=>?_,w9⟩
    obtain ⟨o',e',_⟩:=T.obj _ _ st6 b hb
    exact (J10.pin (b,o') (List.mem_append_right _ (List.mem_append_right _ (mem_pinsAt hb e')))).2.1
 refine codeAny_compStart_list loop (T.self _ 0 _ _ _ st3 loop)
theorem pe_lcs {elt iter target:Expr} {ifs:List Expr} {pos:Pos} {ti:TI} {g:TG} {tt:TT} {te:TE} {S:Scope} (hc:X.calm=true) (L:LcScopes S X.N sc xs) (hS:X.env.scope=S) (hi:PI X target iter ti)
  (hg:∀ (s₀:Shared) (H₀:Hp) (fp:List Addr),PG (X.blks (blkNs X.N xs) sc s₀ H₀ fp) target g) (ht:∀ (s₀:Shared) (H₀:Hp) (fp:List Addr),PTs (X.blks (blkNs X.N xs) sc s₀ H₀ fp) ifs tt)
  (he:∀ (s₀:Shared) (H₀:Hp) (fp:List Addr),PE (X.blks (blkNs X.N xs) sc s₀ H₀ fp) elt te) (hs:∀ x,foldedSetIterable iter X.env x=pure x:=by intro _; rfl) :
  PE X (.ListComp elt [⟨target,iter,ifs,0⟩] sc pos) (tLcs xs.length ti g tt te):=by
 intro pins s σ H Q I h
 rw [eval_ListComp]
 refine wpAny_comprehension_free (use:=none) rfl hs (closure_of (I.has_cells L hS)) L.kind L.names (thn (hi pins s σ H _ I h) fun xv s₁ h₁=>thn h₁ fun itv s₂ h₂=>?_)
 obtain ⟨it,fp,tn,J,H2,rfl,I2,T,st2,f2,q2⟩:=h₂
 refine lcs_core hc L hS hg ht he I2 T st2 f2 q2 ?_
 intro D C H' s' m I' q hn hC hle hp hL hcl
 refine ⟨m,hn,fun h' hs'=>?_⟩
 have I3:Inv X pins σ H' { s' with heap:=h' }:=I'.turned (t':=s'.toks) (fun b o hb e=>(hs'.2 b hb).trans e) hC hL (.inr (Nat.le_trans I2.sz hle)) hcl hp
 exact ⟨.ref D,H',I3,rfl,q⟩
theorem ps_setLcs {elt iter target:Expr} {ifs:List Expr} {i:Nat} {y:Str} {py pos spos:Pos} {ti:TI} {g:TG} {tt:TT} {te:TE} {S:Scope} (hN:X.N.Nodup) (hi:X.N[i]? = some y) (hy:Loc X.env.scope y) (hc:X.calm=true) (L:LcScopes S X.N sc xs) (hS:X.env.scope=S) (hit:PI X target iter ti)
  (hg:∀ (s₀:Shared) (H₀:Hp) (fp:List Addr),PG (X.blks (blkNs X.N xs) sc s₀ H₀ fp) target g) (ht:∀ (s₀:Shared) (H₀:Hp) (fp:List Addr),PTs (X.blks (blkNs X.N xs) sc s₀ H₀ fp) ifs tt)
  (he:∀ (s₀:Shared) (H₀:Hp) (fp:List Addr),PE (X.blks (blkNs X.N xs) sc s₀ H₀ fp) elt te)
  (hsw:swapsWith (.ListComp elt [⟨target,iter,ifs,0⟩] sc pos) (some (.Name y py)) spos.line X.env=pure true:=by rfl) (hs:∀ x,foldedSetIterable iter X.env x=pure x:=by intro _; rfl)
  (hf:X.fn y=true ∨ X.env.scope.names.lookup y=some .local:=by first | exact .inl rfl | exact .inr rfl | assumption) :
  PS X (.Assign [.Name y py] (.ListComp elt [⟨target,iter,ifs,0⟩] sc pos) spos) (tAsg (tLcs xs.length ti g tt te) (gName i)):=by
 intro pins s σ H D I h
 rw [exec_Assign_Name_used _ _ _ _ hsw]
 refine wpAny_bind (wpAny_standAt (wpAny_bind ?_))
 show wpAny _ _ (do let _ ← comprehension (.ListComp elt [⟨target,iter,ifs,0⟩] sc pos) sc X.env _ (newList []) false (eval iter X.env) (some (assign (.Name y py) X.env))) _ _ s
 refine wpAny_bind (wpAny_mono (wpAny_comprehension_free (use:=some (assign (.Name y py) X.env)) (Q:=fun _ s'=>SP X pins D .next s') rfl hs (closure_of (I.has_cells L hS)) L.kind L.names
  (thn (hit pins s σ H _ I h) fun xv s₁ h₁=>thn h₁ fun itv s₂ h₂=>?_)) (fun _ s' hq=>wpAny_pure (wpAny_pure hq)) fun _ _ e=>e)
 obtain ⟨it,fp,tn,J,H2,rfl,I2,T,st2,f2,q2⟩:=h₂
 refine lcs_core (Q:=fun v H'=>D.nx (σ.set i (some v)) H') hc L hS hg ht he I2 T st2 f2 q2 ?_
 intro D' C H' s' m I' q hn hC hle hp hL hcl
 show wpAny _ _ (assign (.Name y py) X.env (.ref D')) _ _ s'
 refine wpAny_assign_Name (store_ok2 I' hN hi hy (v:=.ref D') (u:=.ref D') rfl (fun s'' I'' ⟨a,sb,ha⟩=>?_) hf)
 have nCa:C≠a:=by
  rcases ha with rfl | ha
  ·exact hL
  ·exact fun z=>hcl y a ha z.symm
 refine ⟨m,hn.sameBut sb nCa,fun h' hs'=>?_⟩
 have I3:Inv X pins (σ.set i (some (.ref D'))) H' { s'' with heap:=h' }:=I''.turned (t':=s''.toks) (fun b o hb e=>(hs'.2 b hb).trans e) hC hL (.inr (Nat.le_trans I2.sz hle)) hcl hp
 exact ⟨_,H',I3,q⟩
def g2 (K:PySem.W.Frag) (n:Nat):TG:=gTup K 2 (gCons (gName n) (gCons (gName (n+1)) gNil))
theorem pg_two {S:Scope} {x y:Str} {px py tpos:Pos} {k:Nat} (hc:X.calm=true) (L:LcScopes S X.N sc [x,y]) (s₀:Shared) (H₀:Hp) (fp:List Addr):PG (X.blks (blkNs X.N [x,y]) sc s₀ H₀ fp) (.Tuple [.Name x px,.Name y py] k tpos) (g2 X.K X.N.length):=by
 refine pg_tup (X:=X.blks (blkNs X.N [x,y]) sc s₀ H₀ fp) hc (pgs_cons (pg_name L.nd ?_ (.inl (lookup_relabel_local (L.loc x (by simp)))) (.inr (lookup_relabel_local (L.loc x (by simp))))) (pgs_cons (pg_name L.nd ?_ (.inl (lookup_relabel_local (L.loc y (by simp)))) (.inr (lookup_relabel_local (L.loc y (by simp))))) pgs_nil))
 ·show (blkNs X.N [x,y])[X.N.length]? = some x
  unfold blkNs
  rw [List.getElem?_append_right (by simp)]
  simp
 ·show (blkNs X.N [x,y])[X.N.length+1]? = some y
  unfold blkNs
  rw [List.getElem?_append_right (by simp)]
  simp
theorem pg_one {S:Scope} {x:Str} {px:Pos} (L:LcScopes S X.N sc [x]) (s₀:Shared) (H₀:Hp) (fp:List Addr):PG (X.blks (blkNs X.N [x]) sc s₀ H₀ fp) (.Name x px) (gName X.N.length):=by
 refine pg_name L.nd ?_ (.inl (lookup_relabel_local (L.loc x (by simp)))) (.inr (lookup_relabel_local (L.loc x (by simp))))
 show (blkNs X.N [x])[X.N.length]? = some x
 unfold blkNs
 rw [List.getElem?_append_right (by simp)]
 simp
end
end L2
namespace L2
open PySem PySem.Spec PyProof.Rows
theorem lcw_one {n:Nat} {J:It} {te:TE} {σ:St} {H1:Hp} {Q:VK} (hn:σ.length=n) (h:∀ D,H1 D=none→∃ W:Nat→Nat→List V→Hp→Prop,(∃ m,W 0 m [] (upd H1 D (.lst []))) ∧
  ∀ i m ys H',W i m ys H'→H' D=some (.lst ys)∧((J.stop i H'∧Q (.ref D) H') ∨ (J.go i H'∧∀ z H2,J.yld i H' z H2→te (σ++[some z]) H2 fun v H3=>H3 D=some (.lst ys)∧ys.length < sizeLine∧∃ m',m' < m∧W (i+1) m' (ys++[v]) (upd H3 D (.lst (ys++[v])))))) :
  LcW 1 J (gName n) tYes te σ H1 Q:=by
 subst hn
 intro D hD
 obtain ⟨W,w0,st⟩:=h D hD
 refine ⟨W,w0,fun i m ys H' hw=>?_⟩
 obtain ⟨e,d⟩:=st i m ys H' hw
 refine ⟨e,d.imp id fun ⟨go,yl⟩=>⟨go,fun z H2 hy os los=>?_⟩⟩
 match os,los with
 | [o],_ =>
  have es:(σ++[o]).set σ.length (some z)=σ++[some z]:=by
   rw [List.set_append_right _ _ (Nat.le_refl _),Nat.sub_self]
   rfl
  show (∃ os':St,(σ++[o]).set σ.length (some z)=σ++os'∧os'.length=1)∧tYes ((σ++[o]).set σ.length (some z)) H2 _
  rw [es]
  exact ⟨⟨[some z],rfl,rfl⟩,iteT (B:=∃ m',m' < m∧W (i+1) m' ys H2) (yl z H2 hy)⟩
section
variable {X:Cx} {sc:Scope} {x:Str}
theorem pe_lc1 {elt iter:Expr} {px pos:Pos} {ti:TI} {te:TE} {S:Scope} (hc:X.calm=true) (L:LcScopes S X.N sc [x]) (hS:X.env.scope=S) (hi:PI X (.Name x px) iter ti)
  (he:∀ (s₀:Shared) (H₀:Hp) (fp:List Addr),PE (X.blks (blkNs X.N [x]) sc s₀ H₀ fp) elt te) (hs:∀ x,foldedSetIterable iter X.env x=pure x:=by intro _; rfl) :
  PE X (.ListComp elt [⟨.Name x px,iter,[],0⟩] sc pos) (tLc ti te):=by
 intro pins s σ H Q I h
 rw [eval_ListComp]
 refine wpAny_comprehension_free (use:=none) rfl hs (closure_of (I.has_cells L hS)) L.kind L.names (thn (hi pins s σ H _ I h) fun xv s₁ h₁=>thn h₁ fun itv s₂ h₂=>?_)
 obtain ⟨it,fp,tn,J,H2,rfl,I2,T,st2,f2,q2⟩:=h₂
 refine lcs_core hc L hS (pg_one L) (fun _ _ _=>pts_nil) he I2 T st2 f2 (lcw_one I2.len q2) ?_
 intro D C H' s' m I' q hn hC hle hp hL hcl
 refine ⟨m,hn,fun h' hs'=>?_⟩
 have I3:Inv X pins σ H' { s' with heap:=h' }:=I'.turned (t':=s'.toks) (fun b o hb e=>(hs'.2 b hb).trans e) hC hL (.inr (Nat.le_trans I2.sz hle)) hcl hp
 exact ⟨.ref D,H',I3,rfl,q⟩
end
end L2
namespace L2
open PySem PySem.Spec PyProof.Rows
section
variable {X:Cx} {sc:Scope} {x:Str}
theorem ps_setLc1 {elt iter:Expr} {i:Nat} {y:Str} {px py pos spos:Pos} {ti:TI} {te:TE} {S:Scope} (hN:X.N.Nodup) (hi:X.N[i]? = some y) (hy:Loc X.env.scope y) (hc:X.calm=true) (L:LcScopes S X.N sc [x]) (hS:X.env.scope=S) (hit:PI X (.Name x px) iter ti)
  (he:∀ (s₀:Shared) (H₀:Hp) (fp:List Addr),PE (X.blks (blkNs X.N [x]) sc s₀ H₀ fp) elt te)
  (hsw:swapsWith (.ListComp elt [⟨.Name x px,iter,[],0⟩] sc pos) (some (.Name y py)) spos.line X.env=pure true:=by rfl) (hs:∀ x,foldedSetIterable iter X.env x=pure x:=by intro _; rfl)
  (hf:X.fn y=true ∨ X.env.scope.names.lookup y=some .local:=by first | exact .inl rfl | exact .inr rfl | assumption) :
  PS X (.Assign [.Name y py] (.ListComp elt [⟨.Name x px,iter,[],0⟩] sc pos) spos) (tAsg (tLc ti te) (gName i)):=by
 intro pins s σ H D I h
 rw [exec_Assign_Name_used _ _ _ _ hsw]
 refine wpAny_bind (wpAny_standAt (wpAny_bind ?_))
 show wpAny _ _ (do let _ ← comprehension (.ListComp elt [⟨.Name x px,iter,[],0⟩] sc pos) sc X.env _ (newList []) false (eval iter X.env) (some (assign (.Name y py) X.env))) _ _ s
 refine wpAny_bind (wpAny_mono (wpAny_comprehension_free (use:=some (assign (.Name y py) X.env)) (Q:=fun _ s'=>SP X pins D .next s') rfl hs (closure_of (I.has_cells L hS)) L.kind L.names
  (thn (hit pins s σ H _ I h) fun xv s₁ h₁=>thn h₁ fun itv s₂ h₂=>?_)) (fun _ s' hq=>wpAny_pure (wpAny_pure hq)) fun _ _ e=>e)
 obtain ⟨it,fp,tn,J,H2,rfl,I2,T,st2,f2,q2⟩:=h₂
 refine lcs_core (Q:=fun v H'=>D.nx (σ.set i (some v)) H') hc L hS (pg_one L) (fun _ _ _=>pts_nil) he I2 T st2 f2 (lcw_one (Q:=fun v H'=>D.nx (σ.set i (some v)) H') I2.len q2) ?_
 intro D' C H' s' m I' q hn hC hle hp hL hcl
 show wpAny _ _ (assign (.Name y py) X.env (.ref D')) _ _ s'
 refine wpAny_assign_Name (store_ok2 I' hN hi hy (v:=.ref D') (u:=.ref D') rfl (fun s'' I'' ⟨a,sb,ha⟩=>?_) hf)
 have nCa:C≠a:=by
  rcases ha with rfl | ha
  ·exact hL
  ·exact fun z=>hcl y a ha z.symm
 refine ⟨m,hn.sameBut sb nCa,fun h' hs'=>?_⟩
 have I3:Inv X pins (σ.set i (some (.ref D'))) H' { s'' with heap:=h' }:=I''.turned (t':=s''.toks) (fun b o hb e=>(hs'.2 b hb).trans e) hC hL (.inr (Nat.le_trans I2.sz hle)) hcl hp
 exact ⟨_,H',I3,q⟩
end
end L2
namespace M11
abbrev G (a b:Int):Int:=(Int.gcd a b:Nat)
theorem gcd_step (a b:Int):Int.gcd b (a.fmod b)=Int.gcd a b:=by
 rw [Int.fmod_def,Int.gcd_sub_mul_left_right,Int.gcd_comm]
theorem fmod_small (a b:Int) (h:b≠0):(a.fmod b).natAbs < b.natAbs:=by
 rcases Int.lt_or_lt_of_ne h with hb | hb
 ·have e:=Int.neg_fmod_neg a b
  have h1:=Int.fmod_nonneg_of_pos (-a) (b:=-b) (by omega)
  have h2:=Int.fmod_lt_of_pos (-a) (b:=-b) (by omega)
  omega
 ·have h1:=Int.fmod_nonneg_of_pos a hb
  have h2:=Int.fmod_lt_of_pos a hb
  omega
theorem gcd_end (a:Int):(if a < 0 then -a else a)=G a 0:=by
 show _=((Int.gcd a 0:Nat):Int)
 rw [Int.gcd_zero_right]
 split <;> omega
def sgn (t b:Int):Int:=if b < 0 then -(G t b) else G t b
def low (t b:Int):Int × Int:=(t.fdiv (sgn t b),b.fdiv (sgn t b))
theorem sgn_ne {t b:Int} (h:b≠0):sgn t b≠0:=by
 have:=Int.gcd_pos_of_ne_zero_right t h
 unfold sgn G
 split <;> omega
theorem G_le {t b:Int} (h:b≠0):G t b≤(b.natAbs:Int):=by
 have h1:Int.gcd t b ∣ b.natAbs:=by
  have:=Int.natAbs_dvd_natAbs.mpr (Int.gcd_dvd_right t b)
  simpa using this
 have h2:0 < b.natAbs:=by omega
 exact Int.ofNat_le.mpr (Nat.le_of_dvd h2 h1)
theorem sgn_le {t b:Int} (h:b≠0):(sgn t b).natAbs≤b.natAbs:=by
 have h1:=G_le (t:=t) h
 have h2:0≤G t b:=Int.natCast_nonneg _
 unfold sgn
 generalize G t b=g at h1 h2 ⊢
 split <;> omega
theorem sgn_natAbs (t b:Int):(sgn t b).natAbs=Int.gcd t b:=by
 unfold sgn G
 split <;> omega
theorem sgn_dvd_l (t b:Int):sgn t b ∣ t:=by
 unfold sgn
 split
 ·exact Int.neg_dvd.mpr (Int.gcd_dvd_left t b)
 ·exact Int.gcd_dvd_left t b
theorem sgn_dvd_r (t b:Int):sgn t b ∣ b:=by
 unfold sgn
 split
 ·exact Int.neg_dvd.mpr (Int.gcd_dvd_right t b)
 ·exact Int.gcd_dvd_right t b
theorem low_spec {t b:Int} (h:b≠0):∃ t' b',t=sgn t b * t'∧b=sgn t b * b'∧low t b=(t',b')∧0 < b'∧Int.gcd t' b'=1:=by
 have hn:=sgn_ne (t:=t) h
 obtain ⟨t',e1⟩:=sgn_dvd_l t b
 obtain ⟨b',e2⟩:=sgn_dvd_r t b
 refine ⟨t',b',e1,e2,?_,?_,?_⟩
 ·have f1:t.fdiv (sgn t b)=t':=(congrArg (fun z=>Int.fdiv z (sgn t b)) e1).trans (Int.mul_fdiv_cancel_left t' hn)
  have f2:b.fdiv (sgn t b)=b':=(congrArg (fun z=>Int.fdiv z (sgn t b)) e2).trans (Int.mul_fdiv_cancel_left b' hn)
  unfold low
  rw [f1,f2]
 ·by_cases hb:b < 0
  ·have hs:sgn t b < 0:=by
    have:=Int.gcd_pos_of_ne_zero_right t h
    unfold sgn G
    rw [if_pos hb]
    omega
   by_cases hp:0 < b'
   ·exact hp
   ·have:=Int.mul_nonneg_of_nonpos_of_nonpos (a:=sgn t b) (b:=b') (by omega) (by omega)
    omega
  ·have hs:0 < sgn t b:=by
    have:=Int.gcd_pos_of_ne_zero_right t h
    unfold sgn G
    rw [if_neg hb]
    omega
   by_cases hp:0 < b'
   ·exact hp
   ·have:=Int.mul_nonpos_of_nonneg_of_nonpos (a:=sgn t b) (b:=b') (by omega) (by omega)
    omega
 ·have g1:Int.gcd (sgn t b * t') (sgn t b * b')=(sgn t b).natAbs * Int.gcd t' b':=Int.gcd_mul_left _ _ _
  rw [←e1,←e2,sgn_natAbs] at g1
  have g2:=Int.gcd_pos_of_ne_zero_right t h
  have g3:Int.gcd t b * Int.gcd t' b'=Int.gcd t b * 1:=by omega
  exact Nat.eq_of_mul_eq_mul_left g2 g3
theorem low_cross {t b:Int} (h:b≠0):(low t b).1 * b=t * (low t b).2:=by
 obtain ⟨t',b',e1,e2,e3,_⟩:=low_spec (t:=t) h
 rw [e3]
 generalize sgn t b=d at e1 e2
 subst e1 e2
 show t' * (d * b')=d * t' * b'
 rw [←Int.mul_assoc,Int.mul_comm t' d]
theorem low_pos {t b:Int} (h:b≠0):0 < (low t b).2:=by
 obtain ⟨t',b',_,_,e3,h',_⟩:=low_spec (t:=t) h
 rw [e3]; exact h'
theorem low_cop {t b:Int} (h:b≠0):Int.gcd (low t b).1 (low t b).2=1:=by
 obtain ⟨t',b',_,_,e3,_,h'⟩:=low_spec (t:=t) h
 rw [e3]; exact h'
theorem natAbs_le_of_mul {d x:Int} (h:d≠0):x.natAbs≤(d * x).natAbs:=by
 rw [Int.natAbs_mul]
 exact Nat.le_mul_of_pos_left _ (by omega)
theorem low_le {t b:Int} (h:b≠0):(low t b).1.natAbs≤t.natAbs∧(low t b).2.natAbs≤b.natAbs:=by
 obtain ⟨t',b',e1,e2,e3,_⟩:=low_spec (t:=t) h
 have hn:=sgn_ne (t:=t) h
 rw [e3]
 have h1:=natAbs_le_of_mul (x:=t') hn
 have h2:=natAbs_le_of_mul (x:=b') hn
 rw [←e1] at h1
 rw [←e2] at h2
 exact ⟨h1,h2⟩
end M11
namespace M11
theorem cop_dvd {x y z:Int} (h:Int.gcd x y=1) (d:y ∣ x * z):y ∣ z:=by
 have d':y.natAbs ∣ x.natAbs * z.natAbs:=by
  rw [←Int.natAbs_mul]
  exact Int.natAbs_dvd_natAbs.mpr d
 have c:Nat.Coprime y.natAbs x.natAbs:=by
  show Nat.gcd y.natAbs x.natAbs=1
  rw [Nat.gcd_comm]
  exact h
 exact Int.natAbs_dvd_natAbs.mp (Nat.Coprime.dvd_of_dvd_mul_left c d')
theorem low_uniq {t b x y:Int} (hb:b≠0) (hy:0 < y) (hg:Int.gcd x y=1) (hc:x * b=t * y):low t b=(x,y):=by
 have c1:=low_cross (t:=t) hb
 have p1:=low_pos (t:=t) hb
 have g1:=low_cop (t:=t) hb
 generalize low t b=l at c1 p1 g1
 obtain ⟨x',y'⟩:=l
 have c1':x' * b=t * y':=c1
 have p1':0 < y':=p1
 have g1':Int.gcd x' y'=1:=g1
 have e:x * y'=x' * y:=by
  have:(x * y') * b=(x' * y) * b:=by grind
  exact Int.eq_of_mul_eq_mul_right hb this
 have d1:y ∣ y':=cop_dvd hg ⟨x',by rw [e,Int.mul_comm]⟩
 have d2:y' ∣ y:=cop_dvd g1' ⟨x,by rw [←e,Int.mul_comm]⟩
 have ey:y'=y:=Int.dvd_antisymm (by omega) (by omega) d2 d1
 subst ey
 have ex:x'=x:=by
  have:x * y'=x' * y':=e
  exact (Int.eq_of_mul_eq_mul_right (by omega) this).symm
 rw [ex]
theorem low_eq {t b t' b':Int} (hb:b≠0) (hb':b'≠0) (h:t * b'=t' * b):low t b=low t' b':=by
 have c1:=low_cross (t:=t') hb'
 have p1:=low_pos (t:=t') hb'
 have g1:=low_cop (t:=t') hb'
 generalize low t' b'=l at c1 p1 g1
 obtain ⟨x,y⟩:=l
 refine low_uniq hb p1 g1 ?_
 have c1':x * b'=t' * y:=c1
 have:(x * b) * b'=(t * y) * b':=by grind
 exact Int.eq_of_mul_eq_mul_right hb' this
theorem low_self {x y:Int} (hy:0 < y) (hg:Int.gcd x y=1):low x y=(x,y):=low_uniq (by omega) hy hg rfl
theorem low_one (x:Int):low x 1=(x,1):=low_self (by decide) (by rw [Int.gcd_one_right])
theorem G_pos {a b:Int} (h:0 < a):0 < G a b:=Int.ofNat_lt.mpr (Int.gcd_pos_of_ne_zero_left b (by omega))
theorem fdiv_of_dvd {d t:Int} (hd:0 < d) (h:d ∣ t):∃ q,t=d * q∧t.fdiv d=q:=by
 obtain ⟨q,e⟩:=h
 exact ⟨q,e,by rw [e]; exact Int.mul_fdiv_cancel_left q (by omega)⟩
def Bn (n:Nat) (x:Int):Prop:=x.natAbs < 2 ^ n
theorem Bn.mono {n m:Nat} {x:Int} (h:Bn n x) (hm:n≤m):Bn m x:=Nat.lt_of_lt_of_le h (Nat.pow_le_pow_right (by decide) hm)
theorem Bn.mul {n m:Nat} {x y:Int} (h:Bn n x) (h':Bn m y):Bn (n+m) (x * y):=by
 unfold Bn at *
 rw [Int.natAbs_mul,Nat.pow_add]
 exact Nat.mul_lt_mul'' h h'
theorem Bn.add {n:Nat} {x y:Int} (h:Bn n x) (h':Bn n y):Bn (n+1) (x+y):=by
 unfold Bn at *
 have:=Int.natAbs_add_le x y
 rw [Nat.pow_succ]
 omega
theorem Bn.le {n:Nat} {x y:Int} (h:Bn n x) (h':y.natAbs≤x.natAbs):Bn n y:=Nat.lt_of_le_of_lt h' h
end M11
namespace L2
open PySem PySem.Spec PyProof.Rows
section
variable {X:Cx}
end
end L2
namespace L2
open PySem PySem.Spec PyProof.Rows
def Ite (K:PySem.W.Frag) (a:Addr):It :=
 ⟨fun i H=>∃ xs x,SqL K H a xs∧xs[i]? = some x,
  fun i H z H'=>∃ t x,z=.ref t∧H t=none∧H'=upd H t (.tup [.int (i:Int),x])∧∀ xs,SqL K H a xs→xs[i]? = some x,
  fun i H=>∃ xs,SqL K H a xs∧xs.length≤i⟩
def ESt (e it a:Addr) (i:Nat) (h:Heap):Prop:=(∃ old,IsEnum h e it (i:Int) old)∧h.IsListIter it a i
theorem turn_enum {P:Program} {w:World} {K:PySem.W.Frag} {elts:List Expr} {ek:Nat} {epos:Pos} {e it a:Addr} (ne:e≠it):Turn P w K (.Tuple elts ek epos) (Ite K a) [e,it] e (ESt e it a) where
 mem:=by simp
 obj:=fun i h st c hc=>by
  obtain ⟨⟨old,he⟩,⟨o1,e1,c1,d1⟩⟩:=st
  have hc':c=e ∨ c=it:=by simpa using hc
  rcases hc' with rfl | rfl
  ·exact ⟨_,he,fun v e=>by cases e⟩
  ·exact ⟨_,e1,fun v e=>by rw [d1] at e; cases e⟩
 keep:=fun i h h' st k=>by
  obtain ⟨⟨old,he⟩,l1⟩:=st
  exact ⟨⟨old,k e (by simp) _ he⟩,l1.at fun o q=>k it (by simp) o q⟩
 item:=by
  intro X hP hw hK hc i pins s σ H E I hf st hg
  subst hP hw hK
  obtain ⟨xs,x,hx,ex⟩:=hg
  obtain ⟨ia,ra,pa,za⟩:=I.list hx
  obtain ⟨u,hu,ru⟩:=ra.get ex
  obtain ⟨⟨old,he⟩,l1⟩:=st
  refine wpAny_pyNext_enum_item he l1 pa.isList (x:=u) (by simpa using hu) ne fun h' a1 a2 a3 a4 a5=>?_
  refine ⟨_,rfl,wpAny_letOwnedTupleGo_enum a1 fun h2 b1 b2=>?_⟩
  have hT:H s.heap.objs.size=none:=I.hok.fresh (Nat.le_refl _)
  have ltz:∀ c o,s.heap.get? c=some o→s.heap.objs.size≠c:=fun c o q=>Nat.ne_of_gt (Heap.lt_size q)
  have Te:s.heap.objs.size≠e:=ltz _ _ he
  have aT:h2.get? s.heap.objs.size=some { cls:=.type "tuple",data:=.seq #[.int i s.toks,u] }:=b2.extBut _ _ Te a3
  have k2:∀ c o,c≠e→c≠it→s.heap.get? c=some o→h2.get? c=some o:=fun c o n1 n2 q=>b2.extBut _ _ n1 (a5 c o n1 n2 q)
  have I1:Inv X pins σ (upd H s.heap.objs.size (.tup [.int (i:Int),x])) { s with heap:=s.heap.push { cls:=.type "tuple",data:=.seq #[.int i s.toks,u] },toks:=s.toks+1 }:=by
   refine I.laid (t':=s.toks+1) (fun c o q=>Heap.get?_push_of_some _ q) (Nat.le_refl _) ?_
   exact ⟨(by show 2≤sizeLine; decide),[.int i s.toks,u],.cons ⟨_,rfl⟩ (.cons ru .nil),IsTup.new s.heap _⟩
  have hf1:∀ c ∈ [e,it],FpOk X pins (upd H s.heap.objs.size (.tup [.int (i:Int),x])) c:=fun c hc'=>by
   obtain ⟨f0,f⟩:=hf c hc'
   refine ⟨?_,f⟩
   have:∃ o,s.heap.get? c=some o:=by
    have hc'':c=e ∨ c=it:=by simpa using hc'
    obtain ⟨o1,e1,_⟩:=l1
    rcases hc'' with rfl | rfl
    ·exact ⟨_,he⟩
    ·exact ⟨_,e1⟩
   obtain ⟨o,q⟩:=this
   rw [upd_ne (ltz c o q).symm]
   exact f0
  have I2:Inv X pins σ (upd H s.heap.objs.size (.tup [.int (i:Int),x])) { s with heap:=h2,toks:=s.toks+1 }:=by
   refine Inv.turnedL (s:={ s with heap:=s.heap.push { cls:=.type "tuple",data:=.seq #[.int i s.toks,u] },toks:=s.toks+1 }) (h':=h2) (t':=s.toks+1) (its:=[e,it]) I1 (fun c o hc' q=>?_) hf1
   have hc'':¬ (c=e ∨ c=it):=by simpa using hc'
   by_cases hcs:c=s.heap.objs.size
   ·subst hcs
    have e':(s.heap.push { cls:=.type "tuple",data:=.seq #[.int i s.toks,u] }).get? s.heap.objs.size=some o:=q
    rw [Heap.get?_push_size _ rfl] at e'
    cases e'
    exact aT
   ·refine k2 c o (fun z'=>hc'' (.inl z')) (fun z'=>hc'' (.inr z')) ?_
    rw [←q]
    exact (Heap.get?_push_ne _ _ _ hcs).symm
  refine ⟨.ref s.heap.objs.size,_,I2,rfl,⟨_,x,rfl,hT,rfl,fun ws hw=>by rw [I.list_inj hw hx]; exact ex⟩,?_,fun c hc'=>(hf1 c hc').1⟩
  exact ⟨⟨u,b1⟩,a2.extBut b2.extBut ne.symm⟩
 done:=by
  intro X hP hw hK hc i pins s σ H E I hf st hg
  subst hP hw hK
  obtain ⟨xs,hx,hl⟩:=hg
  obtain ⟨ia,ra,pa,za⟩:=I.list hx
  have hla:=ra.length
  obtain ⟨⟨old,he⟩,l1⟩:=st
  refine wpAny_pyNext_enum_end (I.ok.hd hc) he l1 pa.isList (by simp; omega) fun h' k=>⟨rfl,?_⟩
  exact I.turnedL (t':=s.toks) (its:=[e,it]) (fun c o hc' q=>by
   have hc'':¬ (c=e ∨ c=it):=by simpa using hc'
   exact k c o (fun z'=>hc'' (.inr z')) q) hf
 self:=fun _ _ _ _ _ st h=>by
  obtain ⟨⟨old,he⟩,_⟩:=st
  exact wpAny_pyIter_enum he h
section
variable {X:Cx}
def iEnum (K:PySem.W.Frag) (ta:TA):TI:=fun σ H R=>ta σ H fun vs H1=>∃ a,vs=[.ref a]∧(∃ xs,SqL K H1 a xs)∧R (Ite K a) H1
theorem pi_enum {elts:List Expr} {ek:Nat} {epos:Pos} {a:Expr} {ta:TA} {p pos:Pos} (hg:Gl X "enumerate") (hm:X.mg "enumerate" = none) (ha:PA X [a] ta) (hs:starEach [a] X.env=[(false,eval a X.env)]:=by rfl) :
  PI X (.Tuple elts ek epos) (.Call (.Name "enumerate" p) [a] [] pos) (iEnum X.K ta):=by
 intro pins s σ H R I h
 refine Call_ (ld_blt I hg hm boot_enumerate (PyProof.Rows.callWith_type1 (thn (ha pos pins s σ H _ I h) fun us s1 ⟨vs,H1,I1,r1,q1⟩=>?_) hs rfl))
 obtain ⟨l1,e,⟨xs,hx⟩,q⟩:=q1
 subst e
 obtain ⟨u,rfl,ru⟩:=vals1 r1
 cases ru
 obtain ⟨ia,ra,pa,za⟩:=I1.list hx
 refine call_enumerate_list pa.isList fun h' he hi hsz hk=>wpAny_pyIter_enum he ?_
 have fr:∀ b,s1.heap.objs.size≤b→FpOk X pins H1 b:=fun b hb=>I1.fpOk hb (I1.hok.fresh hb)
 refine ⟨_,[s1.heap.objs.size+1,s1.heap.objs.size],_,_,H1,rfl,I1.kept (t':=s1.toks) hk,
  turn_enum (it:=s1.heap.objs.size) (a:=l1) (fun z=>by simp at z),⟨⟨_,he⟩,hi⟩,fun b hb=>?_,q⟩
 have hb':b=s1.heap.objs.size+1 ∨ b=s1.heap.objs.size:=by simpa using hb
 rcases hb' with rfl | rfl
 ·exact fr _ (Nat.le_add_right _ _)
 ·exact fr _ (Nat.le_refl _)
theorem for_enum {K:PySem.W.Frag} {a:Addr} {xs:List V} {g:TG} {tb:TS} {D:Ends} {σ:St} {H:Hp} (Pv:Nat→St→Hp→Prop) (h0:Pv 0 σ H) (hl:∀ i σ H,i≤xs.length→Pv i σ H→SqL K H a xs)
  (hs:∀ (i:Nat) (x:V) (t:Addr) σ H,xs[i]? = some x→Pv i σ H→H t=none→g (.ref t) σ (upd H t (.tup [.int (i:Int),x])) fun σ2 H2=>tb { D with nx:=Pv (i+1),ct:=Pv (i+1),bk:=D.nx } σ2 H2) (hd:∀ σ H,Pv xs.length σ H→D.nx σ H) :
  ∃ W:Nat→Nat→St→Hp→Prop,(∃ m,W 0 m σ H)∧∀ i m σ H,W i m σ H →
   ((Ite K a).stop i H∧D.nx σ H) ∨ ((Ite K a).go i H∧∃ N:St→Hp→Prop,(∀ σ' H',N σ' H'→∃ m',m' < m∧W (i+1) m' σ' H')∧∀ x H',(Ite K a).yld i H x H'→g x σ H' fun σ2 H2=>tb { D with nx:=N,ct:=N,bk:=D.nx } σ2 H2):=by
 refine ⟨fun i m σ H=>m=xs.length - i∧i≤xs.length∧Pv i σ H,⟨xs.length,by simp,Nat.zero_le _,h0⟩,?_⟩
 rintro i m σ H ⟨rfl,hi,p⟩
 have q1:=hl i σ H hi p
 by_cases lt:i < xs.length
 ·refine .inr ⟨⟨xs,xs[i],q1,List.getElem?_eq_getElem lt⟩,Pv (i+1),fun σ' H' p'=>⟨xs.length - (i+1),by omega,rfl,lt,p'⟩,fun x H' y=>?_⟩
  obtain ⟨t,x1,rfl,ht,rfl,g1⟩:=y
  exact hs i x1 t σ H (g1 xs q1) p ht
 ·have ei:i=xs.length:=by omega
  subst ei
  exact .inl ⟨⟨xs,q1,Nat.le_refl _⟩,hd σ H p⟩
end
end L2
namespace L2
open PySem PySem.Spec PyProof.Rows
section
variable {X:Cx}
theorem ins_call {prog:Program} {w:World} {A:Around} {E:Value→Shared→Prop} {s:Shared} {Q:Value→Shared→Prop} {l:Addr} {arr:Array Value} {n:Nat} {k:Int} {t1:Tok} {u2:Value} (hc0:¬(!Builtin.List.listFitsIndex k)=true) (hs1:arr.size≤sizeLine)
  (e:s.heap.get? l=some { cls:=.type "list",data:=.seq arr n }) (h:Q .none { s with heap:=s.heap.update l (Obj.mapSeq fun xs=>have k:=if k < 0 then (k+(xs.size:Int)).toNat else min k.toNat xs.size; (xs.extract 0 k).push u2++xs.extract k),toks:=s.toks }) :
  wpAny (model prog w) A (call (.builtin "list.insert") [.ref l,.int k t1,u2]) Q E s :=
 call_meets F.slot_list_insert ⟨_,e,rfl⟩ F.entry_list_insert (F.args_list_insert_3 _ _ _) (PySem.AutoSeq1.list_insert_list_int_val_1 l arr n k t1 u2 hc0 hs1) ⟨e,h⟩
def rInsert:V→List V→Hp→VK→Prop:=fun x vs H Q=>∃ (l:Addr) (xs:List V) (k:Nat) (y:V),x=.ref l∧vs=[.int (k:Int),y]∧H l=some (.lst xs)∧k≤xs.length∧xs.length < sizeLine∧Q .non (upd H l (.lst (xs.take k++y :: xs.drop k)))
theorem mt_insert:MtM X "list.insert" rInsert:=by
 intro pins s σ H x vs v us Q I rx rv h
 obtain ⟨l,xs,k,y,rfl,rfl,hH,hk,hz,q⟩:=h
 cases rx
 obtain ⟨u1,u2,rfl,⟨t1,rfl⟩,r2⟩:=rv.two
 obtain ⟨z,its,n,r,hl,e⟩:=I.lstM hH
 have hn:=line63
 have hf:Builtin.List.listFitsIndex (k:Int)=true:=by
  unfold Builtin.List.listFitsIndex
  rw [Bool.and_eq_true,decide_eq_true_iff,decide_eq_true_iff]
  omega
 have hc0:¬(!Builtin.List.listFitsIndex (k:Int))=true:=by rw [hf]; decide
 have hs1:its.toArray.size≤sizeLine:=by rw [List.size_toArray]; omega
 refine ins_call hc0 hs1 e ?_
 refine ⟨.non,_,I.lset (its':=its.take k++u2 :: its.drop k) hH e ?_ ((r.take k).append (.cons r2 (r.drop k))) ?_,rfl,q⟩
 ·have e1:(if ((k:Nat):Int) < 0 then (((k:Nat):Int)+(its.toArray.size:Int)).toNat else min ((k:Nat):Int).toNat its.toArray.size)=k:=by
   rw [if_neg (by omega),Int.toNat_natCast,List.size_toArray]
   omega
  dsimp only
  rw [e1]
  apply Array.ext'
  simp
  exact List.take_of_length_le (by rw [List.length_drop]; exact Nat.le_refl _)
 ·rw [List.length_append,List.length_cons,List.length_take,List.length_drop]
  omega
end
end L2
namespace L2
open PySem PySem.Spec PyProof.Rows
noncomputable def hitD (h:Heap) (d:PyData) (u:Value):Bool:=@decide (∃ e as,Reads h u e as∧e.canLay0=true∧PyData.eqv e d=true) (Classical.propDecidable _)
theorem hitD_of {h:Heap} {d e:PyData} {u:Value} {as:List Addr} (r:Reads h u e as) (l:e.canLay0=true):hitD h d u=PyData.eqv e d:=by
 unfold hitD
 cases q:PyData.eqv e d with
 | true=>exact @decide_eq_true _ (Classical.propDecidable _) ⟨e,as,r,l,q⟩
 | false =>
  refine @decide_eq_false _ (Classical.propDecidable _) fun ⟨e',as',r',l',q'⟩=>?_
  rw [PySem.SeqAt.Reads.unique e e' u as as' l r r',q'] at q
  cases q
theorem hits_get {h:Heap} {d:PyData}:∀ {us:List Value} {ds:List PyData} {as:List Addr},ReadsAll h us ds as→PyData.canLayAll0 ds=true→us.length=ds.length∧∀ (i:Nat) (h1:i < us.length) (h2:i < ds.length),hitD h d us[i]=PyData.eqv ds[i] d∧∃ bs,Reads h us[i] ds[i] bs∧ds[i].canLay0=true
 | _,_,_,.nil,_=>⟨rfl,fun i h1=>absurd h1 (by simp)⟩
 | _,_,_,.cons r rs,l=>by
  simp only [PyData.canLayAll0,Bool.and_eq_true] at l
  obtain ⟨e,g⟩:=hits_get (d:=d) rs l.2
  refine ⟨by rw [List.length_cons,List.length_cons,e],fun i h1 h2=>?_⟩
  cases i with
  | zero=>exact ⟨hitD_of r l.1,_,r,l.1⟩
  | succ i=>exact g i (by simpa using h1) (by simpa using h2)
theorem any_hit {h:Heap} {d:PyData}:∀ {us:List Value} {ds:List PyData} {as:List Addr},ReadsAll h us ds as→PyData.canLayAll0 ds=true→us.any (hitD h d)=ds.any fun e=>PyData.eqv e d
 | _,_,_,.nil,_=>rfl
 | _,_,_,.cons r rs,l=>by
  simp only [PyData.canLayAll0,Bool.and_eq_true] at l
  rw [List.any_cons,List.any_cons,hitD_of r l.1,any_hit rs l.2]
theorem hits_eqAt {A:Around} {s:Shared} {x:Value} {d:PyData} {bs:List Addr} (rx:Reads s.heap x d bs) (lx:d.canLay0=true) (hu:A.units+d.depth < cLine) {us:List Value} {ds:List PyData} {as:List Addr} (r:ReadsAll s.heap us ds as) (l:PyData.canLayAll0 ds=true) :
  ∀ u ∈ us,SeqAt.EqAt A s u x (hitD s.heap d u):=by
 intro u hm
 obtain ⟨i,hi,rfl⟩:=List.getElem_of_mem hm
 obtain ⟨e,g⟩:=hits_get (d:=d) r l
 obtain ⟨g1,cs,g2,g3⟩:=g i hi (by omega)
 rw [g1]
 exact PySem.SeqAt.eqAt_reads _ _ A s _ _ _ _ g2 rx g3 lx (Nat.lt_of_le_of_lt (Nat.add_le_add_left (Nat.min_le_right _ _) _) hu)
section
variable {X:Cx}
def rNotInD (K:PySem.W.Frag):R2:=fun x y H Q=>∃ p xs ds d,y=.ref p∧SqL K H p xs∧DAs K any H xs ds∧DA K any H x d∧(PyData.canLayAll0 ds=true∧d.canLay0=true∧d.depth≤32)∧Q (.bl (!ds.any fun e=>PyData.eqv e d)) H
theorem op_notInD (hu:X.A.units+64 < cLine):OpR X (compareOp .NotIn) (rNotInD X.K):=by
 intro pins s σ H x y v u Q I rx ry h
 obtain ⟨p,xs,ds,d,rfl,hq,hs,hd,⟨l1,l2,l3⟩,q⟩:=h
 cases ry
 obtain ⟨its,r,pl,hz⟩:=I.list hq
 obtain ⟨as,p1⟩:=hs.reads I r
 obtain ⟨bs,p2⟩:=hd.reads I rx
 refine SeqAt.notIn_listAt (hitD s.heap d) pl.isList (fun w hw=>hits_eqAt p2 l2 (by rw [Around.in1_units]; omega) p1 l1 w (by simpa using hw)) ⟨.bl _,H,I,rfl,?_⟩
 rw [show its.toArray.any (hitD s.heap d)=its.any (hitD s.heap d) by simp,any_hit p1 l1]
 exact q
def rIndexD (K:PySem.W.Frag):V→List V→Hp→VK→Prop:=fun x vs H Q=>∃ l xs y ds d,x=.ref l∧vs=[y]∧H l=some (.lst xs)∧DAs K any H xs ds∧DA K any H y d∧(PyData.canLayAll0 ds=true∧d.canLay0=true∧d.depth≤32)∧(ds.findIdx fun e=>PyData.eqv e d) < ds.length ∧
 Q (.int ((ds.findIdx fun e=>PyData.eqv e d:Nat):Int)) H
theorem mt_indexD (hu:X.A.units+64 < cLine):MtM X "list.index" (rIndexD X.K):=by
 intro pins s σ H x vs v us Q I rx rv h
 obtain ⟨l,xs,y,ds,d,rfl,rfl,hH,hs,hd,⟨l1,l2,l3⟩,hj,q⟩:=h
 cases rx
 obtain ⟨u,rfl,ru⟩:=rv.one
 obtain ⟨z,its,n,r,hl,e⟩:=I.lstM hH
 obtain ⟨as,p1⟩:=hs.reads I r
 obtain ⟨bs,p2⟩:=hd.reads I ru
 obtain ⟨g0,g⟩:=hits_get (d:=d) p1 l1
 have hn:=line63
 refine call_meets F.slot_list_index ⟨_,e,rfl⟩ F.entry_list_index (F.args_list_index_2 _ _) (SeqAt.list_indexAt l its.toArray n _ _ u (hitD s.heap d) (ds.findIdx fun e=>PyData.eqv e d) (by simpa [g0] using hj) (by omega) ?_ ?_) ⟨e,fun w hw=>hits_eqAt p2 l2 (by rw [Around.in1_units]; omega) p1 l1 w (by simpa using hw),?_⟩
 ·have:=(g (ds.findIdx fun e=>PyData.eqv e d) (by omega) hj).1
  show hitD s.heap d (its[ds.findIdx fun e=>PyData.eqv e d]'(by omega))=true
  rw [this]
  exact List.findIdx_getElem (w:=hj)
 ·intro m hm lt
  have hm':m < its.length:=by simpa using hm
  have:=(g m hm' (by omega)).1
  show hitD s.heap d (its[m]'hm')=false
  rw [this]
  have:=List.not_of_lt_findIdx lt
  simpa using this
 ·exact ⟨.int _,H,I.tok _,⟨_,rfl⟩,q⟩
end
end L2
namespace L2
open PySem PySem.Spec PyProof.Rows
section
variable {X:Cx}
theorem all_range (bs:List Bool):(List.range bs.length).all (fun i=>(bs[i]?).getD true)=bs.all id:=by
 rw [Bool.eq_iff_iff,List.all_eq_true,List.all_eq_true]
 constructor
 ·intro h b hb
  obtain ⟨i,hi⟩:=List.getElem?_of_mem hb
  have:=h i (List.mem_range.mpr (List.getElem?_eq_some_iff.mp hi).1)
  rw [hi] at this
  exact this
 ·intro h i hi
  have e:=List.getElem?_eq_getElem (List.mem_range.mp hi)
  rw [e]
  exact h _ (List.getElem_mem _)
theorem call_all (hc:X.calm=true):CallR X (.builtin "all") (fun xs H Q=>∃ (p:Addr) (bs:List Bool),xs=[.ref p]∧SqL X.K H p (bs.map V.bl)∧Q (.bl (bs.all id)) H):=by
 intro pins s σ H xs us Q I r h
 obtain ⟨p,bs,rfl,hq,q⟩:=h
 obtain ⟨u,rfl,rx⟩:=vals1 r
 cases rx
 obtain ⟨its,rv,pl,hz⟩:=I.list hq
 have hl:=rv.length
 rw [List.length_map] at hl
 refine call_all_walk (wpAny_pyIter_list pl.isList ?_)
 have hne:p≠s.heap.objs.size:=by
  obtain ⟨o,e,_⟩:=id pl.isList
  exact Nat.ne_of_lt (Heap.lt_size e)
 refine ⟨_,_,_,_,_,_,fun i=>(bs[i]?).getD true,rfl,Walks.list (A:=X.A.in1) (I.ok.hd hc) _ p hne its.toArray,?_,?_,?_⟩
 ·exact ⟨⟨_,Heap.get?_push_size _ rfl,rfl,rfl⟩,pl.isList.at fun o e=>Heap.get?_push_of_some _ e⟩
 ·intro i v s2 Q2 E2 hi hq2
  have hi':its[i]? = some v:=by simpa using hi
  have li:i < bs.length:=by rw [hl]; exact (List.getElem?_eq_some_iff.mp hi').1
  have eb:(bs.map V.bl)[i]? = some (.bl bs[i]):=by rw [List.getElem?_map,List.getElem?_eq_getElem li]; rfl
  obtain ⟨u,hu,ru⟩:=rv.get eb
  rw [hi'] at hu
  cases hu
  cases ru
  refine wpAny_truthy_bool ?_
  have hq3:Q2 ((bs[i]?).getD true) s2:=hq2
  rw [List.getElem?_eq_getElem li] at hq3
  exact hq3
 ·intro h' tk hk
  have e:(List.range its.toArray.size).all (fun i=>(bs[i]?).getD true)=bs.all id:=by
   rw [List.size_toArray,←hl]
   exact all_range bs
  rw [e]
  exact ⟨.bl (bs.all id),H,I.kept fun b o e=>hk b o (by
   intro z
   have:=List.mem_singleton.mp z
   subst this
   exact Nat.lt_irrefl _ (Heap.lt_size e)) (Heap.get?_push_of_some _ e),rfl,q⟩
end
end L2
namespace L2
open PySem PySem.Spec PyProof.Rows
section
variable {X:Cx}
end
end L2
namespace L2
open PySem PySem.Spec PyProof.Rows
section
variable {κ:Type} [DecidableEq κ]
def valV (kvs:List (κ × V)) (k:κ):Option V:=(kvs.find? fun kv=>decide (kv.1=k)).map (·.2)
def putK (kvs:List (κ × V)) (k:κ) (v:V):List (κ × V) :=
 if (kvs.any fun kv=>decide (kv.1=k))=true then kvs.map (fun kv=>if kv.1=k then (kv.1,v) else kv) else kvs++[(k,v)]
theorem valV_pos {p:κ × V} {r:List (κ × V)} {k:κ} (e:p.1=k):valV (p :: r) k=some p.2:=by simp [valV,List.find?_cons,e]
theorem valV_neg {p:κ × V} {r:List (κ × V)} {k:κ} (e:¬ p.1=k):valV (p :: r) k=valV r k:=by simp [valV,List.find?_cons,e]
theorem valV_any (k:κ):∀ kvs:List (κ × V),(kvs.any fun kv=>decide (kv.1=k))=(valV kvs k).isSome
 | []=>rfl
 | p :: r=>by
  rw [List.any_cons]
  by_cases e:p.1=k
  ·simp only [valV_pos e,decide_eq_true e,Bool.true_or,Option.isSome_some]
  ·rw [valV_neg e,decide_eq_false e,Bool.false_or]; exact valV_any k r
theorem valV_map (k j:κ) (y:V):∀ kvs:List (κ × V),valV (kvs.map fun kv=>if kv.1=k then (kv.1,y) else kv) j=(valV kvs j).map fun x=>if j=k then y else x
 | []=>rfl
 | p :: r=>by
  have ih:=valV_map k j y r
  rw [List.map_cons]
  by_cases h:p.1=k
  ·rw [if_pos h]
   by_cases e:p.1=j
   ·rw [valV_pos (p:=(p.1,y)) e,valV_pos e,Option.map_some,if_pos (e.symm.trans h)]
   ·rw [valV_neg (p:=(p.1,y)) e,valV_neg e,ih]
  ·rw [if_neg h]
   by_cases e:p.1=j
   ·rw [valV_pos (p:=p) e,valV_pos e,Option.map_some,if_neg (fun z=>h (e.trans z))]
   ·rw [valV_neg (p:=p) e,valV_neg e,ih]
theorem valV_snoc (k j:κ) (y:V):∀ kvs:List (κ × V),valV kvs k=none→valV (kvs++[(k,y)]) j=if j=k then some y else valV kvs j
 | [],_=>by
  by_cases e:k=j
  ·rw [if_pos e.symm]; exact valV_pos (p:=(k,y)) e
  ·rw [if_neg (fun z=>e z.symm)]; exact valV_neg (p:=(k,y)) e
 | p :: r,hn=>by
  rw [List.cons_append]
  have hk:¬ p.1=k:=fun z=>by rw [valV_pos z] at hn; cases hn
  rw [valV_neg hk] at hn
  have ih:=valV_snoc k j y r hn
  by_cases e:p.1=j
  ·rw [valV_pos e,valV_pos e,if_neg (fun z=>hk (e.trans z))]
  ·rw [valV_neg e,valV_neg e,ih]
theorem valV_put (kvs:List (κ × V)) (k j:κ) (y:V):valV (putK kvs k y) j=if j=k then some y else valV kvs j:=by
 unfold putK
 by_cases a:(kvs.any fun kv=>decide (kv.1=k))=true
 ·rw [if_pos a,valV_map]
  rw [valV_any] at a
  by_cases e:j=k
  ·obtain ⟨x,hx⟩:=Option.isSome_iff_exists.mp a
   rw [if_pos e,e,hx,Option.map_some,if_pos rfl]
  ·rw [if_neg e]
   cases valV kvs j with
   | none=>rfl
   | some x=>rw [Option.map_some,if_neg e]
 ·rw [if_neg a]
  refine valV_snoc k j y kvs ?_
  rw [valV_any] at a
  cases q:valV kvs k with
  | none=>rfl
  | some x=>rw [q] at a; exact (a rfl).elim
theorem length_putK (kvs:List (κ × V)) (k:κ) (v:V):(putK kvs k v).length≤kvs.length+1:=by
 unfold putK
 split
 ·rw [List.length_map]; omega
 ·rw [List.length_append,List.length_cons,List.length_nil]; omega
theorem RelO.isSome_eq {o:Option V} {u:Option Value} (r:RelO o u):o.isSome=u.isSome:=by
 cases o with
 | none=>cases u with
  | none=>rfl
  | some _=>exact (show False from r).elim
 | some _=>cases u with
  | none=>exact (show False from r).elim
  | some _=>rfl
theorem RelO.getD {o:Option V} {u:Option Value} {d:V} {d':Value} (r:RelO o u) (rd:RelV d d'):RelV (o.getD d) (u.getD d'):=by
 cases o with
 | none=>cases u with
  | none=>exact rd
  | some _=>exact (show False from r).elim
 | some _=>cases u with
  | none=>exact (show False from r).elim
  | some _=>exact r
theorem KV.val {kvs:List (κ × V)} {vs:List (κ × Value)} (r:KV kvs vs) (k:κ):RelO (valV kvs k) (valueAt vs k):=by
 unfold KV at r
 induction r with
 | nil=>exact True.intro
 | @cons p q ps qs h t ih =>
  obtain ⟨h1,h2⟩:=h
  by_cases e:p.1=k
  ·have e':q.1=k:=h1.symm.trans e
   have b:valueAt (q :: qs) k=some q.2:=by simp [valueAt,List.find?_cons,e']
   rw [valV_pos e,b]; exact h2
  ·have e':¬ q.1=k:=fun z=>e (h1.trans z)
   have b:valueAt (q :: qs) k=valueAt qs k:=by simp [valueAt,List.find?_cons,e']
   rw [valV_neg e,b]; exact ih
theorem KV.any {kvs:List (κ × V)} {vs:List (κ × Value)} (r:KV kvs vs) (k:κ):(kvs.any fun kv=>decide (kv.1=k))=vs.any fun kv=>decide (kv.1=k):=by
 unfold KV at r
 induction r with
 | nil=>rfl
 | cons h t ih=>rw [List.any_cons,List.any_cons,ih,h.1]
theorem KV.repl {kvs:List (κ × V)} {vs:List (κ × Value)} (r:KV kvs vs) (k:κ) {y:V} {u:Value} (ry:RelV y u) :
  KV (kvs.map fun kv=>if kv.1=k then (kv.1,y) else kv) (vs.map fun kv=>if kv.1=k then (kv.1,u) else kv):=by
 unfold KV at r ⊢
 induction r with
 | nil=>exact .nil
 | @cons p q ps qs h t ih =>
  rw [List.map_cons,List.map_cons]
  refine .cons ?_ ih
  obtain ⟨h1,h2⟩:=h
  by_cases e:p.1=k
  ·rw [if_pos e,if_pos (h1.symm.trans e)]; exact ⟨h1,ry⟩
  ·rw [if_neg e,if_neg (fun z=>e (h1.trans z))]; exact ⟨h1,h2⟩
theorem KV.put {kvs:List (κ × V)} {vs:List (κ × Value)} (r:KV kvs vs) (k:κ) {y:V} {u:Value} (ry:RelV y u):KV (putK kvs k y) (stored vs k u):=by
 unfold putK stored
 rw [r.any k]
 by_cases e:(vs.any fun kv=>decide (kv.1=k))=true
 ·rw [if_pos e,if_pos e]; exact r.repl k ry
 ·rw [if_neg e,if_neg e]; exact Paired.snoc r ⟨rfl,ry⟩
theorem KV.length {kvs:List (κ × V)} {vs:List (κ × Value)} (r:KV kvs vs):kvs.length=vs.length:=Paired.length r
end
theorem kV_is {P:Program} {w:World} {k:Key} {u:Value} (r:RelV (kV k) u):(mixKind P w).is k u=true:=by
 cases k with
 | inl i=>obtain ⟨t,e⟩:=(show ∃ t,u=Value.int i t from r); subst e; exact mixKind_int P w i t
 | inr x=>obtain ⟨t,e⟩:=(show ∃ t,u=Value.str x t from r); subst e; exact mixKind_str P w x t
theorem items_are {P:Program} {w:World}:∀ {ks:List Key} {us:List Value},Vals (ks.map kV) us→ItemsAre (mixKind P w) ks us
 | [],_,r=>by rw [List.map_nil] at r; cases r; exact .nil
 | k :: ks,_,r=>by
  rw [List.map_cons] at r
  cases r with
  | cons h t=>exact .cons (kV_is h) (items_are t)
abbrev KT (H:Hp):List (List Key × V)→List (List Key × Addr × Value)→Prop:=Paired fun p q=>p.1=q.1∧H q.2.1=some (.tup (p.1.map kV))∧RelV p.2 q.2.2
theorem KT.val {H:Hp} {kvs:List (List Key × V)} {xs:List (List Key × Addr × Value)} (r:KT H kvs xs) (k:List Key):RelO (valV kvs k) ((atKey xs k).map (·.2)):=by
 induction r with
 | nil=>exact True.intro
 | @cons p q ps qs h t ih =>
  obtain ⟨h1,_,h2⟩:=h
  by_cases e:p.1=k
  ·have e':q.1=k:=h1.symm.trans e
   have b:atKey (q :: qs) k=some q.2:=by simp [atKey,List.find?_cons,e']
   rw [valV_pos e,b]; exact h2
  ·have e':¬ q.1=k:=fun z=>e (h1.trans z)
   have b:atKey (q :: qs) k=atKey qs k:=by simp [atKey,List.find?_cons,e']
   rw [valV_neg e,b]; exact ih
theorem KT.repl {H:Hp} {kvs:List (List Key × V)} {xs:List (List Key × Addr × Value)} (r:KT H kvs xs) (k:List Key) {y:V} {u:Value} (ry:RelV y u) :
  KT H (kvs.map fun kv=>if kv.1=k then (kv.1,y) else kv) (xs.map (putAt k u)):=by
 induction r with
 | nil=>exact .nil
 | @cons p q ps qs h t ih =>
  rw [List.map_cons,List.map_cons]
  refine .cons ?_ ih
  obtain ⟨h1,h2,h3⟩:=h
  unfold putAt
  by_cases e:p.1=k
  ·rw [if_pos e,if_pos (h1.symm.trans e)]; exact ⟨h1,h2,ry⟩
  ·rw [if_neg e,if_neg (fun z=>e (h1.trans z))]; exact ⟨h1,h2,h3⟩
theorem KT.put {H:Hp} {kvs:List (List Key × V)} {xs:List (List Key × Addr × Value)} (r:KT H kvs xs) (k:List Key) {b:Addr} {y:V} {u:Value} (hb:H b=some (.tup (k.map kV))) (ry:RelV y u) :
  KT H (putK kvs k y) (storedH xs k b u):=by
 have e:(kvs.any fun kv=>decide (kv.1=k))=(atKey xs k).isSome:=by
  rw [valV_any,(r.val k).isSome_eq,Option.isSome_map]
 unfold putK storedH
 rw [e]
 by_cases q:(atKey xs k).isSome=true
 ·rw [if_pos q,if_pos q]; exact r.repl k ry
 ·rw [if_neg q,if_neg q]; exact Paired.snoc r ⟨rfl,hb,ry⟩
theorem KT.keeps {H H':Hp} {kvs:List (List Key × V)} {xs:List (List Key × Addr × Value)} (r:KT H kvs xs) (ht:∀ b ys,H b=some (.tup ys)→H' b=some (.tup ys)):KT H' kvs xs :=
 Paired.mapP r fun _ _ z=>⟨z.1,ht _ _ z.2.1,z.2.2⟩
section
variable {P:Program} {w:World} {H:Hp} {h:Heap} {a:Addr}
theorem rd_of {u:HO} (ok:HOk P w H h) (e:Rd H a u):ObjOk P w H h a u:=e.ok ok
theorem dk_rd {kvs:List (Key × V)} (ok:HOk P w H h) (e:Rd H a (.dK kvs)):kvs.length≤sizeLine∧(a == sysModules)=false∧∃ vs,KV kvs vs∧h.DictOf (mixKind P w) a vs :=
 show ObjOk P w H h a (.dK kvs) from rd_of ok e
theorem dk_of {kvs:List (Key × V)} (ok:HOk P w H h) (e:H a=some (.dK kvs)):kvs.length≤sizeLine∧(a == sysModules)=false∧∃ vs,KV kvs vs∧h.DictOf (mixKind P w) a vs:=dk_rd ok (.inl e)
theorem key_of {ks:List Key} (ok:HOk P w H h) (e:H a=some (.tup (ks.map kV))):(tupleKind (mixKind P w)).is h ks a:=by
 obtain ⟨_,its,r,o,h1,h2,n,h3⟩:=(show ObjOk P w H h a (.tup (ks.map kV)) from ok a _ e)
 exact ⟨o,its.toArray,n,h1,h2,h3,by simpa using items_are r⟩
theorem dt_rd {kvs:List (List Key × V)} (ok:HOk P w H h) (e:Rd H a (.dT kvs)):kvs.length≤sizeLine∧(a == sysModules)=false ∧
  ∃ xs,KT H kvs xs∧h.DictOfH (tupleKind (mixKind P w)) a xs:=by
 obtain ⟨z,y,xs,r,o,es,ep,h1,h2,h3,h4,h5⟩:=(show ObjOk P w H h a (.dT kvs) from rd_of ok e)
 refine ⟨z,y,xs,r,o,es,ep,h1,h2,h3,h4,fun x hx=>?_,h5⟩
 have all:∀ {l:List (List Key × V)} {m:List (List Key × Addr × Value)},KT H l m→∀ x ∈ m,(tupleKind (mixKind P w)).is h x.1 x.2.1:=by
  intro l m q
  induction q with
  | nil=>intro x hx; exact nomatch hx
  | @cons p q ps qs hq t ih =>
   intro x hx
   rcases List.mem_cons.mp hx with e | hx
   ·subst e
    exact key_of ok (by rw [←hq.1]; exact hq.2.1)
   ·exact ih x hx
 exact all r x hx
theorem dt_of {kvs:List (List Key × V)} (ok:HOk P w H h) (e:H a=some (.dT kvs)):kvs.length≤sizeLine∧(a == sysModules)=false ∧
  ∃ xs,KT H kvs xs∧h.DictOfH (tupleKind (mixKind P w)) a xs:=dt_rd ok (.inl e)
end
def DGet (H:Hp) (a:Addr) (y:V) (r:Option V):Prop :=
 (∃ kvs k,Rd H a (.dK kvs)∧y=kV k∧r=valV kvs k) ∨ ∃ kvs k b,Rd H a (.dT kvs)∧y=.ref b∧H b=some (.tup (k.map kV))∧r=valV kvs k
def DPut (H:Hp) (a:Addr) (y v:V) (H':Hp):Prop :=
 (∃ kvs k,H a=some (.dK kvs)∧y=kV k∧kvs.length < sizeLine∧H'=upd H a (.dK (putK kvs k v))) ∨
 ∃ kvs k b,H a=some (.dT kvs)∧y=.ref b∧H b=some (.tup (k.map kV))∧kvs.length < sizeLine∧H'=upd H a (.dT (putK kvs k v))
theorem DGet.k {H:Hp} {a:Addr} {kvs:List (Key × V)} {k:Key} (e:H a=some (.dK kvs)):DGet H a (kV k) (valV kvs k):=.inl ⟨kvs,k,.inl e,rfl,rfl⟩
theorem DPut.k {H:Hp} {a:Addr} {kvs:List (Key × V)} {k:Key} {v:V} (e:H a=some (.dK kvs)) (hl:kvs.length < sizeLine):DPut H a (kV k) v (upd H a (.dK (putK kvs k v))):=.inl ⟨kvs,k,e,rfl,hl,rfl⟩
section
variable {X:Cx} {pins:List (Addr × Obj)} {σ:St} {H:Hp} {s:Shared} {a:Addr} {y v:V} {u r:Value} {o:Option V} {A:Around} {E:Value→Shared→Prop}
theorem Inv.big (I:Inv X pins σ H s):sysModules < s.heap.objs.size:=by
 have h:mainGlobals < s.heap.objs.size:=(I.mod.glob.keeps I.bk).lt
 exact Nat.lt_trans (by decide) h
theorem d_write {h':Heap} {t':Nat} {ob:HO} (I:Inv X pins σ H s) (mu:Mut (H a)) (hs:Heap.SameBut a s.heap h') (he:∃ q,h'.get? a=some q) (new:ObjOk X.prog X.w (upd H a ob) h' a ob) :
  Inv X pins σ (upd H a ob) { s with heap:=h',toks:=t' } :=
 I.write (x:=a) (e:=a) mu (.inl rfl) (fun b q hb z=>(hs.2 b hb).trans z) he new
theorem dk_new {P:Program} {w:World} {H':Hp} {h':Heap} {kvs:List (Key × V)} {vs:List (Key × Value)} (z:kvs.length≤sizeLine) (hd:(a == sysModules)=false) (rel:KV kvs vs) (dd:h'.DictOf (mixKind P w) a vs) :
  ObjOk P w H' h' a (.dK kvs):=⟨z,hd,vs,rel,dd⟩
theorem d_setItem {H':Hp} {Q:Unit→Shared→Prop} (hu:A.units+1 < cLine) (I:Inv X pins σ H s) (g:DPut H a y v H') (ry:RelV y u) (rv:RelV v r) (h:∀ s',Inv X pins σ H' s'→Q () s') :
  wpAny (model X.prog X.w) A (setItem (.ref a) u r) Q E s:=by
 rcases g with ⟨kvs,k,e,ey,l,eH⟩ | ⟨kvs,k,b,e,ey,eb,l,eH⟩
 ·subst ey eH
  obtain ⟨z,hd,vs,rel,dd⟩:=dk_of I.hok e
  have hz:vs.length≤sizeLine:=by rw [←rel.length]; exact z
  have hl:(putK kvs k v).length≤sizeLine:=by have:=length_putK kvs k v; omega
  refine wpAny_setItem_pairs (hsz:=hz) (kV_is ry) dd fun h' dd' hs=>h _ ?_
  have he:∃ q,h'.get? a=some q:=let ⟨q,_,_,hq,_⟩:=dd'; ⟨q,hq⟩
  exact d_write I (by rw [e]; exact True.intro) hs he (dk_new hl hd (rel.put k rv) dd')
 ·subst ey eH
  cases (show u=Value.ref b from ry)
  obtain ⟨z,hd,xs,rel,dd⟩:=dt_of I.hok e
  have hz:xs.length≤sizeLine:=by rw [←Paired.length rel]; exact z
  have hl:(putK kvs k v).length≤sizeLine:=by have:=length_putK kvs k v; omega
  refine wpAny_setItem_heap (hsz:=hz) (tupleKind_room_in1 hu) (key_of I.hok eb) dd fun h' dd' hs=>h _ ?_
  obtain ⟨q,es,ep,hq,h2,h3,h4,_,h5⟩:=dd'
  refine d_write I (by rw [e]; exact True.intro) hs ⟨q,hq⟩ ⟨hl,hd,_,(rel.put k eb rv).keeps fun c ys ec=>?_,q,es,ep,hq,h2,h3,h4,h5⟩
  rw [upd_ne (ne_of ec e (fun z=>nomatch z))]
  exact ec
end
section
variable {X:Cx} {pins:List (Addr × Obj)} {σ:St} {H:Hp} {s:Shared} {a:Addr} {kvs:List (Key × V)} {k:Key} {u:Value} {A:Around} {E:Value→Shared→Prop}
theorem d_len {Q:Value→Shared→Prop} (I:Inv X pins σ H s) (e:Rd H a (.dK kvs)) (h:∀ t s',Inv X pins σ H s'→Q (.int kvs.length t) s'):wpAny (model X.prog X.w) A (call (.builtin "len") [.ref a]) Q E s:=by
 obtain ⟨z,hd,vs,rel,dd⟩:=dk_rd I.hok e
 refine call_len_dict hd dd (by rw [←rel.length]; rw [sizeLine_eq] at z; omega) ?_
 rw [←rel.length]
 exact h _ _ (I.tok _)
end
def sDPut (td ty tv:TE):TS:=fun D σ H=>tv σ H fun v H1=>td σ H1 fun x H2=>ty σ H2 fun y H3=>∃ a H4,x=.ref a∧DPut H3 a y v H4∧D.nx σ H4
section
variable {X:Cx} {o i e value:Expr} {pos pos' tpos:Pos} {td ty tv:TE}
theorem ps_dput (hu:X.A.units+1 < cLine) (ho:PE X o td) (hi:PE X i ty) (hv:PE X value tv) (hs:swapsWith value (some (.Subscript o i pos')) pos.line X.env=pure false) :
  PS X (.Assign [.Subscript o i pos'] value pos) (sDPut td ty tv):=by
 intro pins s σ H D I h
 refine wpAny_Assign_Subscript (thn (hv pins s σ H _ I h) fun r s1 ⟨v,H1,I1,rv,q1⟩=>thn (ho pins s1 σ H1 _ I1 q1) fun u s2 ⟨x,H2,I2,rx,q2⟩=>thn (hi pins s2 σ H2 _ I2 q2) fun iv s3 ⟨y,H3,I3,ry,a,H4,ex,g,q3⟩=>?_) hs
 subst ex
 obtain rfl:u=Value.ref a:=rx
 exact d_setItem hu I3 g ry rv fun s4 I4=>⟨σ,H4,I4,q3⟩
end
theorem dk_empty {P:Program} {w:World} {H:Hp} (h:Heap) (hb:sysModules < h.objs.size):ObjOk P w H (h.push { cls:=.type "dict",data:=.dict #[] }) h.objs.size (.dK []) :=
 ⟨Nat.zero_le _,beq_eq_false_iff_ne.mpr (Ne.symm (Nat.ne_of_lt hb)),[],.nil,Heap.DictOf.new h⟩
def tDNewK:TE:=fun _ H Q=>∀ p,H p=none→Q (.ref p) (upd H p (.dK []))
section
variable {X:Cx} {pos:Pos}
theorem pe_dnewK:PE X (.Dict [] [] pos) tDNewK:=fun pins s σ H Q I h =>
 wpAny_Dict_empty ⟨.ref s.heap.objs.size,_,I.laid (a:=s.heap.objs.size) (o:=.dK []) (t':=s.toks) (fun _ _ q=>Heap.get?_push_of_some _ q) (Nat.le_refl _) (dk_empty s.heap I.big),rfl,h _ (I.hok.fresh (Nat.le_refl _))⟩
end
structure M2 (X:Cx) (o:Expr) (m:Str) (apos:Pos) (e f:Expr) (cpos:Pos):Prop where
 base:attributeBase o m X.env (eval o X.env)=eval o X.env
 few:((backTo cpos (starEach [e,f] X.env)).all (fun x=>!x.1) && (backToKw cpos (keywordEach [] X.env)).all (fun x=>x.1.isSome)
  && decide (([e,f]:List Expr).length+([]:List Keyword).length+(if ([]:List Keyword).isEmpty then 0 else 1) < 30))=true
 line:(apos.endLine == cpos.line)=true
 trees:backTo cpos (starEach [e,f] X.env)=[(false,eval e X.env),(false,eval f X.env)]
def IsD (H:Hp) (a:Addr):Prop:=(∃ kvs,Rd H a (.dK kvs)) ∨ ∃ kvs,Rd H a (.dT kvs)
theorem isD_at {X:Cx} {pins:List (Addr × Obj)} {σ:St} {H:Hp} {s:Shared} {a:Addr} (I:Inv X pins σ H s) (d:IsD H a) :
  s.TypeIs (.ref a) "dict"∧(∀ b,Value.ref a=.ref b→∃ ob,s.heap.get? b=some ob∧ob.dict=none)∧(a == sysModules)=false:=by
 rcases d with ⟨kvs,e⟩ | ⟨kvs,e⟩
 ·obtain ⟨_,hd,vs,_,dd⟩:=dk_rd I.hok e
  refine ⟨dd.typeIs,fun b q=>?_,hd⟩
  cases q
  obtain ⟨ob,_,_,h1,h2,_⟩:=dd
  exact ⟨ob,h1,h2.2.1⟩
 ·obtain ⟨_,hd,xs,_,dd⟩:=dt_rd I.hok e
  refine ⟨dd.typeIs,fun b q=>?_,hd⟩
  cases q
  obtain ⟨ob,_,_,h1,h2,_⟩:=dd
  exact ⟨ob,h1,h2.2.1⟩
section
variable {X:Cx} {pins:List (Addr × Obj)} {σ:St} {H:Hp} {s:Shared} {a:Addr} {y d:V} {u r:Value} {o:Option V} {A:Around} {E:Value→Shared→Prop}
theorem d_get2 {Q:Value→Shared→Prop} (hu:A.units+1 < cLine) (I:Inv X pins σ H s) (g:DGet H a y o) (ry:RelV y u) (rd:RelV d r) (h:∀ w' s',Inv X pins σ H s'→RelV (o.getD d) w'→Q w' s') :
  wpAny (model X.prog X.w) A (call (.builtin "dict.get") [.ref a,u,r]) Q E s:=by
 rcases g with ⟨kvs,k,e,ey,l⟩ | ⟨kvs,k,b,e,ey,eb,l⟩
 ·subst ey
  obtain ⟨z,hd,vs,rel,dd⟩:=dk_rd I.hok e
  refine call_meetsIn PySem.F.slot_dict_get dd.typeIs PySem.F.entry_dict_get (PySem.F.args_dict_get_3 _ _ _) (meets_dict_get_default (mixKind X.prog X.w) a (kV_is ry) hd r) ⟨_,dd.mapOf,h _ _ (I.tok _) ?_⟩
  rw [l]
  exact (rel.val k).getD rd
 ·subst ey
  cases (show u=Value.ref b from ry)
  obtain ⟨z,hd,xs,rel,dd⟩:=dt_rd I.hok e
  refine call_meetsIn PySem.F.slot_dict_get dd.typeIs PySem.F.entry_dict_get (PySem.F.args_dict_get_3 _ _ _) (meetsH_dict_get_default (tupleKind (mixKind X.prog X.w)) a b hd r) ⟨tupleKind_room_in1 hu,k,xs,key_of I.hok eb,dd,h _ _ (I.tok _) ?_⟩
  rw [l]
  exact (rel.val k).getD rd
end
def tDGet2 (td ty tx:TE):TE:=fun σ H Q=>td σ H fun x H1=>∃ a,x=.ref a∧IsD H1 a∧ty σ H1 fun y H2=>tx σ H2 fun z H3=>∃ o,DGet H3 a y o∧Q (o.getD z) H3
section
variable {X:Cx} {o e f:Expr} {apos cpos:Pos} {td ty tx:TE}
theorem pe_dget2 (hu:X.A.units+1 < cLine) (ho:PE X o td) (he:PE X e ty) (hf:PE X f tx) (m:M2 X o "get" apos e f cpos):PE X (.Call (.Attribute o "get" apos) [e,f] [] cpos) (tDGet2 td ty tx):=by
 intro pins s σ H Q I h
 refine wpAny_Call_method m.base m.few m.line PySem.F.plainAttrs_dict PySem.F.slot_dict_get PySem.F.type_dict_get (thn (ho pins s σ H _ I h) fun u s1 ⟨x,H1,I1,rx,a,ex,d,q1⟩=>?_)
 subst ex
 obtain rfl:u=Value.ref a:=rx
 obtain ⟨t1,t2,_⟩:=isD_at I1 d
 refine ⟨t1,t2,?_⟩
 rw [m.trees]
 refine Calls.callWith_builtin rfl (Calls.evalArgs_plain (Calls.spliced_cons (thn (he pins s1 σ H1 _ I1 q1) fun iv s2 ⟨y,H2,I2,ry,q2⟩ =>
  Calls.spliced_cons (thn (hf pins s2 σ H2 _ I2 q2) fun fv s3 ⟨z,H3,I3,rz,ov,g,q3⟩=>Calls.spliced_nil ?_))))
 exact d_get2 hu I3 g ry rz fun w' s4 I4 rw'=>⟨_,H3,I4,rw',q3⟩
end
section
variable {X:Cx} {pins:List (Addr × Obj)} {σ:St} {H:Hp} {s:Shared} {a:Addr} {kvs:List (Key × V)} {A:Around} {E:Value→Shared→Prop}
end
section
variable {X:Cx} {pins:List (Addr × Obj)} {σ:St} {H:Hp} {s:Shared} {a:Addr} {y:V} {u:Value} {A:Around} {E:Value→Shared→Prop}
end
end L2
namespace L2
open PySem PySem.Spec PyProof.Rows
section
variable {X:Cx}
end
end L2
namespace L2
open PySem PySem.Spec PyProof.Rows
section
variable {κ:Type} [DecidableEq κ]
end
end L2
namespace L2
open PySem PySem.Spec PyProof.Rows
abbrev Mark:=Int × Int × List Int
section
variable {prog:Program} {w:World}
def IsMark (prog:Program) (w:World) (h:Heap) (k:Mark) (a:Addr):Prop :=
 ∃ o n b t u,h.get? a=some o∧o.cls=.type "tuple"∧o.data=.seq #[.int k.1 t,.int k.2.1 u,.ref b] n∧IsTupleKey (intKind prog w) h k.2.2 b
theorem IsMark.ty {s:Shared} {k:Mark} {a:Addr} (m:IsMark prog w s.heap k a):s.TypeIs (.ref a) "tuple":=by
 obtain ⟨o,_,_,_,_,e,c,_⟩:=m
 exact ⟨o,e,c⟩
theorem IsMark.one {h:Heap} {a:Addr} {x y:Mark} (mx:IsMark prog w h x a) (my:IsMark prog w h y a):x=y:=by
 obtain ⟨o,n,b,t,u,e,_,d,i⟩:=mx
 obtain ⟨o',n',b',t',u',e',_,d',i'⟩:=my
 rw [e] at e'
 cases e'
 rw [d] at d'
 injection d' with z _
 have z':[Value.int x.1 t,.int x.2.1 u,.ref b]=[Value.int y.1 t',.int y.2.1 u',.ref b']:=by simpa using congrArg Array.toList z
 injection z' with z1 z'
 injection z' with z2 z'
 injection z' with z3 _
 injection z1 with z1 _
 injection z2 with z2 _
 injection z3 with z3
 subst z3
 exact Prod.ext z1 (Prod.ext z2 (i.inj i'))
theorem IsMark.stay {h h':Heap} {k:Mark} {a d:Addr} {o:Obj} {es:Array DictEntry} {ep:Nat} (m:IsMark prog w h k a) (ho:h.get? d=some o) (hd:o.data=.dict es ep) (sb:Heap.SameBut d h h'):IsMark prog w h' k a:=by
 obtain ⟨q,n,b,t,u,e,c,dd,i⟩:=m
 have ne:a≠d:=fun z=>by
  subst z
  rw [e] at ho
  cases ho
  rw [dd] at hd
  cases hd
 exact ⟨q,n,b,t,u,(sb.2 a ne).trans e,c,dd,i.keeps ho hd sb⟩
def markHash (prog:Program) (w:World) (k:Mark):Int:=reduceHash (Builtin.Tuple.tupleHashOf [hashInt k.1,hashInt k.2.1,tupleKeyHash (intKind prog w) k.2.2])
variable {A:Around} {E:Value→Shared→Prop} {s:Shared}
theorem mark_hash {k:Mark} {a:Addr} {Q:Int→Shared→Prop} (hu:A.units+8 < cLine) (m:IsMark prog w s.heap k a) (h:Q (markHash prog w k) { s with toks:=s.toks+(k.2.2.length+4) }):wpAny (model prog w) A (pyHash (.ref a)) Q E s:=by
 have T:=m.ty
 obtain ⟨o,n,b,t,u,e,_,d,i⟩:=m
 unfold pyHash
 first
  | unfold pyHashByItsType
  | skip
 first
  | refine wpAny_bind (wpAny_cRoomFor_or (.inr (by omega)) ?_)
  | skip
 refine wpAny_bind (wpAny_specialOf T PySem.F.slot_tuple_hash.lookup ?_)
 show wpAny _ _ (if (some (Value.builtin "tuple.__hash__") == some Value.none)=true then _ else _) Q E s
 rw [if_neg (by rw [beq_builtin_none]; decide)]
 refine wpAny_bind (wpAny_specialOf T PySem.F.slot_tuple_hash.lookup ?_)
 show wpAny _ _ (callSpecialIfBoundUnlessNone? (.ref a) "__hash__" _ >>= _) Q E s
 refine wpAny_bind (wpAny_callSpecialIfBoundUnlessNone?_slot T PySem.F.slot_tuple_hash (wpAny_call_entry PySem.F.slot_tuple_hash T PySem.F.entry_tuple_hash ?_ (PySem.F.args_tuple_hash_1 _)))
 show wpAny _ _ (Builtin.Tuple.tupleItemsOf (.ref a) >>= _) _ _ s
 refine wpAny_bind (wpAny_tupleItemsOf e d ?_)
 refine wpAny_bind ?_
 rw [←Array.forIn_toList]
 show wpAny _ _ (forIn [Value.int k.1 t,Value.int k.2.1 u,Value.ref b] _ _) _ _ s
 rw [List.forIn_cons]
 refine wpAny_bind (wpAny_bind (wpAny_pyHash_int (wpAny_pure ?_)))
 show wpAny _ _ (forIn [Value.int k.2.1 u,Value.ref b] _ _) _ _ _
 rw [List.forIn_cons]
 refine wpAny_bind (wpAny_bind (wpAny_pyHash_int (wpAny_pure ?_)))
 show wpAny _ _ (forIn [Value.ref b] _ _) _ _ _
 rw [List.forIn_cons]
 refine wpAny_bind (wpAny_bind (wpAny_pyHash_tuple (knd:=intKind prog w) (s:={ s with toks:=s.toks+1+1 }) (by show A.units+1 < cLine; omega) i (wpAny_pure ?_)))
 show wpAny _ _ (forIn ([]:List Value) _ _) _ _ _
 rw [List.forIn_nil]
 refine wpAny_pure ?_
 show wpAny _ _ (retInt (Builtin.Tuple.tupleHashOf [hashInt k.1,hashInt k.2.1,tupleKeyHash (intKind prog w) k.2.2])) _ _ _
 refine wpAny_ret_mkInt ?_
 unfold markHash reduceHash at h
 generalize Builtin.Tuple.tupleHashOf [hashInt k.1,hashInt k.2.1,tupleKeyHash (intKind prog w) k.2.2]=z at h ⊢
 have et:s.toks+1+1+(k.2.2.length+1)+1=s.toks+(k.2.2.length+4):=by omega
 rw [←et] at h
 show wpAny _ _ (if (decide (-(2:Int) ^ 63≤z) && decide (z < 2 ^ 63))=true then _ else _) Q E { s with toks:=s.toks+1+1+(k.2.2.length+1)+1 }
 cases hr:(decide (-(2:Int) ^ 63≤z) && decide (z < 2 ^ 63)) with
 | true =>
  rw [hr,if_pos rfl] at h
  rw [if_pos rfl]
  exact wpAny_pure h
 | false =>
  rw [hr,if_neg (by decide)] at h
  rw [if_neg (by decide)]
  exact wpAny_bind (wpAny_rule (wpAny_pure h))
theorem mark_eqT {x y:Mark} {a b:Addr} {R:Fin→Shared→Prop} (hu:A.units+4 < cLine) (mx:IsMark prog w s.heap x a) (my:IsMark prog w s.heap y b) (h:R (.done (.ret (.bool (decide (x=y))))) s) :
  wpAny (model prog w) A (Builtin.«tuple.__eq__» ⟨[.ref a,.ref b],[]⟩) R E s:=by
 have Tb:=my.ty
 obtain ⟨o,n,c,t,u,e,_,d,i⟩:=mx
 obtain ⟨o',n',c',t',u',e',_,d',i'⟩:=my
 show wpAny _ _ (isInstance (.ref b) (.type "tuple") >>= _) _ _ s
 refine wpAny_bind (wpAny_isInstance Tb isSubtype_tuple_tuple ?_)
 simp only [Bool.not_true,Bool.false_eq_true,if_false]
 refine wpAny_bind (wpAny_tupleItemsOf e d ?_)
 refine wpAny_bind (wpAny_tupleItemsOf e' d' ?_)
 refine wpAny_bind ?_
 show wpAny _ _ (forIn [(Value.int x.1 t,Value.int y.1 t'),(Value.int x.2.1 u,Value.int y.2.1 u'),(Value.ref c,Value.ref c')] _ _) _ _ s
 rw [List.forIn_cons]
 refine wpAny_bind (wpAny_bind (wpAny_eqBool_int ?_))
 by_cases z1:x.1=y.1
 ·rw [(by simpa using z1:(x.1 == y.1)=true)]
  simp only [Bool.not_true,Bool.false_eq_true,if_false]
  refine wpAny_pure ?_
  show wpAny _ _ (forIn [(Value.int x.2.1 u,Value.int y.2.1 u'),(Value.ref c,Value.ref c')] _ _) _ _ _
  rw [List.forIn_cons]
  refine wpAny_bind (wpAny_bind (wpAny_eqBool_int ?_))
  by_cases z2:x.2.1=y.2.1
  ·rw [(by simpa using z2:(x.2.1 == y.2.1)=true)]
   simp only [Bool.not_true,Bool.false_eq_true,if_false]
   refine wpAny_pure ?_
   show wpAny _ _ (forIn [(Value.ref c,Value.ref c')] _ _) _ _ _
   rw [List.forIn_cons]
   refine wpAny_bind (wpAny_bind (wpAny_eqBool_tuple (knd:=intKind prog w) (by omega) i i' ?_))
   by_cases z3:x.2.2=y.2.2
   ·rw [decide_eq_true z3]
    simp only [Bool.not_true,Bool.false_eq_true,if_false]
    refine wpAny_pure ?_
    show wpAny _ _ (forIn ([]:List (Value × Value)) _ _) _ _ _
    rw [List.forIn_nil]
    refine wpAny_pure ?_
    have hf:decide (x=y)=true:=decide_eq_true (Prod.ext z1 (Prod.ext z2 z3))
    rw [hf] at h
    exact wpAny_pure h
   ·rw [decide_eq_false z3]
    simp only [Bool.not_false,if_true]
    have hf:decide (x=y)=false:=decide_eq_false fun q=>z3 (by rw [q])
    rw [hf] at h
    exact wpAny_bind (wpAny_pure (wpAny_pure (wpAny_pure (wpAny_pure h))))
  ·rw [(by simpa using z2:(x.2.1 == y.2.1)=false)]
   simp only [Bool.not_false,if_true]
   have hf:decide (x=y)=false:=decide_eq_false fun q=>z2 (by rw [q])
   rw [hf] at h
   exact wpAny_bind (wpAny_pure (wpAny_pure (wpAny_pure (wpAny_pure h))))
 ·rw [(by simpa using z1:(x.1 == y.1)=false)]
  simp only [Bool.not_false,if_true]
  have hf:decide (x=y)=false:=decide_eq_false fun q=>z1 (by rw [q])
  rw [hf] at h
  exact wpAny_bind (wpAny_pure (wpAny_pure (wpAny_pure (wpAny_pure h))))
theorem mark_eq {x y:Mark} {a b:Addr} {Q:Bool→Shared→Prop} (hu:A.units+8 < cLine) (mx:IsMark prog w s.heap x a) (my:IsMark prog w s.heap y b) (h:Q (decide (x=y)) s) :
  wpAny (model prog w) A (eqBool (.ref a) (.ref b)) Q E s:=by
 unfold eqBool
 try with_reducible refine wpAny_holding ?_
 show wpAny _ _ (if (Value.ref a == Value.ref b)=true then _ else _) Q E s
 cases hab:(Value.ref a == Value.ref b) with
 | true =>
  rw [if_pos rfl]
  have e:a=b:=by
   have:=eq_of_beq hab
   injection this
  subst e
  have:=mx.one my
  subst this
  rw [decide_eq_true rfl] at h
  exact wpAny_bind (wpAny_rule (wpAny_pure h))
 | false =>
  rw [if_neg (by decide)]
  exact wpAny_bind (wpAny_richCompare_same_room (op:=.Eq) mx.ty my.ty PySem.F.slot_tuple_eq
   (wpAny_call_entry PySem.F.slot_tuple_eq mx.ty PySem.F.entry_tuple_eq (mark_eqT (by show A.units+1+4 < cLine; omega) mx my ⟨_,rfl,(fun e=>nomatch e),wpAny_truthy_bool h⟩) (PySem.F.args_tuple_eq_2 _ _)) (by omega))
theorem quiet_flat {ks:List Int} {a:Addr} {m:Nat} {Q:Bool→Shared→Prop} (hk:IsTupleKey (intKind prog w) s.heap ks a) (h:Q true s):wpAny (model prog w) A (eqIsQuiet (m+1) (.ref a)) Q E s:=by
 have T:=hk.typeIs
 obtain ⟨o,items,n,ho,_,hd,hi⟩:=hk
 unfold eqIsQuiet
 refine wpAny_bind (wpAny_specialOf T PySem.F.slot_tuple_eq.lookup ?_)
 show wpAny _ _ (isInstance (.ref a) (.type "tuple") >>= _) _ _ s
 refine wpAny_bind (wpAny_isInstance T isSubtype_tuple_tuple ?_)
 simp only [Bool.not_true,Bool.false_eq_true,if_false]
 refine wpAny_bind (wpAny_seqItems ho hd (wpAny_bind ?_))
 show wpAny _ _ (forIn items _ _) _ _ s
 rw [←Array.forIn_toList]
 refine wpAny_forIn_list _ (fun left r s1=>(r.1=none∧s1=s)∧∀ v ∈ left,carriedByValue v=true) _ ?_ ?_ _ _ ⟨⟨rfl,rfl⟩,hi.byValue⟩
 ·rintro v left r s1 ⟨⟨hr,rfl⟩,al⟩
  rw [eqIsQuiet_byValue _ (al v List.mem_cons_self)]
  refine wpAny_bind (wpAny_pure ?_)
  simp only [Bool.not_true,Bool.false_eq_true,if_false]
  exact wpAny_pure ⟨⟨rfl,rfl⟩,fun q hq=>al q (List.mem_cons_of_mem _ hq)⟩
 ·rintro ⟨r1,r2⟩ s1 ⟨⟨hr,rfl⟩,_⟩
  have hr':r1=none:=hr
  subst hr'
  exact wpAny_pure h
theorem mark_quiet {k:Mark} {a:Addr} {Q:Bool→Shared→Prop} (m:IsMark prog w s.heap k a) (h:Q true s):wpAny (model prog w) A (eqIsQuiet 8 (.ref a)) Q E s:=by
 have T:=m.ty
 obtain ⟨o,n,b,t,u,e,_,d,i⟩:=m
 unfold eqIsQuiet
 refine wpAny_bind (wpAny_specialOf T PySem.F.slot_tuple_eq.lookup ?_)
 show wpAny _ _ (isInstance (.ref a) (.type "tuple") >>= _) _ _ s
 refine wpAny_bind (wpAny_isInstance T isSubtype_tuple_tuple ?_)
 simp only [Bool.not_true,Bool.false_eq_true,if_false]
 refine wpAny_bind (wpAny_seqItems e d (wpAny_bind ?_))
 rw [←Array.forIn_toList]
 show wpAny _ _ (forIn [Value.int k.1 t,Value.int k.2.1 u,Value.ref b] _ _) _ _ s
 rw [List.forIn_cons,eqIsQuiet_byValue _ (show carriedByValue (Value.int k.1 t)=true from rfl)]
 refine wpAny_bind (wpAny_bind (wpAny_pure ?_))
 simp only [Bool.not_true,Bool.false_eq_true,if_false]
 refine wpAny_pure ?_
 show wpAny _ _ (forIn [Value.int k.2.1 u,Value.ref b] _ _) _ _ _
 rw [List.forIn_cons,eqIsQuiet_byValue _ (show carriedByValue (Value.int k.2.1 u)=true from rfl)]
 refine wpAny_bind (wpAny_bind (wpAny_pure ?_))
 simp only [Bool.not_true,Bool.false_eq_true,if_false]
 refine wpAny_pure ?_
 show wpAny _ _ (forIn [Value.ref b] _ _) _ _ _
 rw [List.forIn_cons]
 refine wpAny_bind (wpAny_bind (quiet_flat (m:=6) i ?_))
 simp only [Bool.not_true,Bool.false_eq_true,if_false]
 refine wpAny_pure ?_
 show wpAny _ _ (forIn ([]:List Value) _ _) _ _ _
 rw [List.forIn_nil]
 exact wpAny_pure (wpAny_pure h)
def markKind (prog:Program) (w:World):HeapKind prog w Mark where
 is:=IsMark prog w
 hash:=markHash prog w
 draws k:=k.2.2.length+4
 room A:=A.units+8 < cLine
 inj:=IsMark.one
 keeps:=IsMark.stay
 pyHash:=mark_hash
 eqBool:=mark_eq
 quiet:=mark_quiet
end
end L2
namespace L2
open PySem PySem.Spec PyProof.Rows
section
variable {prog:Program} {w:World} {K:Type} [DecidableEq K] {A:Around} {E:Value→Shared→Prop} {s:Shared}
theorem hk_setd {knd:HeapKind prog w K} {d a:Addr} {xs:List (K × Addr × Value)} {k:K} {x:Value} {Q:Value→Shared→Prop} (hu:knd.room A) (hk:knd.is s.heap k a)
  (hm:s.heap.DictOfH knd d xs) (hz:xs.length≤sizeLine)
  (old:∀ p,atKey xs k=some p→Q p.2 { s with toks:=s.toks+knd.draws k })
  (new:atKey xs k=none→∀ h',h'.DictOfH knd d (xs++[(k,a,x)])→Heap.SameBut d s.heap h'→Q x { s with heap:=h',toks:=s.toks+knd.draws k }) :
  wpAny (model prog w) A (dictSetDefault d (.ref a) x) Q E s:=by
 obtain ⟨o,es,ep,g1,g2,g3,g4,g5,g6⟩:=hm
 unfold dictSetDefault
 with_reducible refine wpAny_holding ?_
 refine wpAny_bind (knd.pyHash hu hk (wpAny_bind (wpAny_dictFind_heap (s:={ s with toks:=s.toks+knd.draws k }) hu hk g1 g3 g4 g5 g6 (fun no=>?_) (fun j p hj=>?_))))
 ·have e0:=atKey_none_of_get no
  have nm:=not_mem_keys_of_get no
  have e1:es.size≤sizeLine:=by rw [size_of_entries g4]; exact hz
  refine wpAny_bind (wpAny_rule (wpAny_bind (wpAny_updateDictKeys (hz:=e1) (s:={ s with toks:=s.toks+knd.draws k }) g1 g3 (wpAny_pure (new e0 _ ⟨_,_,ep+1,Heap.get?_update_self _ g1 (Obj.isFreed_of_dict (Obj.data_mapDictKeys g3 _)),g2.mapDictKeys _,Obj.data_mapDictKeys g3 _,?_,?_,?_⟩ (Heap.SameBut.update ..))))))
  ·simp [g4,entryOfKey]
  ·intro y hy
   rcases List.mem_append.mp hy with q | q
   ·exact knd.keeps (g5 y q) g1 g3 (Heap.SameBut.update ..)
   ·cases List.mem_singleton.mp q
    exact knd.keeps hk g1 g3 (Heap.SameBut.update ..)
  ·rw [List.map_append,List.nodup_append]
   refine ⟨g6,by simp,fun y hy z hz' q=>?_⟩
   simp only [List.map_cons,List.map_nil,List.mem_singleton] at hz'
   subst hz'
   exact nm (q ▸ hy)
 ·refine wpAny_bind (wpAny_dictEntries (s:={ s with toks:=s.toks+knd.draws k }) g1 g3 ?_)
  rw [entry_at g4 j,hj]
  exact wpAny_bind (wpAny_rule (wpAny_pure (old p (atKey_of_get g6 hj))))
theorem kk_setd {knd:KeyKind prog w K} {d:Addr} {ps:List (K × Value)} {k:K} {key x:Value} {Q:Value→Shared→Prop} (hk:knd.is k key=true)
  (hm:s.heap.DictOf knd d ps) (hz:ps.length≤sizeLine)
  (old:∀ v,valueAt ps k=some v→Q v { s with toks:=s.toks+1 })
  (new:valueAt ps k=none→∀ h',h'.DictOf knd d (ps++[(k,x)])→Heap.SameBut d s.heap h'→Q x { s with heap:=h',toks:=s.toks+1 }) :
  wpAny (model prog w) A (dictSetDefault d key x) Q E s:=by
 obtain ⟨o,es,ep,g1,g2,g3,g4,g5,g6⟩:=hm
 unfold dictSetDefault
 with_reducible refine wpAny_holding ?_
 refine wpAny_bind (knd.pyHash hk (wpAny_bind (wpAny_dictFind_of (s:={ s with toks:=s.toks+1 }) hk g1 g3 g4 ?_)))
 have ix:(es.findIdx? fun e=>knd.is k e.key)=ps.findIdx? fun p=>decide (p.1=k):=by
  rw [←g5.findIdx k]
  obtain ⟨l⟩:=es
  simp
 cases hi:es.findIdx? fun e=>knd.is k e.key with
 | some i =>
  obtain ⟨e,q1,_,q3⟩:=g5.at (i:=i) (k:=k) (by rw [←hi]; obtain ⟨l⟩:=es; simp)
  refine wpAny_bind (wpAny_dictEntries (s:={ s with toks:=s.toks+1 }) g1 g3 ?_)
  rw [show es[i]? = some e by rw [←q1]; simp]
  exact wpAny_bind (wpAny_rule (wpAny_pure (old _ q3)))
 | none =>
  have nm:k ∉ ps.map (·.1):=not_mem_of_findIdx_none (ix ▸ hi)
  have e0:valueAt ps k=none:=by
   unfold valueAt
   rw [List.find?_eq_none.mpr (fun p hp q=>nm (List.mem_map.mpr ⟨p,hp,of_decide_eq_true q⟩))]
   rfl
  have e1:es.size≤sizeLine:=by
   have q:=g5.length
   rw [Array.length_toList] at q
   rw [q]
   exact hz
  refine wpAny_bind (wpAny_rule (wpAny_bind (wpAny_updateDictKeys (hz:=e1) (s:={ s with toks:=s.toks+1 }) g1 g3 (wpAny_pure (new e0 _ ⟨_,_,ep+1,Heap.get?_update_self _ g1 (Obj.isFreed_of_dict (Obj.data_mapDictKeys g3 _)),g2.mapDictKeys _,Obj.data_mapDictKeys g3 _,g4.push hk _,?_,?_⟩ (Heap.SameBut.update ..))))))
  ·have q:=g5.append hk (knd.hash k) x
   obtain ⟨l⟩:=es
   simpa using q
  ·rw [List.map_append,List.nodup_append]
   refine ⟨g6,by simp,fun y hy z hz' q=>?_⟩
   simp only [List.map_cons,List.map_nil,List.mem_singleton] at hz'
   subst hz'
   exact nm (q ▸ hy)
theorem call_setd {d:Addr} {key x:Value} {Q:Value→Shared→Prop} (T:s.TypeIs (.ref d) "dict") (hd:(d == sysModules)=false)
  (h:wpAny (model prog w) A.in1 (dictSetDefault d key x) Q (fun e s'=>E e s') s):wpAny (model prog w) A (call (.builtin "dict.setdefault") [.ref d,key,x]) Q E s:=by
 refine wpAny_call_entry F.slot_dict_setdefault T F.entry_dict_setdefault ?_ (F.args_dict_setdefault_3 _ _ _)
 unfold Builtin.«dict.setdefault»
 refine wpAny_bind ?_
 unfold Builtin.Dict.keyAndDefault
 refine wpAny_bind (wpAny_notOrdered_dict T ?_)
 show wpAny _ _ (pure (d,key,some x)) _ _ s
 refine wpAny_pure ?_
 show wpAny _ _ (if (d == sysModules)=true then _ else (dictSetDefault d key x >>= _)) _ _ s
 rw [if_neg (by rw [hd]; exact Bool.false_ne_true)]
 refine wpAny_bind (wpAny_mono h (fun v s' q=>?_) (fun _ _ q=>q))
 exact wpAny_pure ⟨_,rfl,q⟩
end
end L2
namespace L2
open PySem PySem.Spec PyProof.Rows
section
variable {prog:Program} {w:World} {K:Type} [DecidableEq K] {A:Around} {E:Value→Shared→Prop} {s:Shared}
theorem hk_len {knd:HeapKind prog w K} {d:Addr} {xs:List (K × Addr × Value)} {Q:Value→Shared→Prop} (hd:(d == sysModules)=false) (hm:s.heap.DictOfH knd d xs) (hf:xs.length≤sizeLine)
  (h:∀ t t',Q (.int xs.length t) { s with toks:=t' }):wpAny (model prog w) A (call (.builtin "len") [.ref d]) Q E s:=by
 have T:=hm.typeIs
 rw [sizeLine_eq] at hf
 refine Calls.call_function_entry kind_len plain_len entry_len (args_len1 _) ?_
 unfold Builtin.«len»
 refine wpAny_bind (m:=oneArg "len" _) (wpAny_pure ?_)
 refine wpAny_bind (m:=callSpecial? (.ref d) (Str.ofString "__len__")) (wpAny_callSpecial?_slot (name:=Str.ofString "__len__") T F.slot_dict_len (wpAny_call_entry F.slot_dict_len T F.entry_dict_len ?_ (F.args_dict_len_1 _)))
 obtain ⟨o,es,ep,g1,_,g3,g4,_,_⟩:=hm
 show wpAny _ _ (dictSize d >>= _) _ _ s
 unfold dictSize
 refine wpAny_bind (wpAny_bind (wpAny_dictEntries g1 g3 (wpAny_pure ?_)))
 show wpAny _ _ (Builtin.Dict.pendingCount d >>= _) _ _ s
 refine wpAny_bind (wpAny_pendingCount_other hd (wpAny_ret_mkInt ?_))
 rw [size_of_entries g4]
 show wpAny _ _ _ _ _ { s with toks:=s.toks+1 }
 refine wpAny_bind (wpAny_holding (wpAny_pure ?_))
 refine wpAny_bind (wpAny_letGo ?_)
 show wpAny _ _ (if ((xs.length:Nat):Int) < 0 then _ else _) _ _ _
 rw [if_neg (by omega)]
 show wpAny _ _ (if ((xs.length:Nat):Int) ≥ 2 ^ 63 then _ else _) _ _ _
 rw [if_neg (by omega)]
 exact wpAny_bind (wpAny_mkInt (wpAny_pure ⟨_,rfl,h _ _⟩))
end
section
variable {P:Program} {w:World} {H:Hp} {h:Heap} {a:Addr}
theorem ints_are:∀ {ns:List Int} {us:List Value},Vals (ns.map V.int) us→ItemsAre (intKind P w) ns us
 | [],_,.nil=>.nil
 | n :: ns,_,.cons r t=>by
  obtain ⟨t',rfl⟩:=(show ∃ t,_=Value.int n t from r)
  exact .cons (intKind_is P w n t') (ints_are t)
theorem mark_of {b:Addr} {k:Mark} (ok:HOk P w H h) (e:H a=some (.tup [.int k.1,.int k.2.1,.ref b])) (eb:H b=some (.tup (k.2.2.map V.int))):IsMark P w h k a:=by
 obtain ⟨_,its,r,o,q1,q2,n,q3⟩:=(show ObjOk P w H h a _ from ok a _ e)
 obtain ⟨_,its2,r2,o2,p1,p2,n2,p3⟩:=(show ObjOk P w H h b _ from ok b _ eb)
 cases r with
 | cons r1 r =>
  cases r with
  | cons r2' r =>
   cases r with
   | cons r3 r =>
    cases r
    obtain ⟨t,rfl⟩:=(show ∃ t,_=Value.int k.1 t from r1)
    obtain ⟨u,rfl⟩:=(show ∃ t,_=Value.int k.2.1 t from r2')
    cases (show _=Value.ref b from r3)
    exact ⟨o,n,b,t,u,q1,q2,q3,o2,_,n2,p1,p2,p3,ints_are r2⟩
abbrev MRel:List (Mark × Addr × V)→List (Mark × Addr × Value)→Prop:=Paired fun p q=>p.1=q.1∧p.2.1=q.2.1∧RelV p.2.2 q.2.2
def MkAt (P:Program) (w:World) (a:Addr) (xs:List (Mark × Addr × V)) (h:Heap):Prop :=
 xs.length≤sizeLine∧(a == sysModules)=false∧∃ ys,MRel xs ys∧∃ o es ep,h.get? a=some o∧o.ExactDict∧o.data=.dict es ep∧es.toList=ys.map (entryOfKey (markKind P w))∧(ys.map (·.1)).Nodup
def MkO (P:Program) (w:World) (a:Addr) (xs:List (Mark × Addr × V)):HO:=.ext (MkAt P w a xs)
def MkKey (H:Hp) (x:Mark × Addr):Prop:=∃ b,H x.2=some (.tup [.int x.1.1,.int x.1.2.1,.ref b])∧H b=some (.tup (x.1.2.2.map V.int))
theorem mk_ok {xs:List (Mark × Addr × V)} (q:MkAt P w a xs h):ObjOk P w H h a (MkO P w a xs):=by
 obtain ⟨z,d,ys,r,o,es,ep,g1,g2⟩:=q
 refine ⟨⟨z,d,ys,r,o,es,ep,g1,g2⟩,⟨o,g1⟩,fun h1 h2 q k=>?_⟩
 obtain ⟨z,d,ys,r,o,es,ep,g1,g2⟩:=q
 exact ⟨z,d,ys,r,o,es,ep,k _ g1,g2⟩
theorem MRel.at {k:Mark} {xs:List (Mark × Addr × V)} {ys:List (Mark × Addr × Value)} (r:MRel xs ys):RelO ((xs.find? fun x=>decide (x.1=k)).map (·.2.2)) ((atKey ys k).map (·.2)):=by
 induction r with
 | nil=>exact True.intro
 | @cons p q ps qs g t ih =>
  obtain ⟨g1,_,g3⟩:=g
  by_cases e:p.1=k
  ·have e':q.1=k:=g1.symm.trans e
   rw [show atKey (q :: qs) k=some q.2 by simp [atKey,e'],show ((p :: ps).find? fun x=>decide (x.1=k))=some p by simp [e]]
   exact g3
  ·have e':¬ q.1=k:=fun z=>e (g1.trans z)
   rw [show atKey (q :: qs) k=atKey qs k by simp [atKey,e'],show ((p :: ps).find? fun x=>decide (x.1=k))=ps.find? fun x=>decide (x.1=k) by simp [e]]
   exact ih
theorem mk_dict {xs:List (Mark × Addr × V)} (ok:HOk P w H h) (e:H a=some (MkO P w a xs)) (ks:∀ x ∈ xs,MkKey H (x.1,x.2.1)) :
  xs.length≤sizeLine∧(a == sysModules)=false∧∃ ys,MRel xs ys∧h.DictOfH (markKind P w) a ys:=by
 obtain ⟨⟨z,d,ys,r,o,es,ep,g1,g2,g3,g4,g5⟩,_⟩:=(show ObjOk P w H h a _ from ok a _ e)
 refine ⟨z,d,ys,r,o,es,ep,g1,g2,g3,g4,fun y hy=>?_,g5⟩
 have:∀ {l:List (Mark × Addr × V)} {m:List (Mark × Addr × Value)},MRel l m→(∀ x ∈ l,MkKey H (x.1,x.2.1))→∀ y ∈ m,MkKey H (y.1,y.2.1):=by
  intro l m q
  induction q with
  | nil=>intro _ y hy; cases hy
  | cons g t ih =>
   intro al y hy
   rcases List.mem_cons.mp hy with q | q
   ·subst q
    have:=al _ List.mem_cons_self
    rw [g.1,g.2.1] at this
    exact this
   ·exact ih (fun x hx=>al x (List.mem_cons_of_mem _ hx)) y q
 obtain ⟨b,q1,q2⟩:=this r ks y hy
 exact mark_of ok q1 q2
end
end L2
namespace L2
open PySem PySem.Spec PyProof.Rows
def KL {κ:Type} [DecidableEq κ] (l:List (κ × V × V)) (k:κ):Option V:=(l.find? fun x=>decide (x.1=k)).map (·.2.2)
def rSetd {κ:Type} [DecidableEq κ] (obj:Addr→List (κ × V × V)→HO) (key:Hp→V→κ→Prop):V→List V→Hp→VK→Prop:=fun x vs H Q =>
 ∃ d l k y v,x=.ref d∧vs=[y,v]∧H d=some (obj d l)∧(∀ z ∈ l,key H z.2.1 z.1)∧key H y k∧l.length < sizeLine ∧
  ((∃ r,KL l k=some r∧Q r H) ∨ (KL l k=none∧Q v (upd H d (obj d (l++[(k,y,v)])))))
structure Kd (X:Cx) (κ:Type) [DecidableEq κ] (obj:Addr→List (κ × V × V)→HO) (key:Hp→V→κ→Prop):Prop where
 ty:∀ {pins:List (Addr × Obj)} {σ:St} {H:Hp} {s:Shared} {a:Addr} {l:List (κ × V × V)},Inv X pins σ H s→H a=some (obj a l) →
  s.TypeIs (.ref a) "dict"∧∀ b,Value.ref a=.ref b→∃ ob,s.heap.get? b=some ob∧ob.dict=none
 new:∀ pos,PE X (.Dict [] [] pos) (fun _ H Q=>∀ p,H p=none→Q (.ref p) (upd H p (obj p [])))
 len:CallR X (.builtin "len") (fun xs H Q=>∃ a l,xs=[V.ref a]∧H a=some (obj a l)∧(∀ z ∈ l,key H z.2.1 z.1)∧Q (.int l.length) H)
 set:MtM X "dict.setdefault" (rSetd obj key)
def iObj (_:Addr) (l:List (Int × V × V)):HO:=.dK (l.map fun x=>(Sum.inl x.1,x.2.2))
def iKey (_:Hp) (y:V) (k:Int):Prop:=y=.int k
theorem valV_iObj (k:Int):∀ l:List (Int × V × V),valV (κ:=Key) (l.map fun x=>(Sum.inl x.1,x.2.2)) (Sum.inl k)=KL l k
 | []=>rfl
 | x :: l=>by
  by_cases e:x.1=k
  ·rw [List.map_cons,valV_pos (by rw [e]),show KL (x :: l) k=some x.2.2 by simp [KL,e]]
  ·rw [List.map_cons,valV_neg (fun q=>e (Sum.inl.inj q)),valV_iObj k l,show KL (x :: l) k=KL l k by simp [KL,e]]
theorem kd_int {X:Cx}:Kd X Int iObj iKey where
 ty:=by
  intro pins σ H s a l I e
  obtain ⟨q1,q2,_⟩:=isD_at I (.inl ⟨_,.inl e⟩)
  exact ⟨q1,q2⟩
 new:=fun pos=>pe_dnewK
 len:=by
  intro pins s σ H xs us Q I r h
  obtain ⟨a,l,rfl,ha,_,q⟩:=h
  obtain ⟨u,rfl,ru⟩:=vals1 r
  cases ru
  refine d_len I (.inl ha) fun t s' I'=>⟨.int l.length,H,I',⟨t,by rw [List.length_map]⟩,q⟩
 set:=by
  intro pins s σ H x vs v us Q I rx rv h
  obtain ⟨d,l,k,y,z,rfl,rfl,e,_,ky,hz,q⟩:=h
  cases rx
  cases (show y=.int k from ky)
  obtain ⟨u,u',rfl,ru,ru'⟩:=rv.two
  obtain ⟨z1,hd,ps,rel,dd⟩:=dk_of I.hok e
  refine call_setd dd.typeIs hd (kk_setd (knd:=mixKind X.prog X.w) (k:=Sum.inl k) (kV_is (k:=Sum.inl k) ru) dd (by rw [←rel.length]; exact z1) (fun r hr=>?_) (fun hr h' dd' sb=>?_))
  ·have t1:=rel.val (Sum.inl k)
   rw [valV_iObj,hr] at t1
   rcases q with ⟨r',e1,q⟩ | ⟨e1,_⟩
   ·rw [e1] at t1
    exact ⟨r',H,I.tok _,t1,q⟩
   ·rw [e1] at t1
    exact (show False from t1).elim
  ·have t1:=rel.val (Sum.inl k)
   rw [valV_iObj,hr] at t1
   rcases q with ⟨r',e1,_⟩ | ⟨_,q⟩
   ·rw [e1] at t1
    exact (show False from t1).elim
   ·refine ⟨z,_,d_write I (ob:=iObj d (l++[(k,.int k,z)])) (by rw [e]; exact True.intro) sb (let ⟨o,_,_,g,_⟩:=dd'; ⟨o,g⟩) ?_,ru',q⟩
    refine dk_new ?_ hd ?_ dd'
    ·rw [List.length_map,List.length_append,List.length_singleton]
     omega
    ·rw [List.map_append]
     exact Paired.snoc rel ⟨rfl,ru'⟩
def adr:V→Addr
 | .ref a=>a
 | _=>0
def mL (l:List (Mark × V × V)):List (Mark × Addr × V):=l.map fun x=>(x.1,adr x.2.1,x.2.2)
def mObj (P:Program) (w:World) (a:Addr) (l:List (Mark × V × V)):HO:=MkO P w a (mL l)
def mKey (H:Hp) (y:V) (k:Mark):Prop:=∃ a,y=.ref a∧MkKey H (k,a)
theorem mL_keys {H:Hp} {l:List (Mark × V × V)} (h:∀ z ∈ l,mKey H z.2.1 z.1):∀ x ∈ mL l,MkKey H (x.1,x.2.1):=by
 intro x hx
 obtain ⟨z,hz,rfl⟩:=List.mem_map.mp hx
 obtain ⟨a,e,q⟩:=h z hz
 show MkKey H (z.1,adr z.2.1)
 rw [e]
 exact q
theorem find_mL (k:Mark):∀ l:List (Mark × V × V),((mL l).find? fun x=>decide (x.1=k)).map (·.2.2)=KL l k
 | []=>rfl
 | x :: l=>by
  by_cases e:x.1=k
  ·simp [mL,KL,e]
  ·rw [show KL (x :: l) k=KL l k by simp [KL,e],←find_mL k l]
   simp [mL,e]
theorem kd_mark {X:Cx} (hu:X.A.units+9 < cLine):Kd X Mark (mObj X.prog X.w) mKey where
 ty:=by
  intro pins σ H s a l I e
  obtain ⟨⟨_,_,ys,_,o,es,ep,g1,g2,_⟩,_⟩:=(show ObjOk X.prog X.w H s.heap a _ from I.hok a _ e)
  refine ⟨⟨o,g1,g2.1⟩,fun b q=>?_⟩
  cases q
  exact ⟨o,g1,g2.2.1⟩
 new:=fun pos pins s σ H Q I h=>by
  refine wpAny_Dict_empty ⟨.ref s.heap.objs.size,_,I.laid (o:=mObj X.prog X.w s.heap.objs.size []) (t':=s.toks) (fun _ _ q=>Heap.get?_push_of_some _ q) (Nat.le_refl _) (mk_ok ?_),rfl,h _ (I.hok.fresh (Nat.le_refl _))⟩
  exact ⟨Nat.zero_le _,beq_eq_false_iff_ne.mpr (Ne.symm (Nat.ne_of_lt I.big)),[],.nil,_,#[],0,Heap.get?_push_size _ rfl,⟨rfl,rfl,rfl⟩,rfl,rfl,List.nodup_nil⟩
 len:=by
  intro pins s σ H xs us Q I r h
  obtain ⟨a,l,rfl,ha,ks,q⟩:=h
  obtain ⟨u,rfl,ru⟩:=vals1 r
  cases ru
  obtain ⟨z,hd,ys,rel,dd⟩:=mk_dict I.hok ha (mL_keys ks)
  have el:ys.length=l.length:=by rw [←Paired.length rel,mL,List.length_map]
  refine hk_len hd dd (by rw [←Paired.length rel]; exact z) fun t t'=>⟨.int l.length,H,I.tok _,⟨t,by rw [el]⟩,q⟩
 set:=by
  intro pins s σ H x vs v us Q I rx rv h
  obtain ⟨d,l,k,y,z,rfl,rfl,e,ks,⟨a,ey,b,eb,ec⟩,hz,q⟩:=h
  cases rx
  cases ey
  obtain ⟨u,u',rfl,ru,ru'⟩:=rv.two
  cases ru
  obtain ⟨z1,hd,ys,rel,dd⟩:=mk_dict I.hok e (mL_keys ks)
  have t1:=MRel.at (k:=k) rel
  rw [find_mL] at t1
  refine call_setd dd.typeIs hd (hk_setd (knd:=markKind X.prog X.w) (k:=k) (by show X.A.units+1+8 < cLine; omega) (mark_of I.hok eb ec) dd (by rw [←Paired.length rel]; exact z1) (fun r hr=>?_) (fun hr h' dd' sb=>?_))
  ·rw [hr] at t1
   rcases q with ⟨r',e1,q⟩ | ⟨e1,_⟩
   ·rw [e1] at t1
    exact ⟨r',H,I.tok _,t1,q⟩
   ·rw [e1] at t1
    exact (show False from t1).elim
  ·rw [hr] at t1
   rcases q with ⟨r',e1,_⟩ | ⟨_,q⟩
   ·rw [e1] at t1
    exact (show False from t1).elim
   ·obtain ⟨o,es,ep,g1,g2,g3,g4,g5,g6⟩:=dd'
    refine ⟨z,_,d_write I (ob:=mObj X.prog X.w d (l++[(k,.ref a,z)])) (by rw [e]; exact True.intro) sb ⟨o,g1⟩ (mk_ok ⟨?_,hd,_,?_,o,es,ep,g1,g2,g3,g4,g6⟩),ru',q⟩
    ·rw [mL,List.length_map,List.length_append,List.length_singleton]
     omega
    ·rw [mL,List.map_append]
     exact Paired.snoc rel ⟨rfl,rfl,ru'⟩
def tSetd {κ:Type} [DecidableEq κ] (obj:Addr→List (κ × V × V)→HO) (key:Hp→V→κ→Prop) (td ty tx:TE):TE:=fun σ H Q =>
 td σ H fun x H1=>∃ a l,x=.ref a∧H1 a=some (obj a l)∧ty σ H1 fun y H2=>tx σ H2 fun z H3=>rSetd obj key x [y,z] H3 Q
theorem pe_setd {X:Cx} {κ:Type} [DecidableEq κ] {obj:Addr→List (κ × V × V)→HO} {key:Hp→V→κ→Prop} {o e f:Expr} {apos cpos:Pos} {td ty tx:TE} (K:Kd X κ obj key) (ho:PE X o td) (he:PE X e ty) (hf:PE X f tx)
  (m:M2 X o "setdefault" apos e f cpos):PE X (.Call (.Attribute o "setdefault" apos) [e,f] [] cpos) (tSetd obj key td ty tx):=by
 intro pins s σ H Q I h
 refine wpAny_Call_method m.base m.few m.line PySem.F.plainAttrs_dict PySem.F.slot_dict_setdefault PySem.F.type_dict_setdefault (thn (ho pins s σ H _ I h) fun u s1 ⟨x,H1,I1,rx,a,l,ex,d,q1⟩=>?_)
 subst ex
 obtain rfl:u=Value.ref a:=rx
 obtain ⟨t1,t2⟩:=K.ty I1 d
 refine ⟨t1,t2,?_⟩
 rw [m.trees]
 refine Calls.callWith_builtin rfl (Calls.evalArgs_plain (Calls.spliced_cons (thn (he pins s1 σ H1 _ I1 q1) fun iv s2 ⟨y,H2,I2,ry,q2⟩=>Calls.spliced_cons (thn (hf pins s2 σ H2 _ I2 q2) fun fv s3 ⟨z,H3,I3,rz,q3⟩=>Calls.spliced_nil ?_))))
 exact K.set pins s3 σ H3 (.ref a) [y,z] _ _ Q I3 rfl (.cons ry (.cons rz .nil)) q3
end L2
namespace L2
open PySem PySem.Spec PyProof.Rows
abbrev lsO (acc:List Value) (c:Nat):Obj:={ cls:=.type "list",dict:=none,data:=.seq acc.toArray c,slots:=#[] }
structure Feed (prog:Program) (w:World) (A:Around) (S I:Addr) (n:Nat) (St En:List Value→Heap→Prop):Prop where
 keep:∀ {acc:List Value} {h h':Heap},St acc h→(∀ b o,b≠S→h.get? b=some o→h'.get? b=some o)→St acc h'
 item:∀ {s:Shared} {acc:List Value} {Q:Option Value→Shared→Prop} {E:Value→Shared→Prop},acc.length < n→(∃ o,s.heap.get? S=some o)→St acc s.heap →
  (∀ v h' tk,St (acc++[v]) h'→(∀ o,s.heap.get? S=some o→h'.get? S=some o)→Q (some v) { s with heap:=h',toks:=tk })→wpAny (model prog w) A (pyNext (.ref I)) Q E s
 done:∀ {s:Shared} {acc:List Value} {Q:Option Value→Shared→Prop} {E:Value→Shared→Prop},acc.length=n→St acc s.heap →
  (∀ h' tk,En acc h'→(∀ o,s.heap.get? S=some o→h'.get? S=some o)→Q none { s with heap:=h',toks:=tk })→wpAny (model prog w) A (pyNext (.ref I)) Q E s
section
variable {prog:Program} {w:World} {A:Around} {S I v:Addr} {n:Nat} {St En:List Value→Heap→Prop} {R:Result→Shared→Prop} {res:Value}
theorem feed_loop (W:Feed prog w A.in1 S I n St En) (hn:n≤sizeLine) :
  ∀ (k:Nat) (s:Shared) (acc:List Value) (c:Nat),n - acc.length=k→acc.length≤n→St acc s.heap→s.heap.get? S=some (lsO acc c) →
  (∀ h' tk acc' c',acc'.length=n→En acc' h'→h'.get? S=some (lsO acc' c')→R (.ok (.ret res)) { s with heap:=h',toks:=tk }) →
  codeAny (model prog w) A (.builtin "list.extend.loop" ⟨[.ref S,.ref I,res],[]⟩) R s:=by
 intro k
 induction k with
 | zero =>
  intro s acc c e1 e2 st hS hR
  refine codeAny_builtin F.entry_extend_loop ?_
  rw [Around.under_plainId F.plain_extend_loop _]
  show wpAny _ A.in1 (pyNext (.ref I) >>= _) _ _ s
  refine wpAny_bind (W.done (by omega) st fun h' tk en sk=>?_)
  exact wpAny_pure (hR h' tk acc c (by omega) en (sk _ hS))
 | succ k ih =>
  intro s acc c e1 e2 st hS hR
  refine codeAny_builtin F.entry_extend_loop ?_
  rw [Around.under_plainId F.plain_extend_loop _]
  show wpAny _ A.in1 (pyNext (.ref I) >>= _) _ _ s
  refine wpAny_bind (W.item (by omega) ⟨_,hS⟩ st fun x h' tk st' sk=>?_)
  have hS':=sk _ hS
  show wpAny _ A.in1 (updateSeq S (·.push x) >>= _) _ _ _
  obtain ⟨c1,hS2⟩:∃ c1,(h'.update S (Obj.mapSeq (·.push x))).get? S=some (lsO (acc++[x]) c1):=by
   have q:=PySem.IsL.update hS' (·.push x)
   rw [List.push_toArray] at q
   exact ⟨_,q⟩
  refine wpAny_bind (wpAny_updateSeq hS' rfl (wpAny_pure ⟨plainId_quiet F.plain_extend_loop _,ih _ (acc++[x]) c1 (by rw [List.length_append,List.length_singleton]; omega) (by rw [List.length_append,List.length_singleton]; omega) (W.keep st' fun b o hb q=>(Heap.get?_update_other _ _ (Ne.symm hb)).trans q) hS2 ?_⟩)
   (by show acc.toArray.size≤sizeLine; rw [List.size_toArray]; omega) (by show (acc.toArray.push x).size≤sizeLine+1; rw [Array.size_push,List.size_toArray]; omega))
  intro h2 tk2 acc2 c2 q1 q2 q3
  exact hR h2 tk2 acc2 c2 q1 q2 q3
theorem feed_extend {T:String} {s:Shared} {c:Nat} (W:Feed prog w A.in1 S I n St En) (hn:n≤sizeLine) (ty:s.TypeIs (.ref v) T) (t1:(Value.type T == Value.type "list")=false) (t2:(Value.type T == Value.type "tuple")=false) (ne:S≠v)
  (hS:s.heap.get? S=some (lsO [] c))
  (it:∀ {Q:Value→Shared→Prop} {E:Value→Shared→Prop},(∀ h' tk,St [] h'→(∀ o,s.heap.get? S=some o→h'.get? S=some o)→Q (.ref I) { s with heap:=h',toks:=tk })→wpAny (model prog w) A.in1 (pyIter (.ref v)) Q E s)
  (hint:∀ {s':Shared} {Q:Bool→Shared→Prop} {E:Value→Shared→Prop},St [] s'.heap→(∀ b tk,Q b { s' with toks:=tk })→wpAny (model prog w) A.in1 (Builtin.List.listLengthHint (.ref v)) Q E s')
  (hR:∀ h' tk acc' c',acc'.length=n→En acc' h'→h'.get? S=some (lsO acc' c')→R (.ok (.ret res)) { s with heap:=h',toks:=tk }) :
  wpAny (model prog w) A.in1 (Builtin.List.listExtendWith (.ref S) (.ref v) res)
   (fun fin s'=>match fin with | .done f=>R (.ok f) s' | .again c'=>c'.quiet=true∧codeAny (model prog w) A c' R s') (fun e s'=>R (.error e) s') s:=by
 unfold Builtin.List.listExtendWith
 refine wpAny_bind (wpAny_typeOf ty ?_)
 rw [show Builtin.List.listSameRef (.ref S) (.ref v)=false by simp [Builtin.List.listSameRef,ne],t1,t2]
 simp only [Bool.or_false,Bool.false_eq_true,if_false]
 refine wpAny_bind (it fun h1 tk1 st1 sk1=>?_)
 refine wpAny_bind (wpAny_holding (hint st1 fun b tk2=>?_))
 have hS1:=sk1 _ hS
 refine wpAny_ite_split (fun _=>?_) (fun _=>?_)
 ·refine wpAny_bind (wpAny_rule (wpAny_bind ?_))
  show wpAny _ A.in1 (updateSeq S (·.push .none) >>= fun _=>updateSeq S (·.pop)) _ _ _
  have q1:=PySem.IsL.update hS1 (·.push Value.none)
  have q2:=PySem.IsL.update q1 (·.pop)
  obtain ⟨c2,q3⟩:∃ c2,((h1.update S (Obj.mapSeq (·.push Value.none))).update S (Obj.mapSeq (·.pop))).get? S=some (lsO [] c2):=⟨_,q2⟩
  refine wpAny_bind (wpAny_updateSeq hS1 rfl (wpAny_updateSeq q1 rfl ?_ (by simp [sizeLine_eq]) (by simp [sizeLine_eq])) (by simp [sizeLine_eq]) (by simp [sizeLine_eq]))
  refine wpAny_pure ⟨plainId_quiet F.plain_extend_loop _,?_⟩
  refine feed_loop W hn n _ [] c2 rfl (Nat.zero_le _) (W.keep st1 fun b o hb q=>?_) q3 ?_
  ·exact (Heap.get?_update_other _ _ (Ne.symm hb)).trans ((Heap.get?_update_other _ _ (Ne.symm hb)).trans q)
  ·intro h2 tk2 acc2 c2 p1 p2 p3
   exact hR h2 tk2 acc2 c2 p1 p2 p3
 ·refine wpAny_pure ⟨plainId_quiet F.plain_extend_loop _,feed_loop W hn n _ [] c rfl (Nat.zero_le _) st1 hS1 ?_⟩
  intro h2 tk2 acc2 c2 p1 p2 p3
  exact hR h2 tk2 acc2 c2 p1 p2 p3
variable {E:Value→Shared→Prop} {s:Shared}
theorem list_feed {T:String} {Q:Value→Shared→Prop} (W:Feed prog w A.in1.in1 s.heap.objs.size I n St En) (hn:n≤sizeLine) (ty:s.TypeIs (.ref v) T) (t1:(Value.type T == Value.type "list")=false) (t2:(Value.type T == Value.type "tuple")=false)
  (it:∀ {s':Shared} {Q:Value→Shared→Prop} {E:Value→Shared→Prop},(∀ b o,s.heap.get? b=some o→s'.heap.get? b=some o)→s'.heap.objs.size=s.heap.objs.size+1 →
   (∀ h' tk,St [] h'→(∀ o,s'.heap.get? s.heap.objs.size=some o→h'.get? s.heap.objs.size=some o)→Q (.ref I) { s' with heap:=h',toks:=tk })→wpAny (model prog w) A.in1.in1 (pyIter (.ref v)) Q E s')
  (hint:∀ {s':Shared} {Q:Bool→Shared→Prop} {E:Value→Shared→Prop},St [] s'.heap→(∀ b tk,Q b { s' with toks:=tk })→wpAny (model prog w) A.in1.in1 (Builtin.List.listLengthHint (.ref v)) Q E s')
  (hQ:∀ h' tk acc c',acc.length=n→En acc h'→h'.get? s.heap.objs.size=some (lsO acc c')→Q (.ref s.heap.objs.size) { s with heap:=h',toks:=tk }) :
  wpAny (model prog w) A (call (.type "list") [.ref v]) Q E s:=by
 have hv:v < s.heap.objs.size:=by obtain ⟨o,e,_⟩:=ty; exact Heap.lt_size e
 refine callType_codes (Q₁:=fun x s₁=>x=.ref s.heap.objs.size∧s₁={ s with heap:=s.heap.push { cls:=.type "list",data:=.seq #[] } }) F.called_list (F.typeCall_list_1 _) F.entry_list_init (code_list_new _ ⟨rfl,rfl⟩) fun x s₁ q=>?_
 obtain ⟨rfl,rfl⟩:=q
 have hS:(s.heap.push { cls:=.type "list",data:=.seq #[] }).get? s.heap.objs.size=some (lsO [] 0):=Heap.get?_push_size _ rfl
 refine ⟨⟨_,hS,rfl⟩,F.args_list_init_2 _ _,?_⟩
 show wpAny _ _ (do let old ← Builtin.List.listItems (.ref s.heap.objs.size); Builtin.List.listUpdate (.ref s.heap.objs.size) (fun _=>#[]); letGo old.toList.reverse; Builtin.List.listExtendWith (.ref s.heap.objs.size) (.ref v) .none) _ _ _
 refine wpAny_bind ?_
 unfold Builtin.List.listItems
 refine wpAny_bind (wpAny_seqItems hS rfl (wpAny_pure ?_))
 show wpAny _ _ (updateSeq s.heap.objs.size (fun _=>#[]) >>= fun _=>letGo ([]:List Value).toArray.toList.reverse >>= fun _=>Builtin.List.listExtendWith (.ref s.heap.objs.size) (.ref v) .none) _ _ _
 refine wpAny_bind (wpAny_updateSeq hS rfl ?_)
 obtain ⟨c,hS2⟩:∃ c,((s.heap.push { cls:=.type "list",data:=.seq #[] }).update s.heap.objs.size (Obj.mapSeq (fun _=>(#[]:Array Value)))).get? s.heap.objs.size=some (lsO [] c):=⟨_,PySem.IsL.update hS (fun _=>#[])⟩
 have oth:∀ b o,s.heap.get? b=some o→((s.heap.push { cls:=.type "list",data:=.seq #[] }).update s.heap.objs.size (Obj.mapSeq (fun _=>(#[]:Array Value)))).get? b=some o :=
  fun b o q=>(Heap.get?_update_other _ _ (Nat.ne_of_gt (Heap.lt_size q))).trans (Heap.get?_push_of_some _ q)
 refine wpAny_bind (wpAny_letGo ?_)
 refine feed_extend (R:=wants (fun r s₂=>r=.none∧Q (.ref s.heap.objs.size) s₂) E) (c:=c) W hn (by obtain ⟨o,e,q⟩:=ty; exact ⟨o,oth _ _ e,q⟩) t1 t2 (Nat.ne_of_gt hv) hS2 (fun {Q' E'} k=>it oth (by simp) k) hint fun h' tk acc' c' p1 p2 p3=>?_
 exact ⟨rfl,hQ h' tk acc' c' p1 p2 p3⟩
end
end L2
namespace L2
open PySem PySem.Spec PyProof.Rows
section
variable {prog:Program} {w:World} {A:Around} {I v:Addr} {n:Nat} {St En:List Value→Heap→Prop} {E:Value→Shared→Prop} {s:Shared}
theorem collect_feed {T:String} {Q:List Value→Shared→Prop} (W:Feed prog w A.in1 s.heap.objs.size I n St En) (hn:n≤sizeLine) (ty:s.TypeIs (.ref v) T) (t1:(Value.type T == Value.type "list")=false) (t2:(Value.type T == Value.type "tuple")=false)
  (it:∀ {s':Shared} {Q:Value→Shared→Prop} {E:Value→Shared→Prop},(∀ b o,s.heap.get? b=some o→s'.heap.get? b=some o)→s'.heap.objs.size=s.heap.objs.size+1 →
   (∀ h' tk,St [] h'→(∀ o,s'.heap.get? s.heap.objs.size=some o→h'.get? s.heap.objs.size=some o)→Q (.ref I) { s' with heap:=h',toks:=tk })→wpAny (model prog w) A.in1 (pyIter (.ref v)) Q E s')
  (hint:∀ {s':Shared} {Q:Bool→Shared→Prop} {E:Value→Shared→Prop},St [] s'.heap→(∀ b tk,Q b { s' with toks:=tk })→wpAny (model prog w) A.in1 (Builtin.List.listLengthHint (.ref v)) Q E s')
  (hQ:∀ h' tk acc,acc.length=n→En acc h'→s.heap.objs.size < h'.objs.size→Q acc { s with heap:=h',toks:=tk }):wpAny (model prog w) A (collect (.ref v)) Q E s:=by
 have hv:v < s.heap.objs.size:=by obtain ⟨o,e,_⟩:=ty; exact Heap.lt_size e
 unfold collect
 refine wpAny_bind (wpAny_runValue (codeAny_builtin F.entry_proto_collect ?_))
 rw [Around.under_plainId F.plain_proto_collect _]
 show wpAny _ A.in1 (newList [] >>= fun l=>again (.builtin "list.__iadd__" ⟨[l,.ref v],[]⟩)) _ _ s
 refine wpAny_bind (wpAny_newObj_type ?_)
 refine wpAny_pure ⟨plainId_quiet F.plain_list_iadd _,codeAny_builtin F.entry_list_iadd ?_⟩
 rw [Around.under_plainId F.plain_list_iadd _]
 show wpAny _ A.in1 (Builtin.List.listExtendWith (.ref s.heap.objs.size) (.ref v) (.ref s.heap.objs.size)) _ _ _
 have hS:(s.heap.push { cls:=.type "list",data:=.seq ([]:List Value).toArray }).get? s.heap.objs.size=some (lsO [] 0):=Heap.get?_push_size _ rfl
 have oth:∀ b o,s.heap.get? b=some o→(s.heap.push { cls:=.type "list",data:=.seq ([]:List Value).toArray }).get? b=some o:=fun b o q=>Heap.get?_push_of_some _ q
 have fin:∀ {h':Heap} {tk:Nat} {acc:List Value} {c':Nat},acc.length=n→En acc h'→h'.get? s.heap.objs.size=some (lsO acc c') →
   wpAny (model prog w) A (match Value.ref s.heap.objs.size with
    | Value.ref a=>do
     match (← load a).data with
      | Data.seq xs _=>pure xs.toList
      | _=>unsupported "internal:collect"
    | _=>unsupported "internal:collect") Q E { s with heap:=h',toks:=tk }:=by
  intro h' tk acc c' p1 p2 p3
  show wpAny _ A (load s.heap.objs.size >>= _) _ _ _
  refine wpAny_bind (wpAny_load p3 (wpAny_pure ?_))
  exact hQ h' tk acc p1 p2 (Heap.lt_size p3)
 refine wpAny_mono (feed_extend (R:=fun r s'=>∃ h' tk acc c',r=.ok (.ret (.ref s.heap.objs.size))∧s'={ s with heap:=h',toks:=tk }∧acc.length=n∧En acc h'∧h'.get? s.heap.objs.size=some (lsO acc c'))
  (s:={ s with heap:=s.heap.push { cls:=.type "list",data:=.seq ([]:List Value).toArray } }) (c:=0) W hn (by obtain ⟨o,e,q⟩:=ty; exact ⟨o,oth _ _ e,q⟩) t1 t2 (Nat.ne_of_gt hv) hS (fun {Q' E'} k=>it oth (by simp) k) hint
  fun h' tk acc' c' p1 p2 p3=>⟨h',tk,acc',c',rfl,rfl,p1,p2,p3⟩) (fun f s' q=>?_) (fun e s' q=>?_)
 ·cases f with
  | done f =>
   obtain ⟨h',tk,acc,c',e,rfl,p1,p2,p3⟩:=q
   cases e
   exact fin p1 p2 p3
  | again c =>
   refine ⟨q.1,codeAny_mono q.2 fun r s'' hr=>?_⟩
   obtain ⟨h',tk,acc,c',rfl,rfl,p1,p2,p3⟩:=hr
   exact fin p1 p2 p3
 ·obtain ⟨_,_,_,_,e,_⟩:=q
  cases e
theorem tuple_feed {T:String} {Q:Value→Shared→Prop} (W:Feed prog w A.in1.in1.in1 s.heap.objs.size I n St En) (hn:n≤sizeLine) (ty:s.TypeIs (.ref v) T) (t1:(Value.type T == Value.type "list")=false) (t2:(Value.type T == Value.type "tuple")=false)
  (it:∀ {s':Shared} {Q:Value→Shared→Prop} {E:Value→Shared→Prop},(∀ b o,s.heap.get? b=some o→s'.heap.get? b=some o)→s'.heap.objs.size=s.heap.objs.size+1 →
   (∀ h' tk,St [] h'→(∀ o,s'.heap.get? s.heap.objs.size=some o→h'.get? s.heap.objs.size=some o)→Q (.ref I) { s' with heap:=h',toks:=tk })→wpAny (model prog w) A.in1.in1.in1 (pyIter (.ref v)) Q E s')
  (hint:∀ {s':Shared} {Q:Bool→Shared→Prop} {E:Value→Shared→Prop},St [] s'.heap→(∀ b tk,Q b { s' with toks:=tk })→wpAny (model prog w) A.in1.in1.in1 (Builtin.List.listLengthHint (.ref v)) Q E s')
  (hQ:∀ h' tk acc,acc.length=n→En acc h'→s.heap.objs.size < h'.objs.size→Q (.ref h'.objs.size) { s with heap:=h'.push { cls:=.type "tuple",data:=.seq acc.toArray },toks:=tk }) :
  wpAny (model prog w) A (call (.type "tuple") [.ref v]) Q E s:=by
 refine callType_codes (Q₁:=fun x s₁=>s₁.TypeIs x "tuple"∧Q x s₁) F.called_tuple (F.typeCall_tuple_1 _) F.entry_object_init ?_ fun x s₁ q =>
  ⟨q.1,F.args_object_init_2 x _,object_init_meets F.called_tuple.init.lookup F.called_tuple.made (by decide) prog w A.in1 _ s₁ ⟨q.1,rfl,q.2⟩⟩
 refine codeAny_of_tree ?_
 show wpAny _ A.in1.in1 (do checkBuiltinCall "tuple.__new__" ⟨[.type "tuple",.ref v],[]⟩; again (.builtin "tuple.__new__" ⟨[.type "tuple",.ref v],[]⟩)) _ _ s
 refine wpAny_bind (wpAny_of_eq (F.newCall_tuple_1 _) (wpAny_pure ⟨plainId_quiet F.plain_tuple_new _,codeAny_builtin F.entry_tuple_new ?_⟩))
 rw [Around.under_plainId F.plain_tuple_new _]
 have g1:=sub_tuple_self
 have g2:=init_tuple_lookup
 have g3:=madeHere_tuple
 wp_walk using wpAny_typeOf ty,collect_feed W hn ty t1 t2 it hint
 intro h' tk acc p1 p2 p3
 refine wpAny_bind (wpAny_pure ?_)
 show wpAny _ _ (Builtin.Tuple.tupleExact acc.toArray >>= fun z=>ret z) _ _ _
 unfold Builtin.Tuple.tupleExact
 refine wpAny_bind (wpAny_newObj_type ?_ (by show acc.toArray.size≤sizeLine; rw [List.size_toArray,p1]; exact hn))
 exact wpAny_pure ⟨⟨_,Heap.get?_push_size _ rfl,rfl⟩,hQ h' tk acc p1 p2 p3⟩
end
end L2
namespace L2
open PySem PySem.Spec PyProof.Rows
def VwO (p d:Addr):HO:=.ext fun h=>h.IsValuesView p d
theorem vw_ok {P:Program} {w:World} {H:Hp} {h:Heap} {p d:Addr} (q:h.IsValuesView p d):ObjOk P w H h p (VwO p d):=by
 obtain ⟨o,e,r⟩:=q
 exact ⟨⟨o,e,r⟩,⟨o,e⟩,fun h1 h2 ⟨o,e,r⟩ k=>⟨o,k _ e,r⟩⟩
section
variable {X:Cx}
def rVals:V→List V→Hp→VK→Prop:=fun x vs H Q=>∃ a kvs,x=.ref a∧vs=[]∧H a=some (.dK kvs)∧∀ p,H p=none→Q (.ref p) (upd H p (VwO p a))
theorem mt_values:MtR X "dict.values" rVals:=by
 intro pins s σ H x vs v us Q I rx rv h
 obtain ⟨a,kvs,rfl,rfl,e,q⟩:=h
 cases rx
 cases rv
 obtain ⟨z,hd,ps,rel,dd⟩:=dk_of I.hok e
 refine call_meetsIn F.slot_dict_values dd.typeIs F.entry_dict_values (F.args_dict_values_1 _) (meets_dict_values (mixKind X.prog X.w) a hd) ⟨⟨_,dd⟩,?_⟩
 refine ⟨.ref s.heap.objs.size,_,I.laid (o:=VwO s.heap.objs.size a) (t':=s.toks) (fun b o q=>Heap.get?_push_of_some _ q) (Nat.le_refl _) (vw_ok ⟨_,Heap.get?_push_size _ rfl,rfl,rfl⟩),rfl,q _ I.fresh⟩
end
section
variable {prog:Program} {w:World} {A:Around}
def VSt (knd:KeyKind prog w Key) (h0:Heap) (S I d:Addr) (ps:List (Key × Value)) (ep:Nat) (acc:List Value) (h:Heap):Prop :=
 h.IsValIter I d acc.length ps.length ep∧(∀ b o,h0.get? b=some o→h.get? b=some o)∧acc=(ps.map (·.2)).take acc.length
theorem val_feed {knd:KeyKind prog w Key} {h0:Heap} {S I d:Addr} {ps:List (Key × Value)} {ep:Nat} (hh:A.handled=none) (dd:h0.DictAt knd d ps ep) (e1:h0.objs.size≤S) (e2:S≠I) (e3:h0.objs.size≤I) :
  Feed prog w A S I ps.length (VSt knd h0 S I d ps ep) (fun acc h=>(∀ b o,h0.get? b=some o→h.get? b=some o)∧acc=ps.map (·.2)) where
 keep:=by
  intro acc h h' st k
  obtain ⟨⟨o,e,r⟩,old,ea⟩:=st
  exact ⟨⟨o,k _ _ (Ne.symm e2) e,r⟩,fun b o q=>k b o (Nat.ne_of_lt (Nat.lt_of_lt_of_le (Heap.lt_size q) e1)) (old b o q),ea⟩
 item:=by
  intro s acc Q E lt _ st k
  obtain ⟨it,old,ea⟩:=st
  have dd':s.heap.DictAt knd d ps ep:=by
   obtain ⟨o,es,g,r⟩:=dd
   exact ⟨o,es,old _ _ g,r⟩
  refine wpAny_pyNext_values_item (knd:=knd) (k:=(ps[acc.length]'lt).1) (v:=(ps[acc.length]'lt).2) it dd' (List.getElem?_eq_getElem lt) fun h' it' sb=>?_
  refine k _ h' s.toks ⟨?_,fun b o q=>(sb.2 b (Nat.ne_of_lt (Nat.lt_of_lt_of_le (Heap.lt_size q) e3))).trans (old b o q),?_⟩ fun o q=>(sb.2 S e2).trans q
  ·rw [List.length_append,List.length_singleton]
   exact it'
  ·rw [List.length_append,List.length_singleton,List.take_succ,←ea,List.getElem?_map,List.getElem?_eq_getElem lt]
   rfl
 done:=by
  intro s acc Q E lt st k
  obtain ⟨it,old,ea⟩:=st
  have dd':s.heap.DictAt knd d ps ep:=by
   obtain ⟨o,es,g,r⟩:=dd
   exact ⟨o,es,old _ _ g,r⟩
  refine wpAny_pyNext_values_end (knd:=knd) hh it dd' (List.getElem?_eq_none (by omega)) fun h' eb=>?_
  refine k h' s.toks ⟨fun b o q=>eb b o (Nat.ne_of_lt (Nat.lt_of_lt_of_le (Heap.lt_size q) e3)) (old b o q),?_⟩ fun o q=>eb S o e2 q
  rw [ea,lt,←List.length_map (f:=(·.2)) (as:=ps),List.take_length]
theorem val_hint {v d:Addr} {s:Shared} {Q:Bool→Shared→Prop} {E:Value→Shared→Prop} (hv:s.heap.IsValuesView v d) (k:∀ b tk,Q b { s with toks:=tk }):wpAny (model prog w) A (Builtin.List.listLengthHint (.ref v)) Q E s:=by
 unfold Builtin.List.listLengthHint
 refine wpAny_bind (wpAny_specialOf hv.typeIs F.slot_dict_values_len.lookup ?_)
 generalize hid:("dict_values.__len__" : String)=id0
 wp_delta
 rw [show splitId id0=some ("dict_values","__len__") from by subst hid; decide +kernel]
 subst hid
 refine wpAny_bind (wpAny_isInstance (T:="dict_values") (b:=true) hv.typeIs (by rw [isSubtype_type]; kernel_rfl) ?_)
 refine wpAny_ite_split (fun q=>absurd q (by decide)) (fun _=>?_)
 refine wpAny_ite_split (fun _=>?_) (fun q=>absurd (by decide +kernel) q)
 refine wpAny_bind (wpAny_typeOf hv.typeIs ?_)
 exact wpAny_pure (k false s.toks)
end
section
variable {X:Cx}
theorem call_tupleV (hc:X.calm=true):CallR X (.type "tuple") (fun xs H Q=>∃ p a kvs,xs=[V.ref p]∧H p=some (VwO p a)∧H a=some (.dK kvs)∧∀ t,H t=none→Q (.ref t) (upd H t (.tup (kvs.map (·.2))))):=by
 intro pins s σ H xs us Q I r h
 obtain ⟨p,a,kvs,rfl,ep,ea,q⟩:=h
 obtain ⟨u,rfl,ru⟩:=vals1 r
 cases ru
 obtain ⟨z,hd,ps,rel,o,es,epo,g1,g2⟩:=dk_of I.hok ea
 have dd:s.heap.DictAt (mixKind X.prog X.w) a ps epo:=⟨o,es,g1,g2⟩
 obtain ⟨vw,_⟩:=(show ObjOk X.prog X.w H s.heap p (VwO p a) from I.hok p _ ep)
 have hh:X.A.handled=none:=I.ok.hd hc
 have zl:ps.length≤sizeLine:=by rw [←rel.length]; exact z
 refine tuple_feed (I:=s.heap.objs.size+1) (val_feed (knd:=mixKind X.prog X.w) (A:=X.A.in1.in1.in1) (h0:=s.heap) (S:=s.heap.objs.size) (I:=s.heap.objs.size+1) hh dd (Nat.le_refl _) (Nat.ne_of_lt (Nat.lt_succ_self _)) (Nat.le_succ _)) zl vw.typeIs (by decide) (by decide) ?_ ?_ ?_
 ·intro s' Q' E' old sz k
  have vw':s'.heap.IsValuesView p a:=by obtain ⟨o,e,r⟩:=vw; exact ⟨o,old _ _ e,r⟩
  have dd':s'.heap.DictAt (mixKind X.prog X.w) a ps epo:=by obtain ⟨o,es,g,r⟩:=dd; exact ⟨o,es,old _ _ g,r⟩
  refine wpAny_pyIter_values vw' dd' ?_
  rw [sz]
  refine k _ s'.toks ⟨⟨_,by rw [←sz]; exact Heap.get?_push_size _ rfl,rfl,rfl⟩,fun b o e=>Heap.get?_push_of_some _ (old b o e),rfl⟩ fun o e=>Heap.get?_push_of_some _ e
 ·intro s' Q' E' st k
  exact val_hint (by obtain ⟨o,e,r⟩:=vw; exact ⟨o,st.2.1 _ _ e,r⟩) k
 ·intro h' tk acc e1 en lt
  obtain ⟨old,rfl⟩:=en
  have hf:H h'.objs.size=none:=I.hok.fresh (Nat.le_of_lt lt)
  have rv:Vals (kvs.map (·.2)) (ps.map (·.2)):=by
   have:∀ {l:List (Key × V)} {m:List (Key × Value)},KV l m→Vals (l.map (·.2)) (m.map (·.2)):=by
    intro l m q
    unfold KV at q
    induction q with
    | nil=>exact .nil
    | cons g t ih=>exact .cons g.2 ih
   exact this rel
  refine ⟨.ref h'.objs.size,_,I.laid (o:=.tup (kvs.map (·.2))) (t':=tk) (fun b o e=>Heap.get?_push_of_some _ (old b o e)) (Nat.le_of_lt lt) ⟨?_,_,rv,⟨_,Heap.get?_push_size _ rfl,rfl,_,rfl⟩⟩,rfl,q _ hf⟩
  rw [List.length_map]
  exact z
end
end L2
namespace L2
open PySem PySem.Spec PyProof.Rows
abbrev Zr (h:Heap) (z:Addr) (f:Value) (g:Bool) (TI TO:Addr):Prop:=h.get? z=some { cls:=.type "zip",dict:=none,data:=.fields #[f,.bool g,.bool false,.ref TI,.ref TO],slots:=#[] }
abbrev Tr (h:Heap) (t:Addr) (a b c:Value):Prop:=h.get? t=some { cls:=.type "tuple",data:=.seq #[a,b,c] }
theorem typeCall_zip3 (a b c:Value):checkTypeCall "zip" ⟨[a,b,c],[]⟩=pure ():=by kernel_rfl
theorem newCall_zip3 (a b c:Value):checkBuiltinCall "zip.__new__" ⟨[.type "zip",a,b,c],[]⟩=pure ():=by kernel_rfl
theorem args_init4 (a b c d:Value):argsOk "object.__init__" ⟨[a,b,c,d],[]⟩:=by
 unfold argsOk
 rw [signature?_of (id:="object.__init__") (n:=['_','_','t','i','n','i','_','_']) (o:=['t','c','e','j','b','o']) (by kernel_rfl) F.owner_object]
 kernel_rfl
abbrev z3a (h:Heap) (l:Addr):Heap:=h.push { cls:=.type "list_iterator",data:=.fields #[.ref l,.int 0 0] }
abbrev z3d (h:Heap) (l m n:Addr):Heap:=(z3a (z3a (z3a h l) m) n).push { cls:=.type "tuple",data:=.seq #[.ref h.objs.size,.ref (z3a h l).objs.size,.ref (z3a (z3a h l) m).objs.size] }
abbrev z3e (h:Heap) (l m n:Addr):Heap:=(z3d h l m n).push { cls:=.type "tuple",data:=.seq #[.none,.none,.none] }
abbrev z3f (h:Heap) (l m n:Addr):Heap:=(z3e h l m n).push { cls:=.type "zip",data:=.fields #[.none,.bool false,.bool false,.ref (z3a (z3a (z3a h l) m) n).objs.size,.ref (z3d h l m n).objs.size] }
theorem zip3_meets (l m n:Addr) (xs ys zs:Array Value) :
  Meets (Builtin.«zip.__new__» ⟨[.type "zip",.ref l,.ref m,.ref n],[]⟩) (fun _ R s=>s.heap.IsList l xs∧s.heap.IsList m ys∧s.heap.IsList n zs∧R (.ok (.ret (.ref (z3e s.heap l m n).objs.size))) { s with heap:=z3f s.heap l m n }) :=
 .of_wp fun prog w A R s h=>by
  obtain ⟨hp,g,d,tk,os⟩:=s
  obtain ⟨h1,h2,h3,h⟩:=h
  have hsub:=sub_zip
  have k1:Heap.IsList (Shared.heap ⟨hp,g,d,tk,os⟩) l xs:=h1
  have k2:Heap.IsList (Shared.heap ⟨hp.push { cls:=.type "list_iterator",data:=.fields #[.ref l,.int 0 0] },g,d,tk,os⟩) m ys:=Heap.IsList.push h2 _
  have k3:Heap.IsList (Shared.heap ⟨(hp.push { cls:=.type "list_iterator",data:=.fields #[.ref l,.int 0 0] }).push { cls:=.type "list_iterator",data:=.fields #[.ref m,.int 0 0] },g,d,tk,os⟩) n zs:=Heap.IsList.push (Heap.IsList.push h3 _) _
  wp_walk using wpAny_pyIter_list k1,wpAny_pyIter_list k2,wpAny_pyIter_list k3
  exact ⟨_,rfl,h⟩
structure ZS (h:Heap) (b:Nat) (l m n:Addr) (i:Nat) (f:Value) (g:Bool):Prop where
 z:Zr h (b+5) f g (b+3) (b+4)
 ti:Tr h (b+3) (.ref b) (.ref (b+1)) (.ref (b+2))
 to:∃ x y v,Tr h (b+4) x y v
 i1:h.IsListIter b l i
 i2:h.IsListIter (b+1) m i
 i3:h.IsListIter (b+2) n i
section
variable {prog:Program} {w:World} {A:Around} {E:Value→Shared→Prop} {s:Shared}
theorem zip3_new {l m n:Addr} {xs ys zs:Array Value} {Q:Value→Shared→Prop} (h1:s.heap.IsList l xs) (h2:s.heap.IsList m ys) (h3:s.heap.IsList n zs)
  (h:∀ h',ZS h' s.heap.objs.size l m n 0 .none false→h'.objs.size=s.heap.objs.size+6→(∀ c o,s.heap.get? c=some o→h'.get? c=some o)→Q (.ref (s.heap.objs.size+5)) { s with heap:=h' }) :
  wpAny (model prog w) A (call (.type "zip") [.ref l,.ref m,.ref n]) Q E s:=by
 refine callType_new F.called_zip (by decide) (typeCall_zip3 _ _ _) (newCall_zip3 _ _ _) (fun obj=>args_init4 obj _ _ _) F.entry_zip_new (zip3_meets l m n xs ys zs) ⟨h1,h2,h3,?_⟩
 have e1:(z3a s.heap l).objs.size=s.heap.objs.size+1:=Heap.size_push ..
 have e2:(z3a (z3a s.heap l) m).objs.size=s.heap.objs.size+2:=by rw [Heap.size_push,e1]
 have e3:(z3a (z3a (z3a s.heap l) m) n).objs.size=s.heap.objs.size+3:=by rw [Heap.size_push,e2]
 have e4:(z3d s.heap l m n).objs.size=s.heap.objs.size+4:=by rw [Heap.size_push,e3]
 have e5:(z3e s.heap l m n).objs.size=s.heap.objs.size+5:=by rw [Heap.size_push,e4]
 have e6:(z3f s.heap l m n).objs.size=s.heap.objs.size+6:=by rw [Heap.size_push,e5]
 have g6:(z3f s.heap l m n).get? (z3e s.heap l m n).objs.size=some _:=Heap.get?_push_size _ rfl
 have g5:(z3f s.heap l m n).get? (z3d s.heap l m n).objs.size=some _:=Heap.get?_push_of_some _ (Heap.get?_push_size _ rfl)
 have g4:(z3f s.heap l m n).get? (z3a (z3a (z3a s.heap l) m) n).objs.size=some _:=Heap.get?_push_of_some _ (Heap.get?_push_of_some _ (Heap.get?_push_size _ rfl))
 have g3:(z3f s.heap l m n).get? (z3a (z3a s.heap l) m).objs.size=some _:=Heap.get?_push_of_some _ (Heap.get?_push_of_some _ (Heap.get?_push_of_some _ (Heap.get?_push_size _ rfl)))
 have g2:(z3f s.heap l m n).get? (z3a s.heap l).objs.size=some _:=Heap.get?_push_of_some _ (Heap.get?_push_of_some _ (Heap.get?_push_of_some _ (Heap.get?_push_of_some _ (Heap.get?_push_size _ rfl))))
 have g1:(z3f s.heap l m n).get? s.heap.objs.size=some _:=Heap.get?_push_of_some _ (Heap.get?_push_of_some _ (Heap.get?_push_of_some _ (Heap.get?_push_of_some _ (Heap.get?_push_of_some _ (Heap.get?_push_size _ rfl)))))
 show _∧_
 rw [e3,e4,e5] at g6
 rw [e4] at g5
 rw [e1,e2,e3] at g4
 rw [e2] at g3
 rw [e1] at g2
 rw [e5]
 exact ⟨⟨_,g6,rfl⟩,h _ ⟨g6,g4,⟨_,_,_,g5⟩,⟨_,g1,rfl,rfl⟩,⟨_,g2,rfl,rfl⟩,⟨_,g3,rfl,rfl⟩⟩ e6 fun c o q =>
  Heap.get?_push_of_some _ (Heap.get?_push_of_some _ (Heap.get?_push_of_some _ (Heap.get?_push_of_some _ (Heap.get?_push_of_some _ (Heap.get?_push_of_some _ q)))))⟩
end
end L2
namespace L2
open PySem PySem.Spec PyProof.Rows
section
variable {prog:Program} {w:World} {A:Around} {E:Value→Shared→Prop} {s:Shared}
theorem alive_ {a:Addr} {o:Obj} {Q:Option Obj→Shared→Prop} (e:s.heap.get? a=some o) (h:Q (some o) s):wpAny (model prog w) A (loadIfAlive a) Q E s:=by
 intro Γ p hΓ
 unfold loadIfAlive
 rw [Sem.wp_loadIfAlive,e]
 exact h
theorem free_held {z t0 TI TO:Addr} {g:Bool} {ot:Obj} {Q:Bool→Shared→Prop} (hz:Zr s.heap z (rawInt t0) g TI TO) (ht:s.heap.get? t0=some ot)
  (h:∀ h',Zr h' z (rawInt t0) true TI TO→(∀ c o,c≠z→s.heap.get? c=some o→h'.get? c=some o)→h'.objs.size=s.heap.objs.size→Q false { s with heap:=h' }) :
  wpAny (model prog w) A (Builtin.SmallTypes.ownedTupleIsFree (.ref z)) Q E s:=by
 unfold Builtin.SmallTypes.ownedTupleIsFree
 refine wpAny_bind (wpAny_field hz rfl (x:=rawInt t0) rfl ?_)
 show wpAny _ _ (loadIfAlive ((t0:Int).toNat) >>= _) _ _ _
 rw [Int.toNat_natCast]
 refine wpAny_bind (alive_ ht ?_)
 simp only [Option.isNone_some,Bool.false_eq_true,if_false]
 refine wpAny_bind (wpAny_field hz rfl (x:=.bool g) rfl ?_)
 cases g with
 | true =>
  simp only [bne_self_eq_false,Bool.false_eq_true,if_false]
  exact wpAny_pure (h _ hz (fun _ _ _ q=>q) rfl)
 | false =>
  rw [if_pos (by decide)]
  refine wpAny_bind (wpAny_setField_rec hz (by simp) fun h1 hz1 sb=>wpAny_pure ?_)
  exact h h1 hz1 (fun c o q e=>(sb.2 c q).trans e) sb.1
theorem zip3_held {b l m n t0:Addr} {i:Nat} {g:Bool} {ot:Obj} {xs ys zs:Array Value} {x y v:Value} {Q:Option Value→Shared→Prop} (hz:ZS s.heap b l m n i (rawInt t0) g) (ht:s.heap.get? t0=some ot)
  (bl:l < b) (bm:m < b) (bn:n < b)
  (h1:s.heap.IsList l xs) (h2:s.heap.IsList m ys) (h3:s.heap.IsList n zs) (hx:xs[i]? = some x) (hy:ys[i]? = some y) (hv:zs[i]? = some v)
  (hQ:∀ h',ZS h' b l m n (i+1) (rawInt t0) true→Tr h' s.heap.objs.size x y v→(∀ c o,(c < b ∨ b+6≤c)→s.heap.get? c=some o→h'.get? c=some o)→Q (some (.ref s.heap.objs.size)) { s with heap:=h' }) :
  wpAny (model prog w) A (pyNext (.ref (b+5))) Q E s:=by
 obtain ⟨z,ti,⟨q1,q2,q3,to⟩,i1,i2,i3⟩:=hz
 have hT:s.TypeIs (.ref (b+5)) "zip":=⟨_,z,rfl⟩
 unfold pyNext
 refine wpAny_bind (wpAny_attempt (wpAny_callSpecial?_slot (name:=Str.ofString "__next__") hT F.slot_zip_next (wpAny_call_entry F.slot_zip_next hT F.entry_zip_next ?_ (F.args_zip_next_1 _))))
 show wpAny _ _ (field (.ref (b+5)) 2 >>= _) _ _ _
 refine wpAny_bind (wpAny_field z rfl (x:=.bool false) rfl ?_)
 show wpAny _ _ (field (.ref (b+5)) 3 >>= _) _ _ _
 refine wpAny_bind (wpAny_field z rfl (x:=.ref (b+3)) rfl ?_)
 refine wpAny_bind (wpAny_seqItems ti rfl ?_)
 show wpAny _ _ (Builtin.SmallTypes.ownedTupleIsFree (.ref (b+5)) >>= _) _ _ _
 refine wpAny_bind (free_held z ht fun h0 z0 k0 e0=>?_)
 simp only [Bool.false_eq_true,if_false]
 rw [←Array.forIn_toList]
 show wpAny _ _ (forIn [Value.ref b,Value.ref (b+1),Value.ref (b+2)] _ _ >>= _) _ _ _
 refine wpAny_bind ?_
 simp only [List.forIn_cons,List.forIn_nil]
 refine wpAny_bind (wpAny_bind (wpAny_holding ?_))
 show wpAny _ _ (Builtin.SmallTypes.nextOf (.ref b) >>= _) _ _ _
 have ne:∀ {x y:Nat},x≠y→(b+x:Nat)≠b+y:=fun q e=>q (Nat.add_left_cancel e)
 have lo:∀ {c:Nat} (k:Nat),c < b→c≠b+k:=fun k q=>Nat.ne_of_lt (Nat.lt_of_lt_of_le q (Nat.le_add_right b k))
 refine wpAny_bind (wpAny_nextOf_list_item (i1.at fun o e=>k0 _ o (ne (x:=0) (by decide)) e) (h1.at fun o e=>k0 _ o (lo 5 bl) e) hx fun ha ia sa=>wpAny_pure ?_)
 refine wpAny_pure ?_
 refine wpAny_bind (wpAny_bind (wpAny_holding ?_))
 show wpAny _ _ (Builtin.SmallTypes.nextOf (.ref (b+1)) >>= _) _ _ _
 have ka:∀ c o,c≠b+5→c≠b→s.heap.get? c=some o→ha.get? c=some o:=fun c o q q' e=>(sa.2 c q').trans (k0 c o q e)
 refine wpAny_bind (wpAny_nextOf_list_item (i2.at fun o e=>ka _ o (ne (by decide)) (ne (y:=0) (by decide)) e) (h2.at fun o e=>ka _ o (lo 5 bm) (Nat.ne_of_lt bm) e) hy fun hb ib sb=>wpAny_pure ?_)
 refine wpAny_pure ?_
 refine wpAny_bind (wpAny_bind (wpAny_holding ?_))
 show wpAny _ _ (Builtin.SmallTypes.nextOf (.ref (b+2)) >>= _) _ _ _
 have kb:∀ c o,c≠b+5→c≠b→c≠b+1→s.heap.get? c=some o→hb.get? c=some o:=fun c o q q' q'' e=>(sb.2 c q'').trans (ka c o q q' e)
 refine wpAny_bind (wpAny_nextOf_list_item (i3.at fun o e=>kb _ o (ne (by decide)) (ne (y:=0) (by decide)) (ne (by decide)) e) (h3.at fun o e=>kb _ o (lo 5 bn) (Nat.ne_of_lt bn) (lo 1 bn) e) hv fun hc ic sc=>wpAny_pure ?_)
 refine wpAny_pure (wpAny_pure ?_)
 show wpAny _ _ (newTuple [x,y,v] >>= fun t=>ret t) _ _ _
 refine wpAny_bind (wpAny_newTuple (wpAny_pure ⟨_,rfl,wpAny_pure ?_⟩))
 have kc:∀ c o,c≠b+5→c≠b→c≠b+1→c≠b+2→s.heap.get? c=some o→hc.get? c=some o:=fun c o q q' q'' q4 e=>(sc.2 c q4).trans (kb c o q q' q'' e)
 have sz:hc.objs.size=s.heap.objs.size:=by rw [sc.1,sb.1,sa.1]; exact e0
 show Q (some (.ref hc.objs.size)) _
 have up:∀ c o,hc.get? c=some o→(hc.push { cls:=.type "tuple",data:=.seq #[x,y,v] }).get? c=some o:=fun c o e=>Heap.get?_push_of_some _ e
 have tn:Tr (hc.push { cls:=.type "tuple",data:=.seq #[x,y,v] }) hc.objs.size x y v:=Heap.get?_push_size _ rfl
 rw [sz] at tn ⊢
 refine hQ _ ⟨up _ _ ?_,up _ _ (kc _ _ (ne (by decide)) (ne (y:=0) (by decide)) (ne (by decide)) (ne (by decide)) ti),⟨q1,q2,q3,up _ _ (kc _ _ (ne (by decide)) (ne (y:=0) (by decide)) (ne (by decide)) (ne (by decide)) to)⟩,?_,?_,ic.at fun o e=>up _ o e⟩ tn fun c o lc e=>up _ _ (kc _ _ ?_ ?_ ?_ ?_ e)
 ·exact (sc.2 _ (ne (by decide))).trans ((sb.2 _ (ne (by decide))).trans ((sa.2 _ (ne (y:=0) (by decide))).trans z0))
 ·exact ia.at fun o e=>up _ o ((sc.2 _ (ne (x:=0) (by decide))).trans ((sb.2 _ (ne (x:=0) (by decide))).trans e))
 ·exact ib.at fun o e=>up _ o ((sc.2 _ (ne (by decide))).trans e)
 all_goals
  rcases lc with lc | lc
  ·first | exact lo 5 lc | exact Nat.ne_of_lt lc | exact lo 1 lc | exact lo 2 lc
  ·first
    | exact Nat.ne_of_gt (Nat.lt_of_lt_of_le (Nat.add_lt_add_left (by decide) b) lc)
    | exact Nat.ne_of_gt (Nat.lt_of_lt_of_le (Nat.lt_add_of_pos_right (by decide)) lc)
theorem put_tr {t:Addr} {a b c x:Value} {k:Nat} {Q:Unit→Shared→Prop} (ht:Tr s.heap t a b c)
  (h:∀ h',h'.get? t=some { cls:=.type "tuple",data:=.seq ((#[a,b,c]:Array Value).setIfInBounds k x) }→Heap.SameBut t s.heap h'→Q () { s with heap:=h' }) :
  wpAny (model prog w) A (updateSeq t (·.setIfInBounds k x)) Q E s:=by
 refine wpAny_updateSeq ht rfl (h _ ?_ (Heap.SameBut.update ..))
 rw [Heap.get?_update_self _ ht rfl]
 simp [Obj.mapSeq]
theorem zip3_free {b l m n:Addr} {i:Nat} {g:Bool} {xs ys zs:Array Value} {x y v:Value} {Q:Option Value→Shared→Prop} (hz:ZS s.heap b l m n i .none g) (gf:g=false)
  (bl:l < b) (bm:m < b) (bn:n < b)
  (h1:s.heap.IsList l xs) (h2:s.heap.IsList m ys) (h3:s.heap.IsList n zs) (hx:xs[i]? = some x) (hy:ys[i]? = some y) (hv:zs[i]? = some v)
  (hQ:∀ h',ZS h' b l m n (i+1) (rawInt s.heap.objs.size) false→Tr h' s.heap.objs.size x y v→(∀ c o,(c < b ∨ b+6≤c)→s.heap.get? c=some o→h'.get? c=some o)→Q (some (.ref s.heap.objs.size)) { s with heap:=h' }) :
  wpAny (model prog w) A (pyNext (.ref (b+5))) Q E s:=by
 subst gf
 have ne:∀ {x y:Nat},x≠y→(b+x:Nat)≠b+y:=fun q e=>q (Nat.add_left_cancel e)
 have lo:∀ {c:Nat} (k:Nat),c < b→c≠b+k:=fun k q=>Nat.ne_of_lt (Nat.lt_of_lt_of_le q (Nat.le_add_right b k))
 obtain ⟨z,ti,⟨q1,q2,q3,to⟩,i1,i2,i3⟩:=hz
 have hT:s.TypeIs (.ref (b+5)) "zip":=⟨_,z,rfl⟩
 unfold pyNext
 refine wpAny_bind (wpAny_attempt (wpAny_callSpecial?_slot (name:=Str.ofString "__next__") hT F.slot_zip_next (wpAny_call_entry F.slot_zip_next hT F.entry_zip_next ?_ (F.args_zip_next_1 _))))
 show wpAny _ _ (field (.ref (b+5)) 2 >>= _) _ _ _
 refine wpAny_bind (wpAny_field z rfl (x:=.bool false) rfl ?_)
 show wpAny _ _ (field (.ref (b+5)) 3 >>= _) _ _ _
 refine wpAny_bind (wpAny_field z rfl (x:=.ref (b+3)) rfl ?_)
 refine wpAny_bind (wpAny_seqItems ti rfl ?_)
 show wpAny _ _ (Builtin.SmallTypes.ownedTupleIsFree (.ref (b+5)) >>= _) _ _ _
 refine wpAny_bind ?_
 unfold Builtin.SmallTypes.ownedTupleIsFree
 refine wpAny_bind (wpAny_field z rfl (x:=.none) rfl (wpAny_pure ?_))
 simp only [if_true]
 refine wpAny_bind (wpAny_rule ?_)
 refine wpAny_bind (wpAny_field z rfl (x:=.ref (b+4)) rfl ?_)
 refine wpAny_bind (wpAny_setField_rec z (by simp) fun h0 z0 s0=>?_)
 replace z0:Zr h0 (b+5) .ellipsis false (b+3) (b+4):=z0
 refine wpAny_bind ?_
 simp only [List.zipIdx_cons,List.zipIdx_nil,List.forIn_cons,List.forIn_nil]
 have k0:∀ c o,c≠b+5→s.heap.get? c=some o→h0.get? c=some o:=fun c o q e=>(s0.2 c q).trans e
 refine wpAny_bind (wpAny_bind (wpAny_onRaise ?_))
 show wpAny _ _ (Builtin.SmallTypes.nextOf (.ref b) >>= _) _ _ _
 refine wpAny_bind (wpAny_nextOf_list_item (i1.at fun o e=>k0 _ o (ne (x:=0) (by decide)) e) (h1.at fun o e=>k0 _ o (lo 5 bl) e) hx fun ha ia sa=>wpAny_pure ?_)
 have ta:Tr ha (b+4) q1 q2 q3:=(sa.2 _ (ne (y:=0) (by decide))).trans (k0 _ _ (ne (by decide)) to)
 refine wpAny_bind (wpAny_seqItems ta rfl ?_)
 refine wpAny_bind (put_tr ta fun hb tb sb=>?_)
 replace tb:Tr hb (b+4) x q2 q3:=tb
 refine wpAny_bind (wpAny_letGo (wpAny_pure ?_))
 have kb:∀ c o,c≠b+5→c≠b→c≠b+4→s.heap.get? c=some o→hb.get? c=some o:=fun c o p1 p2 p3 e=>(sb.2 c p3).trans ((sa.2 c p2).trans (k0 c o p1 e))
 refine wpAny_bind (wpAny_bind (wpAny_onRaise ?_))
 show wpAny _ _ (Builtin.SmallTypes.nextOf (.ref (b+1)) >>= _) _ _ _
 refine wpAny_bind (wpAny_nextOf_list_item (i2.at fun o e=>kb _ o (ne (by decide)) (ne (y:=0) (by decide)) (ne (by decide)) e) (h2.at fun o e=>kb _ o (lo 5 bm) (Nat.ne_of_lt bm) (lo 4 bm) e) hy fun hc ic sc=>wpAny_pure ?_)
 have tc:Tr hc (b+4) x q2 q3:=(sc.2 _ (ne (by decide))).trans tb
 refine wpAny_bind (wpAny_seqItems tc rfl ?_)
 refine wpAny_bind (put_tr tc fun hd td sd=>?_)
 replace td:Tr hd (b+4) x y q3:=td
 refine wpAny_bind (wpAny_letGo (wpAny_pure ?_))
 have kd:∀ c o,c≠b+5→c≠b→c≠b+4→c≠b+1→s.heap.get? c=some o→hd.get? c=some o:=fun c o p1 p2 p3 p4 e=>(sd.2 c p3).trans ((sc.2 c p4).trans (kb c o p1 p2 p3 e))
 refine wpAny_bind (wpAny_bind (wpAny_onRaise ?_))
 show wpAny _ _ (Builtin.SmallTypes.nextOf (.ref (b+2)) >>= _) _ _ _
 refine wpAny_bind (wpAny_nextOf_list_item (i3.at fun o e=>kd _ o (ne (by decide)) (ne (y:=0) (by decide)) (ne (by decide)) (ne (by decide)) e) (h3.at fun o e=>kd _ o (lo 5 bn) (Nat.ne_of_lt bn) (lo 4 bn) (lo 1 bn) e) hv fun he ie se=>wpAny_pure ?_)
 have te:Tr he (b+4) x y q3:=(se.2 _ (ne (by decide))).trans td
 refine wpAny_bind (wpAny_seqItems te rfl ?_)
 refine wpAny_bind (put_tr te fun hf tf sf=>?_)
 replace tf:Tr hf (b+4) x y v:=tf
 refine wpAny_bind (wpAny_letGo (wpAny_pure (wpAny_pure ?_)))
 have kf:∀ c o,c≠b+5→c≠b→c≠b+4→c≠b+1→c≠b+2→s.heap.get? c=some o→hf.get? c=some o:=fun c o p1 p2 p3 p4 p5 e=>(sf.2 c p3).trans ((se.2 c p5).trans (kd c o p1 p2 p3 p4 e))
 have sz:hf.objs.size=s.heap.objs.size:=by rw [sf.1,se.1,sd.1,sc.1,sb.1,sa.1,s0.1]
 refine wpAny_bind (wpAny_seqItems tf rfl ?_)
 refine wpAny_bind (wpAny_newTuple ?_)
 have zf:Zr hf (b+5) .ellipsis false (b+3) (b+4) :=
  (sf.2 _ (ne (by decide))).trans ((se.2 _ (ne (by decide))).trans ((sd.2 _ (ne (by decide))).trans ((sc.2 _ (ne (by decide))).trans ((sb.2 _ (ne (by decide))).trans ((sa.2 _ (ne (y:=0) (by decide))).trans z0)))))
 show wpAny _ _ (Builtin.SmallTypes.ownedTupleHandOut (.ref (b+5)) (.ref hf.objs.size) >>= _) _ _ _
 refine wpAny_bind ?_
 unfold Builtin.SmallTypes.ownedTupleHandOut
 have zg:Zr (hf.push { cls:=.type "tuple",data:=.seq #[x,y,v] }) (b+5) .ellipsis false (b+3) (b+4):=Heap.get?_push_of_some _ zf
 refine wpAny_bind (wpAny_setField_rec zg (by simp) fun hg zg sg=>?_)
 replace zg:Zr hg (b+5) (rawInt hf.objs.size) false (b+3) (b+4):=zg
 refine wpAny_setField_rec zg (by simp) fun hh zh sh=>?_
 replace zh:Zr hh (b+5) (rawInt hf.objs.size) false (b+3) (b+4):=zh
 have lt5:b+5 < hf.objs.size:=Heap.lt_size zf
 have up:∀ c o,c≠b+5→hf.get? c=some o→hh.get? c=some o:=fun c o q e=>(sh.2 c q).trans ((sg.2 c q).trans (Heap.get?_push_of_some _ e))
 have tn:Tr hh hf.objs.size x y v:=(sh.2 _ (Nat.ne_of_gt lt5)).trans ((sg.2 _ (Nat.ne_of_gt lt5)).trans (Heap.get?_push_size _ rfl))
 refine wpAny_pure ⟨_,rfl,wpAny_pure ?_⟩
 show Q (some (.ref hf.objs.size)) _
 rw [sz] at tn zh ⊢
 refine hQ _ ⟨zh,up _ _ (ne (by decide)) (kf _ _ (ne (by decide)) (ne (y:=0) (by decide)) (ne (by decide)) (ne (by decide)) (ne (by decide)) ti),⟨x,y,v,up _ _ (ne (by decide)) tf⟩,?_,?_,?_⟩ tn fun c o lc e=>up _ _ ?_ (kf _ _ ?_ ?_ ?_ ?_ ?_ e)
 ·exact ia.at fun o e=>up _ o (ne (x:=0) (by decide)) ((sf.2 _ (ne (x:=0) (by decide))).trans ((se.2 _ (ne (x:=0) (by decide))).trans ((sd.2 _ (ne (x:=0) (by decide))).trans ((sc.2 _ (ne (x:=0) (by decide))).trans ((sb.2 _ (ne (x:=0) (by decide))).trans e)))))
 ·exact ic.at fun o e=>up _ o (ne (by decide)) ((sf.2 _ (ne (by decide))).trans ((se.2 _ (ne (by decide))).trans ((sd.2 _ (ne (by decide))).trans e)))
 ·exact ie.at fun o e=>up _ o (ne (by decide)) ((sf.2 _ (ne (by decide))).trans e)
 all_goals
  rcases lc with lc | lc
  ·first | exact lo 5 lc | exact Nat.ne_of_lt lc | exact lo 1 lc | exact lo 2 lc | exact lo 4 lc
  ·first
    | exact Nat.ne_of_gt (Nat.lt_of_lt_of_le (Nat.add_lt_add_left (by decide) b) lc)
    | exact Nat.ne_of_gt (Nat.lt_of_lt_of_le (Nat.lt_add_of_pos_right (by decide)) lc)
end
end L2
namespace L2
open PySem PySem.Spec PyProof.Rows
section
variable {prog:Program} {w:World} {A:Around} {E:Value→Shared→Prop} {s:Shared}
theorem zip3_end {b l m n:Addr} {i:Nat} {f:Value} {g:Bool} {xs:Array Value} {Q:Option Value→Shared→Prop} (hh:A.handled=none) (hz:ZS s.heap b l m n i f g) (hf:(f=.none∧g=false) ∨ ∃ (t0:Addr) (ot:Obj),f=rawInt t0∧s.heap.get? t0=some ot)
  (bl:l < b) (h1:s.heap.IsList l xs) (hx:xs[i]? = none)
  (hQ:∀ h',(∀ c o,(c < b ∨ b+6≤c)→s.heap.get? c=some o→h'.get? c=some o)→Q none { s with heap:=h' }) :
  wpAny (model prog w) A (pyNext (.ref (b+5))) Q E s:=by
 have ne:∀ {x y:Nat},x≠y→(b+x:Nat)≠b+y:=fun q e=>q (Nat.add_left_cancel e)
 have lo:∀ {c:Nat} (k:Nat),c < b→c≠b+k:=fun k q=>Nat.ne_of_lt (Nat.lt_of_lt_of_le q (Nat.le_add_right b k))
 have far:∀ {c:Nat} (k:Nat),k < 6→c < b ∨ b+6≤c→c≠b+k:=fun k hk q=>q.elim (lo k) fun q=>Nat.ne_of_gt (Nat.lt_of_lt_of_le (Nat.add_lt_add_left hk b) q)
 obtain ⟨z,ti,⟨q1,q2,q3,to⟩,i1,i2,i3⟩:=hz
 have hT:s.TypeIs (.ref (b+5)) "zip":=⟨_,z,rfl⟩
 unfold pyNext
 refine wpAny_bind (wpAny_attempt (wpAny_callSpecial?_slot (name:=Str.ofString "__next__") hT F.slot_zip_next (wpAny_call_entry F.slot_zip_next hT F.entry_zip_next ?_ (F.args_zip_next_1 _))))
 have fin:∀ {h':Heap} {e:Addr},(∃ o,h'.get? e=some o∧o.cls=.type "StopIteration")→(∀ c o,(c < b ∨ b+6≤c)→s.heap.get? c=some o→h'.get? c=some o) →
   wpAny (model prog w) A (do if ← isInstance (.ref e) (.type "StopIteration") then pure none else throw (.ref e)) Q E { s with heap:=h' }:=by
  intro h' e ⟨o,he,hc⟩ hk
  refine wpAny_bind (wpAny_isInstance (T:="StopIteration") (b:=true) ⟨o,he,hc⟩ isSubtype_stop ?_)
  exact wpAny_pure (hQ _ hk)
 show wpAny _ _ (field (.ref (b+5)) 2 >>= _) _ _ _
 refine wpAny_bind (wpAny_field z rfl (x:=.bool false) rfl ?_)
 show wpAny _ _ (field (.ref (b+5)) 3 >>= _) _ _ _
 refine wpAny_bind (wpAny_field z rfl (x:=.ref (b+3)) rfl ?_)
 refine wpAny_bind (wpAny_seqItems ti rfl ?_)
 show wpAny _ _ (Builtin.SmallTypes.ownedTupleIsFree (.ref (b+5)) >>= _) _ _ _
 rcases hf with ⟨rfl,rfl⟩ | ⟨t0,ot,rfl,ht⟩
 ·refine wpAny_bind ?_
  unfold Builtin.SmallTypes.ownedTupleIsFree
  refine wpAny_bind (wpAny_field z rfl (x:=.none) rfl (wpAny_pure ?_))
  simp only [if_true]
  refine wpAny_bind (wpAny_rule ?_)
  refine wpAny_bind (wpAny_field z rfl (x:=.ref (b+4)) rfl ?_)
  refine wpAny_bind (wpAny_setField_rec z (by simp) fun h0 z0 s0=>?_)
  replace z0:Zr h0 (b+5) .ellipsis false (b+3) (b+4):=z0
  refine wpAny_bind ?_
  simp only [List.zipIdx_cons,List.zipIdx_nil,List.forIn_cons,List.forIn_nil]
  refine wpAny_bind (wpAny_bind (wpAny_onRaise ?_))
  show wpAny _ _ (Builtin.SmallTypes.nextOf (.ref b) >>= _) _ _ _
  refine wpAny_bind (wpAny_nextOf_list_end hh (i1.at fun o e=>(s0.2 _ (ne (x:=0) (by decide))).trans e) (h1.at fun o e=>(s0.2 _ (lo 5 bl)).trans e) hx fun ha e sa he=>?_)
  obtain ⟨oe,he1,he2⟩:=he
  have za:Zr ha (b+5) .ellipsis false (b+3) (b+4):=sa _ _ (ne (y:=0) (by decide)) z0
  have nez:e≠b+5:=fun q=>by subst q; rw [za] at he1; cases he1; simp at he2
  refine wpAny_setField_rec za (by simp) fun hb zb sb=>?_
  exact fin ⟨oe,(sb.2 _ nez).trans he1,he2⟩ fun c o q e=>(sb.2 _ (far 5 (by decide) q)).trans (sa _ _ (far 0 (by decide) q) ((s0.2 _ (far 5 (by decide) q)).trans e))
 ·refine wpAny_bind (free_held z ht fun h0 z0 k0 e0=>?_)
  simp only [Bool.false_eq_true,if_false]
  rw [←Array.forIn_toList]
  show wpAny _ _ (forIn [Value.ref b,Value.ref (b+1),Value.ref (b+2)] _ _ >>= _) _ _ _
  refine wpAny_bind ?_
  simp only [List.forIn_cons,List.forIn_nil]
  refine wpAny_bind (wpAny_bind (wpAny_holding ?_))
  show wpAny _ _ (Builtin.SmallTypes.nextOf (.ref b) >>= _) _ _ _
  refine wpAny_bind (wpAny_nextOf_list_end hh (i1.at fun o e=>k0 _ o (ne (x:=0) (by decide)) e) (h1.at fun o e=>k0 _ o (lo 5 bl) e) hx fun ha e sa he=>?_)
  exact fin he fun c o q e=>sa _ _ (far 0 (by decide) q) (k0 _ _ (far 5 (by decide) q) e)
theorem zip_no_len:typeLookup (.type "zip") "__len__" = pure none:=by rw [typeLookup_type,builtinLookup_eq_fast]; kernel_rfl
theorem zip_no_hint:typeLookup (.type "zip") "__length_hint__" = pure none:=by rw [typeLookup_type,builtinLookup_eq_fast]; kernel_rfl
theorem zip3_hint {z:Addr} {Q:Bool→Shared→Prop} (ty:s.TypeIs (.ref z) "zip") (k:∀ b tk,Q b { s with toks:=tk }):wpAny (model prog w) A (Builtin.List.listLengthHint (.ref z)) Q E s:=by
 unfold Builtin.List.listLengthHint
 refine wpAny_bind (wpAny_specialOf ty zip_no_len ?_)
 show wpAny _ _ (specialOf (Value.ref z) (Str.ofString "__length_hint__") >>= _) _ _ _
 refine wpAny_bind (wpAny_specialOf ty zip_no_hint ?_)
 exact wpAny_pure (k true s.toks)
theorem zip3_iter {z TI TO:Addr} {f:Value} {g:Bool} {Q:Value→Shared→Prop} (hz:Zr s.heap z f g TI TO) (h:Q (.ref z) s):wpAny (model prog w) A (pyIter (.ref z)) Q E s:=by
 have ty:s.TypeIs (.ref z) "zip":=⟨_,hz,rfl⟩
 refine wpAny_pyIter_slot ty F.slot_zip_iter (wpAny_call_entry F.slot_zip_iter ty F.entry_zip_iter ?_ (F.args_zip_iter_1 _))
 show wpAny _ _ (ret (.ref z)) _ _ s
 exact wpAny_pure ⟨_,rfl,"zip",_,ty,F.slot_zip_next.lookup,h⟩
end
end L2
namespace L2
open PySem PySem.Spec PyProof.Rows
def Hands (b:Nat) (xs ys zs:Array Value) (Ts:List Addr) (h:Heap):Prop :=
 Ts.Nodup∧∀ (j:Nat) (t:Addr),Ts[j]? = some t→b+7≤t∧∃ x y v,xs[j]? = some x∧ys[j]? = some y∧zs[j]? = some v∧Tr h t x y v
def Z3St (h0:Heap) (b:Nat) (l m n:Addr) (xs ys zs:Array Value) (acc:List Value) (h:Heap):Prop :=
 ∃ f g Ts,acc=Ts.map Value.ref∧ZS h b l m n Ts.length f g∧((f=.none∧g=false) ∨ ∃ t0:Addr,f=rawInt t0∧t0 ∈ Ts)∧(∀ c o,h0.get? c=some o→h.get? c=some o)∧Hands b xs ys zs Ts h
def Z3En (h0:Heap) (b:Nat) (xs ys zs:Array Value) (acc:List Value) (h:Heap):Prop :=
 ∃ Ts,acc=Ts.map Value.ref∧(∀ c o,h0.get? c=some o→h.get? c=some o)∧Hands b xs ys zs Ts h
theorem Hands.stay {b:Nat} {xs ys zs:Array Value} {Ts:List Addr} {h h':Heap} (q:Hands b xs ys zs Ts h) (k:∀ c o,b+7≤c→h.get? c=some o→h'.get? c=some o):Hands b xs ys zs Ts h' :=
 ⟨q.1,fun j t e=>by
  obtain ⟨p1,x,y,v,p2,p3,p4,p5⟩:=q.2 j t e
  exact ⟨p1,x,y,v,p2,p3,p4,k _ _ p1 p5⟩⟩
section
variable {prog:Program} {w:World} {A:Around}
theorem zip3_feed {h0:Heap} {l m n:Addr} {xs ys zs:Array Value} (hh:A.handled=none) (h1:h0.IsList l xs) (h2:h0.IsList m ys) (h3:h0.IsList n zs) (e1:ys.size=xs.size) (e2:zs.size=xs.size) :
  Feed prog w A (h0.objs.size+6) (h0.objs.size+5) xs.size (Z3St h0 h0.objs.size l m n xs ys zs) (Z3En h0 h0.objs.size xs ys zs):=by
 have bl:l < h0.objs.size:=by obtain ⟨_,e,_⟩:=h1; exact Heap.lt_size e
 have bm:m < h0.objs.size:=by obtain ⟨_,e,_⟩:=h2; exact Heap.lt_size e
 have bn:n < h0.objs.size:=by obtain ⟨_,e,_⟩:=h3; exact Heap.lt_size e
 generalize hb:h0.objs.size=b at bl bm bn ⊢
 have old6:∀ {c:Nat} {o:Obj},h0.get? c=some o→c < b:=fun e=>hb ▸ Heap.lt_size e
 have neS:∀ {k:Nat},k < 6→(b+k:Nat)≠b+6:=fun q e=>Nat.ne_of_lt q (Nat.add_left_cancel e)
 have lo6:∀ {c:Nat},c < b→c≠b+6:=fun q=>Nat.ne_of_lt (Nat.lt_of_lt_of_le q (Nat.le_add_right b 6))
 have hi6:∀ {c:Nat},b+7≤c→c≠b+6:=fun q=>Nat.ne_of_gt (Nat.lt_of_lt_of_le (Nat.add_lt_add_left (by decide) b) q)
 refine ⟨?_,?_,?_⟩
 ·rintro acc h h' ⟨f,g,Ts,ea,⟨z,ti,⟨q1,q2,q3,to⟩,i1,i2,i3⟩,hf,old,hd⟩ k
  refine ⟨f,g,Ts,ea,⟨k _ _ (neS (by decide)) z,k _ _ (neS (by decide)) ti,⟨q1,q2,q3,k _ _ (neS (by decide)) to⟩,i1.at fun o e=>k _ o (neS (k:=0) (by decide)) e,i2.at fun o e=>k _ o (neS (by decide)) e,i3.at fun o e=>k _ o (neS (by decide)) e⟩,hf,fun c o e=>k c o (lo6 (old6 e)) (old c o e),hd.stay fun c o q e=>k c o (hi6 q) e⟩
 ·rintro s acc Q E lt ⟨oS,eS⟩ ⟨f,g,Ts,ea,hz,hf,old,hd⟩ k
  have el:acc.length=Ts.length:=by rw [ea,List.length_map]
  rw [el] at lt
  have x1:xs[Ts.length]? = some (xs[Ts.length]'lt):=Array.getElem?_eq_getElem lt
  have y1:ys[Ts.length]? = some (ys[Ts.length]'(by omega)):=Array.getElem?_eq_getElem (by omega)
  have v1:zs[Ts.length]? = some (zs[Ts.length]'(by omega)):=Array.getElem?_eq_getElem (by omega)
  have k1:s.heap.IsList l xs:=h1.at fun o e=>old _ o e
  have k2:s.heap.IsList m ys:=h2.at fun o e=>old _ o e
  have k3:s.heap.IsList n zs:=h3.at fun o e=>old _ o e
  have lS:b+6 < s.heap.objs.size:=Heap.lt_size eS
  have tnew:∀ t ∈ Ts,t < s.heap.objs.size:=fun t ht=>by
   obtain ⟨j,hj⟩:=List.mem_iff_getElem?.mp ht
   obtain ⟨_,_,_,_,_,_,_,q⟩:=hd.2 j t hj
   exact Heap.lt_size q
  have next:∀ {h':Heap} {f':Value} {g':Bool} (tk:Nat),ZS h' b l m n (Ts.length+1) f' g'→(∃ t0:Addr,f'=rawInt t0∧t0 ∈ Ts++[s.heap.objs.size])→Tr h' s.heap.objs.size (xs[Ts.length]'lt) (ys[Ts.length]'(by omega)) (zs[Ts.length]'(by omega)) →
    (∀ c o,(c < b ∨ b+6≤c)→s.heap.get? c=some o→h'.get? c=some o)→Q (some (.ref s.heap.objs.size)) { s with heap:=h',toks:=tk }:=by
   intro h' f' g' tk z' f1 tn kk
   refine k _ h' tk ⟨f',g',Ts++[s.heap.objs.size],by rw [ea,List.map_append]; rfl,by rw [List.length_append,List.length_singleton]; exact z',.inr f1,fun c o e=>kk c o (.inl (old6 e)) (old c o e),?_,?_⟩ fun o e=>kk _ o (.inr (Nat.le_refl _)) e
   ·rw [List.nodup_append]
    refine ⟨hd.1,by simp,fun p hp q hq e=>?_⟩
    rw [List.mem_singleton] at hq
    exact Nat.lt_irrefl _ (hq ▸ e ▸ tnew p hp)
   ·intro j t e
    rcases Nat.lt_or_ge j Ts.length with lj | lj
    ·rw [List.getElem?_append_left lj] at e
     obtain ⟨p1,x,y,v,p2,p3,p4,p5⟩:=hd.2 j t e
     exact ⟨p1,x,y,v,p2,p3,p4,kk _ _ (.inr (Nat.le_of_succ_le p1)) p5⟩
    ·rw [List.getElem?_append_right lj] at e
     rcases Nat.lt_or_ge j (Ts.length+1) with lj' | lj'
     ·obtain rfl:j=Ts.length:=by omega
      rw [Nat.sub_self] at e
      cases e
      exact ⟨lS,_,_,_,x1,y1,v1,tn⟩
     ·rw [List.getElem?_eq_none (by rw [List.length_singleton]; omega)] at e
      cases e
  rcases hf with ⟨rfl,rfl⟩ | ⟨t0,rfl,ht0⟩
  ·exact zip3_free hz rfl bl bm bn k1 k2 k3 x1 y1 v1 fun h' z' tn kk=>next s.toks z' ⟨_,rfl,by simp⟩ tn kk
  ·obtain ⟨j,hj⟩:=List.mem_iff_getElem?.mp ht0
   obtain ⟨_,_,_,_,_,_,_,q⟩:=hd.2 j t0 hj
   exact zip3_held hz q bl bm bn k1 k2 k3 x1 y1 v1 fun h' z' tn kk=>next s.toks z' ⟨t0,rfl,List.mem_append_left _ ht0⟩ tn kk
 ·rintro s acc Q E lt ⟨f,g,Ts,ea,hz,hf,old,hd⟩ k
  have el:acc.length=Ts.length:=by rw [ea,List.length_map]
  rw [el] at lt
  refine zip3_end hh hz ?_ bl (h1.at fun o e=>old _ o e) (Array.getElem?_eq_none (by omega)) fun h' kk=>?_
  ·rcases hf with q | ⟨t0,q,ht0⟩
   ·exact .inl q
   ·obtain ⟨j,hj⟩:=List.mem_iff_getElem?.mp ht0
    obtain ⟨_,_,_,_,_,_,_,q'⟩:=hd.2 j t0 hj
    exact .inr ⟨t0,_,q,q'⟩
  ·exact k h' s.toks ⟨Ts,ea,fun c o e=>kk c o (.inl (old6 e)) (old c o e),hd.stay fun c o q e=>kk c o (.inr (Nat.le_of_succ_le q)) e⟩ fun o e=>kk _ o (.inr (Nat.le_refl _)) e
end
end L2
namespace L2
open PySem PySem.Spec PyProof.Rows
section
variable {X:Cx} {pins:List (Addr × Obj)} {σ:St} {H H':Hp} {s:Shared} {h':Heap}
theorem Inv.many {t':Nat} (I:Inv X pins σ H s) (old:∀ b u,s.heap.get? b=some u→h'.get? b=some u) (ag:∀ b,b < s.heap.objs.size→H' b=H b)
  (new:∀ b o,s.heap.objs.size≤b→H' b=some o→ObjOk X.prog X.w H' h' b o):Inv X pins σ H' { s with heap:=h',toks:=t' }:=by
 have ag':∀ b o,H b=some o→H' b=some o:=fun b o e=>(ag b (I.hok.lt e)).trans e
 refine I.un ⟨fun b u q _ _ _=>old b u q,fun b u q _ _ _=>⟨u.slots,old b u q⟩,fun b u q e _=>(ag b (Heap.lt_size q)).trans e,fun b u q _=>⟨u,old b u q⟩,fun b xs q=>ag' b _ q,fun b u v q=>ag' b _ q,fun b ps q=>⟨#[],by rw [ag' b _ q]; simp⟩⟩ ?_
 intro b o e
 rcases Nat.lt_or_ge b s.heap.objs.size with lt | ge
 ·rw [ag b lt] at e
  exact (I.hok b o e).stay (fun c v _ q=>old c v q) (fun c q=>ag' c _ q) fun c xs q=>ag' c _ q
 ·exact new b o ge e
end
structure Rows3 (H H':Hp) (S:Addr) (Ts:List Addr) (rows:List (List V)):Prop where
 s:H' S=some (.lst (Ts.map V.ref))
 len:Ts.length=rows.length
 row:∀ (j:Nat) (t:Addr) (r:List V),Ts[j]? = some t→rows[j]? = some r→H' t=some (.tup r)
 oth:∀ b,b≠S→b ∉ Ts→H' b=H b
 newS:H S=none
 newT:∀ t ∈ Ts,H t=none
 nd:(S :: Ts).Nodup
def rows3:List V→List V→List V→List (List V)
 | x :: xs,y :: ys,z :: zs=>[x,y,z] :: rows3 xs ys zs
 | _,_,_=>[]
theorem rows3_len:∀ (xs ys zs:List V),ys.length=xs.length→zs.length=xs.length→(rows3 xs ys zs).length=xs.length
 | [],_,_,_,_=>rfl
 | _ :: _,[],_,h,_=>by simp at h
 | _ :: _,_ :: _,[],_,h=>by simp at h
 | _ :: xs,_ :: ys,_ :: zs,h,h'=>by
  simp only [List.length_cons,Nat.add_right_cancel_iff] at h h'
  simp only [rows3,List.length_cons,rows3_len xs ys zs h h']
theorem rows3_get:∀ (xs ys zs:List V) (j:Nat) (x y z:V),xs[j]? = some x→ys[j]? = some y→zs[j]? = some z→(rows3 xs ys zs)[j]? = some [x,y,z]
 | x :: xs,y :: ys,z :: zs,0,_,_,_,h1,h2,h3=>by
  cases h1; cases h2; cases h3
  rfl
 | x :: xs,y :: ys,z :: zs,j+1,_,_,_,h1,h2,h3=>by
  simpa [rows3] using rows3_get xs ys zs j _ _ _ (by simpa using h1) (by simpa using h2) (by simpa using h3)
 | [],_,_,_,_,_,_,h,_,_=>by simp at h
 | _ :: _,[],_,_,_,_,_,_,h,_=>by simp at h
 | _ :: _,_ :: _,[],_,_,_,_,_,_,h=>by simp at h
open Classical in
noncomputable def zH (H:Hp) (S:Addr) (Ts:List Addr) (rows:List (List V)):Hp:=fun b =>
 if b=S then some (.lst (Ts.map V.ref)) else if h:∃ (j:Nat) (r:List V),Ts[j]? = some b∧rows[j]? = some r then some (.tup h.choose_spec.choose) else H b
theorem zH_row {H:Hp} {S:Addr} {Ts:List Addr} {rows:List (List V)} (nd:(S :: Ts).Nodup) {j:Nat} {t:Addr} {r:List V} (e:Ts[j]? = some t) (er:rows[j]? = some r):zH H S Ts rows t=some (.tup r):=by
 have nd':=List.nodup_cons.mp nd
 have nS:t≠S:=fun q=>nd'.1 (q ▸ List.mem_of_getElem? e)
 have hex:∃ (j:Nat) (r:List V),Ts[j]? = some t∧rows[j]? = some r:=⟨j,r,e,er⟩
 unfold zH
 rw [if_neg nS,dif_pos hex]
 obtain ⟨p1,p2⟩:=hex.choose_spec.choose_spec
 have:hex.choose=j:=(List.getElem?_inj (List.getElem?_eq_some_iff.mp p1).1 nd'.2).mp (p1.trans e.symm)
 have er':rows[hex.choose]? = some r:=by rw [this]; exact er
 exact congrArg (fun z=>some (HO.tup z)) (Option.some.inj (p2.symm.trans er'))
theorem zH_oth {H:Hp} {S:Addr} {Ts:List Addr} {rows:List (List V)} {b:Addr} (h1:b≠S) (h2:b ∉ Ts):zH H S Ts rows b=H b:=by
 unfold zH
 rw [if_neg h1,dif_neg]
 rintro ⟨j,r,e,_⟩
 exact h2 (List.mem_of_getElem? e)
theorem zH_S {H:Hp} {S:Addr} {Ts:List Addr} {rows:List (List V)}:zH H S Ts rows S=some (.lst (Ts.map V.ref)):=by
 unfold zH
 rw [if_pos rfl]
section
variable {X:Cx}
def tLZ (K:PySem.W.Frag) (ta:TA):TE:=fun σ H Q=>ta σ H fun vs H1=>∃ a b c xs ys zs,vs=[.ref a,.ref b,.ref c]∧SqL K H1 a xs∧SqL K H1 b ys∧SqL K H1 c zs∧ys.length=xs.length∧zs.length=xs.length ∧
 ∀ S Ts H',Rows3 H1 H' S Ts (rows3 xs ys zs)→Q (.ref S) H'
theorem boot_lst:bootBuiltins "list" = some (.type "list"):=by decide +kernel
theorem pe_listZip3 {a b c:Expr} {ta:TA} {p p' pos pos':Pos} (hc:X.calm=true) (hg:Gl X "zip") (hm:X.mg "zip" = none) (hg':Gl X "list") (hm':X.mg "list" = none) (ha:PA X [a,b,c] ta)
  (hs:starEach [a,b,c] X.env=(false,eval a X.env) :: starEach [b,c] X.env:=by rfl) (hpl:(backTo pos (starEach [b,c] X.env)).any (·.1)=false:=by rfl)
  (hs2:starEach [Expr.Call (.Name "zip" p) [a,b,c] [] pos] X.env=[(false,eval (.Call (.Name "zip" p) [a,b,c] [] pos) X.env)]:=by rfl) :
  PE X (.Call (.Name "list" p') [.Call (.Name "zip" p) [a,b,c] [] pos] [] pos') (tLZ X.K ta):=by
 intro pins s σ H Q I h
 refine wpAny_Call_Name_kw (ld_blt I hg' hm' boot_lst ?_)
 refine PyProof.Rows.callWith_type1 ?_ hs2 rfl
 rw [hs2]
 show wpAny _ _ (spliced ((false,eval (.Call (.Name "zip" p) [a,b,c] [] pos) X.env) :: backTo pos' [])) _ _ _
 refine Calls.spliced_cons ?_
 refine wpAny_Call_Name_kw (ld_blt I hg hm boot_zip (PyProof.Rows.callWith_type1 (thn (ha pos pins s σ H _ I h) fun us s1 ⟨vs,H1,I1,r1,q1⟩=>?_) hs hpl))
 obtain ⟨l,m,n,xs,ys,zs,rfl,hx,hy,hz,e1,e2,q⟩:=q1
 cases r1 with
 | cons ru r1 =>
 cases r1 with
 | cons rv r1 =>
 cases r1 with
 | cons rw' r1 =>
 cases r1
 cases ru
 cases rv
 cases rw'
 obtain ⟨ix,rx,px,zx⟩:=I1.list hx
 obtain ⟨iy,ry,py,zy⟩:=I1.list hy
 obtain ⟨iz,rz,pz,zz⟩:=I1.list hz
 refine zip3_new px.isList py.isList pz.isList fun h1 zs1 sz1 k1=>?_
 refine Calls.spliced_nil ?_
 have hh:X.A.handled=none:=I1.ok.hd hc
 have lx:ix.toArray.size=xs.length:=by rw [List.size_toArray,rx.length]
 have ly:iy.toArray.size=ix.toArray.size:=by rw [lx,List.size_toArray,←ry.length,e1]
 have lz:iz.toArray.size=ix.toArray.size:=by rw [lx,List.size_toArray,←rz.length,e2]
 have W:=zip3_feed (prog:=X.prog) (w:=X.w) (A:=X.A.in1.in1) (h0:=s1.heap) hh px.isList py.isList pz.isList ly lz
 have ty:Shared.TypeIs { s1 with heap:=h1 } (.ref (s1.heap.objs.size+5)) "zip":=⟨_,zs1.z,rfl⟩
 have W':Feed X.prog X.w X.A.in1.in1 (Shared.heap { s1 with heap:=h1 }).objs.size (s1.heap.objs.size+5) ix.toArray.size (Z3St s1.heap s1.heap.objs.size l m n ix.toArray iy.toArray iz.toArray) (Z3En s1.heap s1.heap.objs.size ix.toArray iy.toArray iz.toArray):=by
  show Feed _ _ _ h1.objs.size _ _ _ _
  rw [sz1]
  exact W
 refine list_feed W' (by rw [lx]; exact zx) ty (by decide) (by decide) ?_ ?_ ?_
 ·intro s' Q' E' old sz k
  refine zip3_iter (old _ _ zs1.z) (k s'.heap s'.toks ⟨.none,false,[],rfl,⟨old _ _ zs1.z,old _ _ zs1.ti,let ⟨u1,u2,u3,e⟩:=zs1.to; ⟨u1,u2,u3,old _ _ e⟩,zs1.i1.at fun o e=>old _ o e,zs1.i2.at fun o e=>old _ o e,zs1.i3.at fun o e=>old _ o e⟩,.inl ⟨rfl,rfl⟩,fun c o e=>old _ _ (k1 c o e),List.nodup_nil,fun j t e=>by simp at e⟩ fun o e=>e)
 ·intro s' Q' E' st k
  obtain ⟨_,_,_,_,z,_⟩:=st
  exact zip3_hint ⟨_,z.z,rfl⟩ k
 ·intro h' tk acc c' ea en eS
  obtain ⟨Ts,rfl,old,nd,hd⟩:=en
  show EP X pins σ Q (.ref h1.objs.size) _
  replace eS:h'.get? (s1.heap.objs.size+6)=some (lsO (Ts.map Value.ref) c'):=by rw [←sz1]; exact eS
  rw [sz1]
  have lT:Ts.length=xs.length:=by rw [←lx,←ea,List.length_map]
  have lR:=rows3_len xs ys zs e1 e2
  have geT:∀ t ∈ Ts,s1.heap.objs.size+7≤t:=fun t ht=>by
   obtain ⟨j,hj⟩:=List.mem_iff_getElem?.mp ht
   exact (hd j t hj).1
  have ndS:((s1.heap.objs.size+6) :: Ts).Nodup:=List.nodup_cons.mpr ⟨fun m=>Nat.lt_irrefl _ (Nat.lt_of_lt_of_le (Nat.add_lt_add_left (by decide) _) (geT _ m)),nd⟩
  have oth:∀ b,b < s1.heap.objs.size→zH H1 (s1.heap.objs.size+6) Ts (rows3 xs ys zs) b=H1 b:=fun b lt =>
   zH_oth (Nat.ne_of_lt (Nat.lt_of_lt_of_le lt (Nat.le_add_right _ _))) fun m=>Nat.lt_irrefl _ (Nat.lt_of_lt_of_le (Nat.lt_of_lt_of_le lt (Nat.le_add_right _ _)) (geT _ m))
  refine ⟨.ref (s1.heap.objs.size+6),zH H1 (s1.heap.objs.size+6) Ts (rows3 xs ys zs),Inv.many (s:=s1) (t':=tk) I1 old oth ?_,rfl,q _ Ts _ ⟨zH_S,by rw [lT,lR],fun j t r e er=>zH_row ndS e er,fun b n1 n2=>zH_oth n1 n2,I1.hok.fresh (Nat.le_add_right _ _),fun t ht=>I1.hok.fresh (Nat.le_trans (Nat.le_add_right _ 7) (geT t ht)),ndS⟩⟩
  intro b o ge eb
  by_cases hbS:b=s1.heap.objs.size+6
  ·subst hbS
   rw [zH_S] at eb
   cases eb
   refine ⟨by rw [List.length_map,lT]; exact zx,Ts.map Value.ref,c',?_,eS⟩
   have:∀ l:List Addr,Vals (l.map V.ref) (l.map Value.ref):=by
    intro l
    induction l with
    | nil=>exact .nil
    | cons t l ih=>exact .cons rfl ih
   exact this Ts
  ·by_cases hbT:b ∈ Ts
   ·obtain ⟨j,hj⟩:=List.mem_iff_getElem?.mp hbT
    obtain ⟨_,u1,u2,u3,p1,p2,p3,p4⟩:=hd j b hj
    have lj:j < xs.length:=by rw [←lT]; exact (List.getElem?_eq_some_iff.mp hj).1
    have g1:xs[j]? = some (xs[j]'lj):=List.getElem?_eq_getElem lj
    have g2:ys[j]? = some (ys[j]'(by omega)):=List.getElem?_eq_getElem (by omega)
    have g3:zs[j]? = some (zs[j]'(by omega)):=List.getElem?_eq_getElem (by omega)
    obtain ⟨w1,a1,b1⟩:=rx.get g1
    obtain ⟨w2,a2,b2⟩:=ry.get g2
    obtain ⟨w3,a3,b3⟩:=rz.get g3
    rw [List.getElem?_toArray] at p1 p2 p3
    rw [a1] at p1
    rw [a2] at p2
    rw [a3] at p3
    cases p1
    cases p2
    cases p3
    rw [zH_row ndS hj (rows3_get xs ys zs j _ _ _ g1 g2 g3)] at eb
    cases eb
    refine ⟨by simp [sizeLine_eq],[u1,u2,u3],.cons b1 (.cons b2 (.cons b3 .nil)),_,p4,rfl,_,rfl⟩
   ·rw [zH_oth hbS hbT,I1.hok.fresh ge] at eb
    cases eb
end
end L2
namespace L2
open PySem PySem.Spec PyProof.Rows PySem.W
section
variable {prog:Program} {w:World} {A:Around} {E:Value→Shared→Prop} {s:Shared}
end
end L2
namespace L2
open PySem PySem.Spec PyProof.Rows PySem.W
section
variable (key:Nat→Int × Int)
end
end L2
namespace L2
open PySem PySem.Spec PyProof.Rows PySem.W
section
variable {prog:Program} {w:World} {A:Around} {E:Value→Shared→Prop} {s:Shared}
end
end L2
namespace L2
open PySem PySem.Spec PyProof.Rows PySem.W
section
variable {prog:Program} {w:World} {A:Around} {E:Value→Shared→Prop} {s:Shared}
end
end L2
namespace L2
open PySem PySem.Spec PyProof.Rows
section
variable {prog:Program} {w:World} {A:Around} {E:Value→Shared→Prop} {s:Shared}
end
end L2
namespace L2
open PySem PySem.Spec PyProof.Rows
section
variable {prog:Program} {w:World} {A:Around} {E:Value→Shared→Prop} {s:Shared}
end
section
variable {prog:Program} {w:World} {A:Around}
end
end L2
namespace L2
open PySem PySem.Spec PyProof.Rows PySem.W
section
variable {X:Cx}
end
end L2
namespace L2
open PySem PySem.Spec PyProof.Rows PySem.W
section
variable {X:Cx}
end
end L2
namespace L2
open PySem PySem.Spec PyProof.Rows
structure KM where
 a:Int
 b:Bool
 c:Int
 d:Int
 e:Int
 f:Int
 ws:List (List Int)
 deriving DecidableEq
section
variable {prog:Program} {w:World} {A:Around} {E:Value→Shared→Prop} {s:Shared}
end
end L2
namespace L2
open PySem PySem.Spec PyProof.Rows
section
variable (prog:Program) (w:World)
variable {prog w}
end
end L2
namespace L2
open PySem PySem.Spec PyProof.Rows
section
variable {P:Program} {w:World} {H:Hp} {h:Heap} {a:Addr}
end
def kL (l:List (KM × V × V)):List (KM × Addr × V):=l.map fun x=>(x.1,adr x.2.1,x.2.2)
end L2
namespace L2
open PySem PySem.Spec PyProof.Rows
structure ZT (h:Heap) (b:Nat) (l m:Addr) (i:Nat):Prop where
 z:IsZip h (b+4) (b+2) (b+3) .none
 ti:IsPair h (b+2) (.ref b) (.ref (b+1))
 to:∃ x y,IsPair h (b+3) x y
 i1:h.IsListIter b l i
 i2:h.IsTupleIter (b+1) m i
section
variable {prog:Program} {w:World} {A:Around} {E:Value→Shared→Prop} {s:Shared}
theorem next_tup {it t:Addr} {i:Nat} {items:Array Value} {x:Value} {Q:Value→Shared→Prop} (hit:s.heap.IsTupleIter it t i) (ht:s.heap.IsTuple t items) (hx:items[i]? = some x)
  (hQ:∀ h',h'.IsTupleIter it t (i+1)→Heap.SameBut it s.heap h'→Q x { s with heap:=h' }):wpAny (model prog w) A (Builtin.SmallTypes.nextOf (.ref it)) Q E s:=by
 obtain ⟨o,e,c,d⟩:=id hit
 obtain ⟨o2,e2,_,n2,d2⟩:=ht
 unfold Builtin.SmallTypes.nextOf
 refine wpAny_bind (wpAny_callSpecial?_slot (name:=Str.ofString "__next__") hit.typeIs F.slot_tuple_iterator_next (wpAny_call_entry F.slot_tuple_iterator_next hit.typeIs F.entry_tuple_iterator_next ?_ (F.args_tuple_iterator_next_1 _)))
 show wpAny _ _ (field (.ref it) 0 >>= _) _ _ s
 refine wpAny_bind (wpAny_field e d (x:=.ref t) rfl ?_)
 show wpAny _ _ (if (Value.ref t == Value.none)=true then _ else _) _ _ s
 have no:¬ ((Value.ref t == Value.none)=true):=fun q=>Bool.false_ne_true q
 rw [if_neg no]
 show wpAny _ _ (field (.ref it) 1 >>= _) _ _ s
 refine wpAny_bind (wpAny_field e d (x:=.int i 0) rfl ?_)
 show wpAny _ _ (seqItems? (.ref t) >>= _) _ _ s
 refine wpAny_bind (wpAny_seqItems e2 d2 ?_)
 simp only [Int.toNat_natCast,hx]
 refine wpAny_bind (wpAny_setField e d (by simp) (wpAny_pure ⟨x,rfl,wpAny_pure (hQ _ ?_ (Heap.SameBut.update ..))⟩))
 refine ⟨_,Heap.get?_update_self _ e (Obj.isFreed_of_fields (Obj.data_mapFields d _)),(Obj.cls_mapFields ..).trans c,?_⟩
 rw [Obj.data_mapFields d]
 simp [rawInt]
abbrev zta (h:Heap) (l m:Addr):Heap:=(h.push { cls:=.type "list_iterator",data:=.fields #[.ref l,.int 0 0] }).push { cls:=.type "tuple_iterator",data:=.fields #[.ref m,.int 0 0] }
abbrev ztb (h:Heap) (l m:Addr):Heap:=(zta h l m).push { cls:=.type "tuple",data:=.seq #[.ref h.objs.size,.ref (h.push { cls:=.type "list_iterator",data:=.fields #[.ref l,.int 0 0] }).objs.size] }
abbrev ztc (h:Heap) (l m:Addr):Heap:=(ztb h l m).push { cls:=.type "tuple",data:=.seq #[.none,.none] }
abbrev ztd (h:Heap) (l m:Addr):Heap:=(ztc h l m).push { cls:=.type "zip",data:=.fields #[.none,.bool false,.bool false,.ref (zta h l m).objs.size,.ref (ztb h l m).objs.size] }
theorem zt_meets (l m:Addr) (xs ys:Array Value) :
  Meets (Builtin.«zip.__new__» ⟨[.type "zip",.ref l,.ref m],[]⟩) (fun _ R s=>s.heap.IsList l xs∧s.heap.IsTuple m ys∧R (.ok (.ret (.ref (ztc s.heap l m).objs.size))) { s with heap:=ztd s.heap l m }) :=
 .of_wp fun prog w A R s h=>by
  obtain ⟨hp,g,d,tk,os⟩:=s
  obtain ⟨h1,h2,h⟩:=h
  have hsub:=sub_zip
  have k1:Heap.IsList (Shared.heap ⟨hp,g,d,tk,os⟩) l xs:=h1
  have k2:Heap.IsTuple (Shared.heap ⟨hp.push { cls:=.type "list_iterator",data:=.fields #[.ref l,.int 0 0] },g,d,tk,os⟩) m ys:=Heap.IsTuple.push h2 _
  wp_walk using wpAny_pyIter_list k1,wpAny_pyIter_tuple k2
  exact ⟨_,rfl,h⟩
theorem zt_new {l m:Addr} {xs ys:Array Value} {Q:Value→Shared→Prop} (h1:s.heap.IsList l xs) (h2:s.heap.IsTuple m ys)
  (h:∀ h',ZT h' s.heap.objs.size l m 0→h'.objs.size=s.heap.objs.size+5→(∀ c o,s.heap.get? c=some o→h'.get? c=some o)→Q (.ref (s.heap.objs.size+4)) { s with heap:=h' }) :
  wpAny (model prog w) A (call (.type "zip") [.ref l,.ref m]) Q E s:=by
 refine callType_new F.called_zip (by decide) (F.typeCall_zip_2 _ _) (F.newCall_zip_2 _ _) (fun obj=>F.args_object_init_3 obj _ _) F.entry_zip_new (zt_meets l m xs ys) ⟨h1,h2,?_⟩
 have f1:(s.heap.push { cls:=.type "list_iterator",data:=.fields #[.ref l,.int 0 0] }).objs.size=s.heap.objs.size+1:=Heap.size_push ..
 have f2:(zta s.heap l m).objs.size=s.heap.objs.size+2:=by rw [Heap.size_push,f1]
 have f3:(ztb s.heap l m).objs.size=s.heap.objs.size+3:=by rw [Heap.size_push,f2]
 have f4:(ztc s.heap l m).objs.size=s.heap.objs.size+4:=by rw [Heap.size_push,f3]
 have f5:(ztd s.heap l m).objs.size=s.heap.objs.size+5:=by rw [Heap.size_push,f4]
 have g5:(ztd s.heap l m).get? (ztc s.heap l m).objs.size=some _:=Heap.get?_push_size _ rfl
 have g4:(ztd s.heap l m).get? (ztb s.heap l m).objs.size=some _:=Heap.get?_push_of_some _ (Heap.get?_push_size _ rfl)
 have g3:(ztd s.heap l m).get? (zta s.heap l m).objs.size=some _:=Heap.get?_push_of_some _ (Heap.get?_push_of_some _ (Heap.get?_push_size _ rfl))
 have g2:(ztd s.heap l m).get? (s.heap.push { cls:=.type "list_iterator",data:=.fields #[.ref l,.int 0 0] }).objs.size=some _:=Heap.get?_push_of_some _ (Heap.get?_push_of_some _ (Heap.get?_push_of_some _ (Heap.get?_push_size _ rfl)))
 have g1:(ztd s.heap l m).get? s.heap.objs.size=some _:=Heap.get?_push_of_some _ (Heap.get?_push_of_some _ (Heap.get?_push_of_some _ (Heap.get?_push_of_some _ (Heap.get?_push_size _ rfl))))
 show _∧_
 rw [f2,f3,f4] at g5
 rw [f1,f2] at g3
 rw [f3] at g4
 rw [f1] at g2
 rw [f4]
 exact ⟨⟨_,g5,rfl⟩,h _ ⟨g5,g3,⟨_,_,g4⟩,⟨_,g1,rfl,rfl⟩,⟨_,g2,rfl,rfl⟩⟩ f5 fun c o q=>Heap.get?_push_of_some _ (Heap.get?_push_of_some _ (Heap.get?_push_of_some _ (Heap.get?_push_of_some _ (Heap.get?_push_of_some _ q))))⟩
theorem zt_item {b l m:Addr} {i:Nat} {xs ys:Array Value} {x y:Value} {Q:Option Value→Shared→Prop} (hz:ZT s.heap b l m i) (bl:l < b) (bm:m < b)
  (h1:s.heap.IsList l xs) (h2:s.heap.IsTuple m ys) (hx:xs[i]? = some x) (hy:ys[i]? = some y)
  (hQ:∀ h',IsZip h' (b+4) (b+2) (b+3) (rawInt s.heap.objs.size)→IsPair h' (b+2) (.ref b) (.ref (b+1))→(∃ x y,IsPair h' (b+3) x y)→h'.IsListIter b l (i+1)→h'.IsTupleIter (b+1) m (i+1)→IsPair h' s.heap.objs.size x y →
   (∀ c o,(c < b ∨ b+5≤c)→s.heap.get? c=some o→h'.get? c=some o)→Q (some (.ref s.heap.objs.size)) { s with heap:=h' }) :
  wpAny (model prog w) A (pyNext (.ref (b+4))) Q E s:=by
 have ne:∀ {x y:Nat},x≠y→(b+x:Nat)≠b+y:=fun q e=>q (Nat.add_left_cancel e)
 have lo:∀ {c:Nat} (k:Nat),c < b→c≠b+k:=fun k q=>Nat.ne_of_lt (Nat.lt_of_lt_of_le q (Nat.le_add_right b k))
 have far:∀ {c:Nat} (k:Nat),k < 5→c < b ∨ b+5≤c→c≠b+k:=fun k hk q=>q.elim (lo k) fun q=>Nat.ne_of_gt (Nat.lt_of_lt_of_le (Nat.add_lt_add_left hk b) q)
 obtain ⟨z,ti,⟨q1,q2,to⟩,i1,i2⟩:=hz
 have hT:s.TypeIs (.ref (b+4)) "zip":=⟨_,z,rfl⟩
 unfold pyNext
 refine wpAny_bind (wpAny_attempt (wpAny_callSpecial?_slot (name:=Str.ofString "__next__") hT F.slot_zip_next (wpAny_call_entry F.slot_zip_next hT F.entry_zip_next ?_ (F.args_zip_next_1 _))))
 show wpAny _ _ (field (.ref (b+4)) 2 >>= _) _ _ _
 refine wpAny_bind (wpAny_field z rfl (x:=.bool false) rfl ?_)
 show wpAny _ _ (field (.ref (b+4)) 3 >>= _) _ _ _
 refine wpAny_bind (wpAny_field z rfl (x:=.ref (b+2)) rfl ?_)
 refine wpAny_bind (wpAny_seqItems ti rfl ?_)
 show wpAny _ _ (Builtin.SmallTypes.ownedTupleIsFree (.ref (b+4)) >>= _) _ _ _
 refine wpAny_bind ?_
 unfold Builtin.SmallTypes.ownedTupleIsFree
 refine wpAny_bind (wpAny_field z rfl (x:=.none) rfl (wpAny_pure ?_))
 simp only [if_true]
 refine wpAny_bind (wpAny_rule ?_)
 refine wpAny_bind (wpAny_field z rfl (x:=.ref (b+3)) rfl ?_)
 refine wpAny_bind (wpAny_setField_rec z (by simp) fun h0 z0 s0=>?_)
 replace z0:IsZip h0 (b+4) (b+2) (b+3) .ellipsis:=z0
 refine wpAny_bind ?_
 simp only [List.zipIdx_cons,List.zipIdx_nil,List.forIn_cons,List.forIn_nil]
 have k0:∀ c o,c≠b+4→s.heap.get? c=some o→h0.get? c=some o:=fun c o q e=>(s0.2 c q).trans e
 refine wpAny_bind (wpAny_bind (wpAny_onRaise ?_))
 show wpAny _ _ (Builtin.SmallTypes.nextOf (.ref b) >>= _) _ _ _
 refine wpAny_bind (wpAny_nextOf_list_item (i1.at fun o e=>k0 _ o (ne (x:=0) (by decide)) e) (h1.at fun o e=>k0 _ o (lo 4 bl) e) hx fun ha ia sa=>wpAny_pure ?_)
 have ta:IsPair ha (b+3) q1 q2:=(sa.2 _ (ne (y:=0) (by decide))).trans (k0 _ _ (ne (by decide)) to)
 refine wpAny_bind (wpAny_seqItems ta rfl ?_)
 refine wpAny_bind (wpAny_updateSeq_pair ta fun hb tb sb=>?_)
 replace tb:IsPair hb (b+3) x q2:=tb
 refine wpAny_bind (wpAny_letGo (wpAny_pure ?_))
 have kb:∀ c o,c≠b+4→c≠b→c≠b+3→s.heap.get? c=some o→hb.get? c=some o:=fun c o p1 p2 p3 e=>(sb.2 c p3).trans ((sa.2 c p2).trans (k0 c o p1 e))
 refine wpAny_bind (wpAny_bind (wpAny_onRaise ?_))
 show wpAny _ _ (Builtin.SmallTypes.nextOf (.ref (b+1)) >>= _) _ _ _
 have i2b:hb.IsTupleIter (b+1) m i:=by
  obtain ⟨o,e,r⟩:=i2
  exact ⟨o,kb _ o (ne (by decide)) (ne (y:=0) (by decide)) (ne (by decide)) e,r⟩
 have h2b:hb.IsTuple m ys:=by
  obtain ⟨o,e,r⟩:=h2
  exact ⟨o,kb _ o (lo 4 bm) (Nat.ne_of_lt bm) (lo 3 bm) e,r⟩
 refine wpAny_bind (next_tup i2b h2b hy fun hc ic sc=>wpAny_pure ?_)
 have tc:IsPair hc (b+3) x q2:=(sc.2 _ (ne (by decide))).trans tb
 refine wpAny_bind (wpAny_seqItems tc rfl ?_)
 refine wpAny_bind (wpAny_updateSeq_pair tc fun hd td sd=>?_)
 replace td:IsPair hd (b+3) x y:=td
 refine wpAny_bind (wpAny_letGo (wpAny_pure (wpAny_pure ?_)))
 have kd:∀ c o,c≠b+4→c≠b→c≠b+3→c≠b+1→s.heap.get? c=some o→hd.get? c=some o:=fun c o p1 p2 p3 p4 e=>(sd.2 c p3).trans ((sc.2 c p4).trans (kb c o p1 p2 p3 e))
 have sz:hd.objs.size=s.heap.objs.size:=by rw [sd.1,sc.1,sb.1,sa.1,s0.1]
 refine wpAny_bind (wpAny_seqItems td rfl ?_)
 refine wpAny_bind (wpAny_newTuple ?_)
 have zd:IsZip hd (b+4) (b+2) (b+3) .ellipsis:=(sd.2 _ (ne (by decide))).trans ((sc.2 _ (ne (by decide))).trans ((sb.2 _ (ne (by decide))).trans ((sa.2 _ (ne (y:=0) (by decide))).trans z0)))
 show wpAny _ _ (Builtin.SmallTypes.ownedTupleHandOut (.ref (b+4)) (.ref hd.objs.size) >>= _) _ _ _
 refine wpAny_bind ?_
 unfold Builtin.SmallTypes.ownedTupleHandOut
 have ze:IsZip (hd.push { cls:=.type "tuple",data:=.seq #[x,y] }) (b+4) (b+2) (b+3) .ellipsis:=Heap.get?_push_of_some _ zd
 refine wpAny_bind (wpAny_setField_rec ze (by simp) fun hf zf sf=>?_)
 replace zf:IsZip hf (b+4) (b+2) (b+3) (rawInt hd.objs.size):=zf
 refine wpAny_setField_rec zf (by simp) fun hg zg sg=>?_
 replace zg:IsZip hg (b+4) (b+2) (b+3) (rawInt hd.objs.size):=zg
 have up:∀ c o,c≠b+4→hd.get? c=some o→hg.get? c=some o:=fun c o q e=>(sg.2 c q).trans ((sf.2 c q).trans (Heap.get?_push_of_some _ e))
 have lt:b+4 < hd.objs.size:=Heap.lt_size zd
 have tn:IsPair hg hd.objs.size x y:=(sg.2 _ (Nat.ne_of_gt lt)).trans ((sf.2 _ (Nat.ne_of_gt lt)).trans (Heap.get?_push_size _ rfl))
 refine wpAny_pure ⟨_,rfl,?_⟩
 rw [sz] at zg tn
 show wpAny _ _ (pure (some (Value.ref hd.objs.size))) _ _ _
 rw [sz]
 refine wpAny_pure (hQ hg zg (up _ _ (ne (by decide)) (kd _ _ (ne (by decide)) (ne (y:=0) (by decide)) (ne (by decide)) (ne (by decide)) ti)) ⟨_,_,up _ _ (ne (by decide)) td⟩ ?_ ?_ tn fun c o q e=>up c o (far 4 (by decide) q) (kd c o (far 4 (by decide) q) (far 0 (by decide) q) (far 3 (by decide) q) (far 1 (by decide) q) e))
 ·exact ia.at fun o e=>up _ o (ne (x:=0) (by decide)) ((sd.2 _ (ne (x:=0) (by decide))).trans ((sc.2 _ (ne (x:=0) (by decide))).trans ((sb.2 _ (ne (x:=0) (by decide))).trans e)))
 ·obtain ⟨o,e,r⟩:=ic
  exact ⟨o,up _ o (ne (by decide)) ((sd.2 _ (ne (by decide))).trans e),r⟩
theorem zt_end {b l m:Addr} {i:Nat} {xs:Array Value} {Q:Option Value→Shared→Prop} (hh:A.handled=none) (hz:ZT s.heap b l m i) (bl:l < b) (h1:s.heap.IsList l xs) (hx:xs[i]? = none)
  (hQ:∀ h',(∀ c o,(c < b ∨ b+5≤c)→s.heap.get? c=some o→h'.get? c=some o)→Q none { s with heap:=h' }) :
  wpAny (model prog w) A (pyNext (.ref (b+4))) Q E s:=by
 have ne:∀ {x y:Nat},x≠y→(b+x:Nat)≠b+y:=fun q e=>q (Nat.add_left_cancel e)
 have lo:∀ {c:Nat} (k:Nat),c < b→c≠b+k:=fun k q=>Nat.ne_of_lt (Nat.lt_of_lt_of_le q (Nat.le_add_right b k))
 have far:∀ {c:Nat} (k:Nat),k < 5→c < b ∨ b+5≤c→c≠b+k:=fun k hk q=>q.elim (lo k) fun q=>Nat.ne_of_gt (Nat.lt_of_lt_of_le (Nat.add_lt_add_left hk b) q)
 obtain ⟨z,ti,⟨q1,q2,to⟩,i1,i2⟩:=hz
 have hT:s.TypeIs (.ref (b+4)) "zip":=⟨_,z,rfl⟩
 unfold pyNext
 refine wpAny_bind (wpAny_attempt (wpAny_callSpecial?_slot (name:=Str.ofString "__next__") hT F.slot_zip_next (wpAny_call_entry F.slot_zip_next hT F.entry_zip_next ?_ (F.args_zip_next_1 _))))
 show wpAny _ _ (field (.ref (b+4)) 2 >>= _) _ _ _
 refine wpAny_bind (wpAny_field z rfl (x:=.bool false) rfl ?_)
 show wpAny _ _ (field (.ref (b+4)) 3 >>= _) _ _ _
 refine wpAny_bind (wpAny_field z rfl (x:=.ref (b+2)) rfl ?_)
 refine wpAny_bind (wpAny_seqItems ti rfl ?_)
 show wpAny _ _ (Builtin.SmallTypes.ownedTupleIsFree (.ref (b+4)) >>= _) _ _ _
 refine wpAny_bind ?_
 unfold Builtin.SmallTypes.ownedTupleIsFree
 refine wpAny_bind (wpAny_field z rfl (x:=.none) rfl (wpAny_pure ?_))
 simp only [if_true]
 refine wpAny_bind (wpAny_rule ?_)
 refine wpAny_bind (wpAny_field z rfl (x:=.ref (b+3)) rfl ?_)
 refine wpAny_bind (wpAny_setField_rec z (by simp) fun h0 z0 s0=>?_)
 replace z0:IsZip h0 (b+4) (b+2) (b+3) .ellipsis:=z0
 refine wpAny_bind ?_
 simp only [List.zipIdx_cons,List.zipIdx_nil,List.forIn_cons,List.forIn_nil]
 refine wpAny_bind (wpAny_bind (wpAny_onRaise ?_))
 show wpAny _ _ (Builtin.SmallTypes.nextOf (.ref b) >>= _) _ _ _
 refine wpAny_bind (wpAny_nextOf_list_end hh (i1.at fun o e=>(s0.2 _ (ne (x:=0) (by decide))).trans e) (h1.at fun o e=>(s0.2 _ (lo 4 bl)).trans e) hx fun ha e sa he=>?_)
 obtain ⟨oe,he1,he2⟩:=he
 have za:IsZip ha (b+4) (b+2) (b+3) .ellipsis:=sa _ _ (ne (y:=0) (by decide)) z0
 have nez:e≠b+4:=fun q=>by subst q; rw [za] at he1; cases he1; simp at he2
 refine wpAny_setField_rec za (by simp) fun hb zb sb=>?_
 refine wpAny_bind (wpAny_isInstance (T:="StopIteration") (b:=true) ⟨oe,(sb.2 _ nez).trans he1,he2⟩ isSubtype_stop ?_)
 exact wpAny_pure (hQ _ fun c o q e=>(sb.2 _ (far 4 (by decide) q)).trans (sa _ _ (far 0 (by decide) q) ((s0.2 _ (far 4 (by decide) q)).trans e)))
end
end L2
namespace L2
open PySem PySem.Spec PyProof.Rows
def Itzt (K:PySem.W.Frag) (a b:Addr):It :=
 ⟨fun i H=>∃ xs ys x y,SqL K H a xs∧SqT K H b ys∧xs[i]? = some x∧ys[i]? = some y,
  fun i H z H'=>∃ t x y,z=.ref t∧H t=none∧H'=upd H t (.tup [x,y])∧(∀ xs,SqL K H a xs→xs[i]? = some x)∧∀ ys,SqT K H b ys→ys[i]? = some y,
  fun i H=>∃ xs,SqL K H a xs∧xs.length≤i⟩
theorem turn_zt {P:Program} {w:World} {K:PySem.W.Frag} {elts:List Expr} {ek:Nat} {epos:Pos} {n:Nat} {a b:Addr} (la:a < n) (lb:b < n):Turn P w K (.Tuple elts ek epos) (Itzt K a b) [n+4,n+2,n+3,n,n+1] (n+4) (fun i h=>ZT h n a b i) where
 mem:=by simp
 obj:=fun i h st c hc=>by
  obtain ⟨hz,hTI,⟨p,q,hTO⟩,⟨o1,e1,c1,d1⟩,⟨o2,e2,c2,d2⟩⟩:=st
  have hc':c=n+4 ∨ c=n+2 ∨ c=n+3 ∨ c=n ∨ c=n+1:=by simpa using hc
  rcases hc' with rfl | rfl | rfl | rfl | rfl
  ·exact ⟨_,hz,fun v e=>by cases e⟩
  ·exact ⟨_,hTI,fun v e=>by cases e⟩
  ·exact ⟨_,hTO,fun v e=>by cases e⟩
  ·exact ⟨_,e1,fun v e=>by rw [d1] at e; cases e⟩
  ·exact ⟨_,e2,fun v e=>by rw [d2] at e; cases e⟩
 keep:=fun i h h' st k=>by
  obtain ⟨hz,hTI,⟨p,q,hTO⟩,l1,⟨o,e,r⟩⟩:=st
  exact ⟨k _ (by simp) _ hz,k _ (by simp) _ hTI,⟨p,q,k _ (by simp) _ hTO⟩,l1.at fun o e=>k _ (by simp) o e,⟨o,k _ (by simp) o e,r⟩⟩
 item:=by
  intro X hP hw hK hc i pins s σ H E I hf st hg
  subst hP hw hK
  obtain ⟨xs,ys,x,y,hx,hy,ex,ey⟩:=hg
  obtain ⟨ia,ra,pa,za⟩:=I.list hx
  obtain ⟨ib,rb,pb,zb⟩:=I.tuple hy
  obtain ⟨u,hu,ru⟩:=ra.get ex
  obtain ⟨v,hv,rv⟩:=rb.get ey
  have st0:ZT s.heap n a b i:=st
  have far:∀ {c:Nat} (k:Nat),c=n+k→n≤c:=fun k e=>by rw [e]; exact Nat.le_add_right _ _
  refine zt_item st0 la lb pa.isList pb (x:=u) (y:=v) (by simpa using hu) (by simpa using hv) fun h' a1 a2 a3 a4 a5 a6 a7=>?_
  refine ⟨_,rfl,wpAny_letOwnedTupleGo_zip a1 fun h2 b1 b2=>?_⟩
  have hT:H s.heap.objs.size=none:=I.hok.fresh (Nat.le_refl _)
  have ltz:∀ c o,s.heap.get? c=some o→s.heap.objs.size≠c:=fun c o e=>Nat.ne_of_gt (Heap.lt_size e)
  have ne:∀ {x y:Nat},x≠y→(n+x:Nat)≠n+y:=fun h e=>h (Nat.add_left_cancel e)
  have Tz:s.heap.objs.size≠n+4:=ltz _ _ st0.z
  have aT:h2.get? s.heap.objs.size=some { cls:=.type "tuple",data:=.seq #[u,v] }:=b2.extBut _ _ Tz a6
  have sz:n+5≤s.heap.objs.size:=Heap.lt_size st0.z
  have k2:∀ c o,(c < n ∨ n+5≤c)→s.heap.get? c=some o→h2.get? c=some o:=fun c o q e=>by
   refine b2.extBut _ _ ?_ (a7 c o q e)
   rcases q with q | q
   ·exact Nat.ne_of_lt (Nat.lt_of_lt_of_le q (Nat.le_add_right _ _))
   ·exact Nat.ne_of_gt (Nat.lt_of_lt_of_le (Nat.add_lt_add_left (by decide) n) q)
  have I1:Inv X pins σ (upd H s.heap.objs.size (.tup [x,y])) { s with heap:=s.heap.push { cls:=.type "tuple",data:=.seq #[u,v] } }:=by
   refine I.laid (t':=s.toks) (fun c o e=>Heap.get?_push_of_some _ e) (Nat.le_refl _) ?_
   exact ⟨(by show 2≤sizeLine; decide),[u,v],.cons ru (.cons rv .nil),IsTup.new s.heap _⟩
  have hf1:∀ c ∈ [n+4,n+2,n+3,n,n+1],FpOk X pins (upd H s.heap.objs.size (.tup [x,y])) c:=fun c hc'=>by
   obtain ⟨f0,f⟩:=hf c hc'
   refine ⟨?_,f⟩
   have lt:c < s.heap.objs.size:=by
    have hc'':c=n+4 ∨ c=n+2 ∨ c=n+3 ∨ c=n ∨ c=n+1:=by simpa using hc'
    rcases hc'' with rfl | rfl | rfl | rfl | rfl
    ·exact Nat.lt_of_lt_of_le (Nat.add_lt_add_left (by decide) n) sz
    ·exact Nat.lt_of_lt_of_le (Nat.add_lt_add_left (by decide) n) sz
    ·exact Nat.lt_of_lt_of_le (Nat.add_lt_add_left (by decide) n) sz
    ·exact Nat.lt_of_lt_of_le (Nat.lt_add_of_pos_right (by decide)) sz
    ·exact Nat.lt_of_lt_of_le (Nat.add_lt_add_left (by decide) n) sz
   rw [upd_ne (Nat.ne_of_lt lt)]
   exact f0
  have I2:Inv X pins σ (upd H s.heap.objs.size (.tup [x,y])) { s with heap:=h2 }:=by
   refine Inv.turnedL (s:={ s with heap:=s.heap.push { cls:=.type "tuple",data:=.seq #[u,v] } }) (h':=h2) (t':=s.toks) (its:=[n+4,n+2,n+3,n,n+1]) I1 (fun c o hc' e=>?_) hf1
   have hc'':¬ (c=n+4 ∨ c=n+2 ∨ c=n+3 ∨ c=n ∨ c=n+1):=by simpa using hc'
   by_cases hcs:c=s.heap.objs.size
   ·subst hcs
    have e':(s.heap.push { cls:=.type "tuple",data:=.seq #[u,v] }).get? s.heap.objs.size=some o:=e
    rw [Heap.get?_push_size _ rfl] at e'
    cases e'
    exact aT
   ·refine k2 c o ?_ ?_
    ·rcases Nat.lt_or_ge c n with q | q
     ·exact .inl q
     ·refine .inr ?_
      obtain ⟨k,rfl⟩:=Nat.exists_eq_add_of_le q
      have:¬ k < 5:=fun lt=>by
       match k,lt with
       | 0,_=>exact hc'' (.inr (.inr (.inr (.inl rfl))))
       | 1,_=>exact hc'' (.inr (.inr (.inr (.inr rfl))))
       | 2,_=>exact hc'' (.inr (.inl rfl))
       | 3,_=>exact hc'' (.inr (.inr (.inl rfl)))
       | 4,_=>exact hc'' (.inl rfl)
      exact Nat.add_le_add_left (Nat.le_of_not_lt this) n
    ·rw [←e]
     exact (Heap.get?_push_ne _ _ _ hcs).symm
  refine ⟨.ref s.heap.objs.size,_,I2,rfl,⟨_,x,y,rfl,hT,rfl,fun ws hw=>by rw [I.list_inj hw hx]; exact ex,fun ws hw=>by rw [I.tuple_inj hw hy]; exact ey⟩,?_,fun c hc'=>(hf1 c hc').1⟩
  obtain ⟨t1,t2,e3⟩:=a3
  refine ⟨b1,b2.extBut _ _ (ne (by decide)) a2,⟨t1,t2,b2.extBut _ _ (ne (by decide)) e3⟩,a4.extBut b2.extBut (ne (x:=0) (by decide)),a5.extBut b2.extBut (ne (by decide))⟩
 done:=by
  intro X hP hw hK hc i pins s σ H E I hf st hg
  subst hP hw hK
  obtain ⟨xs,hx,hl⟩:=hg
  obtain ⟨ia,ra,pa,za⟩:=I.list hx
  have hla:=ra.length
  refine zt_end (I.ok.hd hc) (show ZT s.heap n a b i from st) la pa.isList (by simp; omega) fun h' k=>⟨rfl,?_⟩
  exact I.turnedL (t':=s.toks) (its:=[n+4,n+2,n+3,n,n+1]) (fun c o hc' e=>by
   have hc'':¬ (c=n+4 ∨ c=n+2 ∨ c=n+3 ∨ c=n ∨ c=n+1):=by simpa using hc'
   refine k c o ?_ e
   rcases Nat.lt_or_ge c n with q | q
   ·exact .inl q
   ·refine .inr ?_
    obtain ⟨k,rfl⟩:=Nat.exists_eq_add_of_le q
    have:¬ k < 5:=fun lt=>by
     match k,lt with
     | 0,_=>exact hc'' (.inr (.inr (.inr (.inl rfl))))
     | 1,_=>exact hc'' (.inr (.inr (.inr (.inr rfl))))
     | 2,_=>exact hc'' (.inr (.inl rfl))
     | 3,_=>exact hc'' (.inr (.inr (.inl rfl)))
     | 4,_=>exact hc'' (.inl rfl)
    exact Nat.add_le_add_left (Nat.le_of_not_lt this) n) hf
 self:=fun _ _ _ _ _ st h=>wpAny_pyIter_zip (show IsZip _ _ _ _ _ from st.z) h
section
variable {X:Cx}
def iZipT (K:PySem.W.Frag) (ta:TA):TI:=fun σ H R=>ta σ H fun vs H1=>∃ a b,vs=[.ref a,.ref b]∧(∃ xs,SqL K H1 a xs)∧(∃ ys,SqT K H1 b ys)∧R (Itzt K a b) H1
theorem pi_zipT {elts:List Expr} {ek:Nat} {epos:Pos} {a b:Expr} {ta:TA} {p pos:Pos} (hg:Gl X "zip") (hm:X.mg "zip" = none) (ha:PA X [a,b] ta) (hs:starEach [a,b] X.env=[(false,eval a X.env),(false,eval b X.env)]:=by rfl) (hs2:starEach [b] X.env=[(false,eval b X.env)]:=by rfl) :
  PI X (.Tuple elts ek epos) (.Call (.Name "zip" p) [a,b] [] pos) (iZipT X.K ta):=by
 intro pins s σ H R I h
 refine Call_ (ld_blt I hg hm boot_zip (PyProof.Rows.callWith_type1 (thn (ha pos pins s σ H _ I h) fun us s1 ⟨vs,H1,I1,r1,q1⟩=>?_) (by rw [hs,hs2]) (by rw [hs2]; rfl)))
 obtain ⟨l1,l2,e,⟨xs,hx⟩,⟨ys,hy⟩,q⟩:=q1
 subst e
 obtain ⟨u,v,rfl,ru,rv⟩:=vals2 r1
 cases ru
 cases rv
 obtain ⟨ia,ra,pa,za⟩:=I1.list hx
 obtain ⟨ib,rb,pb,zb⟩:=I1.tuple hy
 have la:l1 < s1.heap.objs.size:=by
  obtain ⟨o,e,_⟩:=pa.isList
  exact Heap.lt_size e
 have lb:l2 < s1.heap.objs.size:=by
  obtain ⟨o,e,_⟩:=pb
  exact Heap.lt_size e
 refine zt_new pa.isList pb fun h' hz hsz hk=>wpAny_pyIter_zip hz.z ?_
 have fr:∀ b,s1.heap.objs.size≤b→FpOk X pins H1 b:=fun b hb=>I1.fpOk hb (I1.hok.fresh hb)
 refine ⟨_,[s1.heap.objs.size+4,s1.heap.objs.size+2,s1.heap.objs.size+3,s1.heap.objs.size,s1.heap.objs.size+1],_,_,H1,rfl,I1.kept (t':=s1.toks) hk,turn_zt la lb,hz,fun b hb=>?_,q⟩
 have hb':b=s1.heap.objs.size+4 ∨ b=s1.heap.objs.size+2 ∨ b=s1.heap.objs.size+3 ∨ b=s1.heap.objs.size ∨ b=s1.heap.objs.size+1:=by simpa using hb
 rcases hb' with rfl | rfl | rfl | rfl | rfl
 ·exact fr _ (Nat.le_add_right _ _)
 ·exact fr _ (Nat.le_add_right _ _)
 ·exact fr _ (Nat.le_add_right _ _)
 ·exact fr _ (Nat.le_refl _)
 ·exact fr _ (Nat.le_add_right _ _)
end
end L2
namespace L2
open PySem PySem.Spec PyProof.Rows
section
variable {X:Cx}
def rCountI:V→List V→Hp→VK→Prop:=fun x vs H Q=>∃ (l:Addr) (ns:List Int) (k:Int),x=.ref l∧vs=[.int k]∧H l=some (.lst (ns.map V.int))∧Q (.int ((ns.count k:Nat):Int)) H
theorem mt_countI:MtM X "list.count" rCountI:=by
 intro pins s σ H x vs v us Q I rx rv h
 obtain ⟨l,ns,k,rfl,rfl,hH,q⟩:=h
 cases rx
 obtain ⟨u,rfl,⟨t,rfl⟩⟩:=rv.one
 obtain ⟨z,its,n,r,hl,e⟩:=I.lstM hH
 have hI:IntsAre its ns:=intsAre_of r
 exact count_list_ints ⟨_,e,rfl,n,rfl⟩ hI ⟨.int _,H,I.tok _,⟨_,rfl⟩,q⟩
def CDivL (_ j:Int):Prop:=j≠0∧j.natAbs < 2 ^ 9000
theorem op_fdivL {X:Cx}:OpR X (binaryOp .FloorDiv) (rI CDivL fun i j=>.int (i.fdiv j)) :=
 opI fun _ _ _ _ _ _ _ hc q=>floordiv_int hc.1 q (.inl (PyProof.noPylong_of_log2 ((Nat.log2_lt (by have:=hc.1; omega)).mpr hc.2)))
end
end L2
namespace My
open PySem L2 PyProof.Rows
open List (getElem?_map length_take length_drop map_cons getD_eq_getElem?_getD getElem?_append_left getElem?_append_right getElem?_eq_getElem take_length length_map map_append length_append mem_append mem_singleton mem_of_getElem? mem_cons_self length_range getElem?_range take_append_drop getElem?_zipWith length_zipWith map_map map_congr_left mem_range mem_map mem_cons_of_mem mem_cons length_cons foldl_append mem_of_mem_take filter_cons_of_pos filter_cons_of_neg flatten_cons getElem?_eq_none length_singleton getElem?_set_self getElem?_set_ne length_set replicate_succ length_replicate getElem?_replicate nodup_nil map_set foldl_cons idxOf_cons zip_cons_cons mem_append_left zip_append idxOf_lt_length_iff getElem_idxOf nil_append mem_iff_getElem? getElem?_zip_eq_some length_zip take_of_length_le any_eq_true sum_cons map_inj_left map_nil ext_getElem? range_succ drop_of_length_le all_eq_true mem_flatten)
open PySem.W (Frag mg_of mg_none_of)
open PySem.F (plainAttrs_list slot_list_index type_list_index slot_list_extend type_list_extend slot_list_insert type_list_insert)
theorem sz1:1≤sizeLine:=by decide
theorem sz2:2≤sizeLine:=by decide
theorem sz4:4≤sizeLine:=by decide
def top (i:Nat):Stmt:=PySem.Challenge.pw_evenkin_k33_whole_lots_of_any_table.main.body.getD i (.Pass ⟨0,0,0,0⟩)
abbrev sGd:Stmt:=top 1
abbrev sFr:Stmt:=top 2
abbrev sSum2:Stmt:=top 3
abbrev sMul2:Stmt:=top 4
abbrev sSumAll:Stmt:=top 5
abbrev sBottom:Stmt:=top 6
abbrev sTopOver:Stmt:=top 7
abbrev sCol:Stmt:=top 9
abbrev sCols:Stmt:=top 10
abbrev sDot:Stmt:=top 11
abbrev sEach:Stmt:=top 12
abbrev sProd:Stmt:=top 13
abbrev sInOne:Stmt:=top 14
abbrev sInSq:Stmt:=top 15
abbrev sIsSq:Stmt:=top 16
abbrev sSide:Stmt:=top 18
abbrev sNumbered:Stmt:=top 20
abbrev sSums:Stmt:=top 21
abbrev sSplit:Stmt:=top 22
abbrev sCoarsest:Stmt:=top 23
abbrev sTogether:Stmt:=top 24
abbrev sAlike:Stmt:=top 25
abbrev sCome:Stmt:=top 27
abbrev sShared:Stmt:=top 28
abbrev sKeepsHue:Stmt:=top 29
abbrev sKeepHues:Stmt:=top 30
abbrev sGoes:Stmt:=top 31
abbrev sLotSh:Stmt:=top 32
abbrev sTabOf:Stmt:=top 33
abbrev sJShare:Stmt:=top 34
abbrev sJRow:Stmt:=top 35
abbrev sJoin:Stmt:=top 36
abbrev sMerged:Stmt:=top 37
abbrev sLotsOf:Stmt:=top 38
abbrev sCellAt:Stmt:=top 40
abbrev sDraws:Stmt:=top 41
abbrev sSquare:Stmt:=top 42
abbrev sWebP:Stmt:=top 43
abbrev sOrder:Stmt:=top 44
abbrev sLift:Stmt:=top 45
abbrev sLRen:Stmt:=top 46
abbrev sTwo:Stmt:=top 47
abbrev sLow:Stmt:=top 48
abbrev sOrders:Stmt:=top 49
abbrev sOnto:Stmt:=top 50
abbrev sTabO:Stmt:=top 51
abbrev sMix:Stmt:=top 52
abbrev sLLots:Stmt:=top 53
abbrev sLEven:Stmt:=top 54
abbrev sWithin:Stmt:=top 55
abbrev sOne:Stmt:=top 56
abbrev sLaw:Stmt:=top 57
section
variable {K:Frag}
def bodyAt (s:Stmt) (i:Nat):Stmt:=(defBody s).getD i (.Pass ⟨0,0,0,0⟩)
def asgVal (s:Stmt):Expr:=match s with
 | .Assign _ v _=>v
 | .Return (some v) _=>v
 | _=>.Constant .none 0 ⟨0,0,0,0⟩
def lcScope (e:Expr):Scope:=match e with
 | .ListComp _ _ sc _=>sc
 | _=>{ kind:=.function,names:=[],isGenerator:=false,isCoroutine:=false }
def tupAt (e:Expr) (i:Nat):Expr:=match e with
 | .Tuple es _ _=>es.getD i (.Constant .none 0 ⟨0,0,0,0⟩)
 | _=>.Constant .none 0 ⟨0,0,0,0⟩
theorem ix_tupK {K:Frag} {X:Cx} (h:X.K=K:=by rfl):IxR X (rIxT K):=by subst h; exact ix_tup
theorem Same.sq {H H':Hp} {a:Addr} {xs:List V} (e:Same H H') (h:SqL K H a xs):SqL K H' a xs:=(Same.keep (ok:=any) e).seq trivial h
theorem take_snoc {α:Type} {xs:List α} {i:Nat} {x:α} (h:xs[i]? = some x):xs.take (i+1)=xs.take i++[x]:=by
 rw [List.take_succ,h]
 rfl
theorem map_get {α β:Type} {f:α→β} {xs:List α} {i:Nat} {y:β} (h:(xs.map f)[i]? = some y):∃ x,xs[i]? = some x∧y=f x:=by
 rw [getElem?_map] at h
 obtain ⟨x,h1,h2⟩:=Option.map_eq_some_iff.mp h
 exact ⟨x,h1,h2.symm⟩
theorem cut_ints (ns:List Int) (lo hi:Option Int):∃ ms:List Int,cutV (ns.map V.int) lo hi=ms.map V.int∧ms.length≤ns.length:=by
 unfold cutV
 rw [←List.map_drop,←List.map_take]
 exact ⟨_,rfl,by rw [length_take,length_drop]; omega⟩
def tMid (t u:TS):TS:=fun D σ H=>∃ J:L2.St→Hp→Prop,t { D with nx:=J } σ H∧∀ σ' H',J σ' H'→u D σ' H'
theorem pss_mid {X:Cx} {st:Stmt} {rest:List Stmt} {t u:TS} (h1:PS X st t) (h2:PSs X rest u):PSs X (st :: rest) (tMid t u):=by
 intro pins s σ H D I h
 obtain ⟨J,h,k⟩:=h
 refine wpAny_execs_cons (thn (h1 pins s σ H { D with nx:=J } I h) fun f s1 q=>?_)
 cases f with
 | next =>
  obtain ⟨σ',H',I',q⟩:=q
  exact h2 pins s1 σ' H' D I' (k σ' H' q)
 | ret v=>exact q
 | brk=>exact q
 | cont=>exact q
def dI (ns:List Int):PyData:=.list (ns.map .int)
theorem lay_ints:∀ ns:List Int,PyData.canLayAll0 (ns.map .int)=true∧PyData.depthAll (ns.map .int)=0
 | []=>⟨rfl,rfl⟩
 | n :: ns=>by
  obtain ⟨h1,h2⟩:=lay_ints ns
  refine ⟨?_,?_⟩
  ·rw [map_cons]
   simp only [PyData.canLayAll0,PyData.canLay0,h1,Bool.and_self]
  ·rw [map_cons]
   simp only [PyData.depthAll,PyData.depth,h2,Nat.max_self]
theorem lay_dI (ns:List Int):(dI ns).canLay0=true∧(dI ns).depth≤1:=by
 obtain ⟨h1,h2⟩:=lay_ints ns
 unfold dI
 exact ⟨by simp only [PyData.canLay0,h1],by simp only [PyData.depth,h2]; exact Nat.le_refl _⟩
theorem das_ints {ok:Addr→Prop} {H:Hp}:∀ ns:List Int,DAs K ok H (ns.map V.int) (ns.map .int)
 | []=>.nil
 | n :: ns=>.cons (.int n) (das_ints ns)
theorem daI {ok:Addr→Prop} {H:Hp} {a:Addr} {ns:List Int} (n:ok a) (h:SqL K H a (ns.map V.int)):DA K ok H (.ref a) (dI ns):=.lst n h (das_ints ns)
theorem eqv_ints:∀ a b:List Int,PyData.eqvAll (a.map .int) (b.map .int)=decide (a=b)
 | [],[]=>rfl
 | [],b :: bs=>rfl
 | a :: as,[]=>rfl
 | a :: as,b :: bs=>by
  rw [map_cons,map_cons]
  simp only [PyData.eqvAll,PyData.eqv,eqv_ints as bs]
  by_cases h:a=b
  ·subst h
   by_cases h2:as=bs
   ·subst h2; simp
   ·simp [h2]
  ·simp [h]
theorem eqv_dI (a b:List Int):PyData.eqv (dI a) (dI b)=decide (a=b):=by
 unfold dI
 simp only [PyData.eqv]
 exact eqv_ints a b
end
section
variable {P:Program} {w:World} {K:Frag} {mg:Str→Option Value} {base:Heap}
theorem ix_listK {K:Frag} {X:Cx} (h:X.K=K:=by rfl):IxR X (rIxL K):=by subst h; exact ix_list
theorem at_ref {rs:List Addr} {j:Nat} {r:Addr} (h:rs[j]? = some r):atI (rs.map V.ref) (j:Int)=some (.ref r):=atI_nat (by rw [getElem?_map,h]; rfl)
theorem getD_some {α:Type} {xs:List α} {j:Nat} {x d:α} (h:xs[j]? = some x):xs.getD j d=x:=by rw [getD_eq_getElem?_getD,h]; rfl
theorem snoc_get {α:Type} {xs:List α} {x y:α} {i:Nat} (h:(xs++[x])[i]? = some y):xs[i]? = some y ∨ (i=xs.length∧y=x):=by
 by_cases hi:i < xs.length
 ·rw [getElem?_append_left hi] at h
  exact .inl h
 ·rw [getElem?_append_right (by omega)] at h
  cases e:i - xs.length with
  | zero=>rw [e] at h; cases h; exact .inr ⟨by omega,rfl⟩
  | succ j=>rw [e] at h; cases h
theorem get_lt {α:Type} {l:List α} {i:Nat} (h:i < l.length):∃ x,l[i]? = some x:=⟨l[i],getElem?_eq_getElem h⟩
theorem lt_get {α:Type} {l:List α} {i:Nat} {x:α} (h:l[i]? = some x):i < l.length:=(List.getElem?_eq_some_iff.mp h).1
theorem cmul_l {x y:Int} (h1:-(2 ^ 64) < x) (h2:x < 2 ^ 64):CMul x y:=.inl ⟨h1,h2⟩
structure BltR (mg:Str→Option Value):Prop where
 abs:mg "abs" = none
 len:mg "len" = none
 sum:mg "sum" = none
 zip:mg "zip" = none
 range:mg "range" = none
 enum:mg "enumerate" = none
 isi:mg "isinstance" = none
 verr:mg "ValueError" = none
 int:mg "int" = none
 bool:mg "bool" = none
 list:mg "list" = none
 tuple:mg "tuple" = none
def CMulN (i j:Int):Prop:=∃ n,n≤1000000∧M11.Bn n i∧M11.Bn n j
theorem op_mulN {X:Cx}:OpR X (binaryOp .Mult) (rI CMulN fun i j=>.int (i * j)) :=
 opI fun _ _ _ _ _ _ _ hc q=>mul_int q (by
  obtain ⟨n,h,a,b⟩:=hc
  have e:(2:Nat) ^ 20=1048576:=by decide
  exact IntMulOk.of_bits (Nat.le_trans (bits_le a) (by omega)) (Nat.le_trans (bits_le b) (by omega)))
def tupF (l:Int × Int):HO:=.tup [.int l.1,.int l.2]
def TM.dot (w r:List Int):Int:=(List.zipWith (fun a b=>a * b) w r).sum
def spG:Sp:=fun vs H Q _=>∃ a b:Int,vs=[.int a,.int b]∧Q (.int (M11.G a b)) H
def spF:Sp:=fun vs H Q _=>∃ t b:Int,vs=[.int t,.int b]∧b≠0∧b.natAbs < 2 ^ 9000∧∀ p,H p=none→Q (.ref p) (upd H p (tupF (M11.low t b)))
theorem scGd:FnScope ["number","other","rest"] ["number","other"] (defScope sGd):=by constructor<;>first|rfl|decide +kernel
theorem ok_gd {f:Addr} {fd:FuncData} (B:BltR mg) (F:Fun K "greatest_divisor" "greatest_divisor" sGd f fd):FnOk P w K mg base CX0 1 f fd ["number","other"] spG:=by
 refine F.ok scGd (fun vs H Q E h=>?_) (fun cdv A outer s H vs Q E hr h=>?_)
 ·obtain ⟨a,b,rfl,_⟩:=h
  rfl
 ·obtain ⟨a,b,rfl,k⟩:=h
  refine ⟨_,pss_cons (ps_while PassesOwn.never (pt_cmpR op_ne (pv 1) pe_int (nomark _))
    (pss_cons (ps_set (i:=2) scGd.nd rfl (Or.inl rfl) (pe_op op_modN (pv 0) (pv 1)))
    (pss_cons (ps_set (i:=0) scGd.nd rfl (Or.inl rfl) (pv 1))
    (pss_one (ps_set (i:=1) scGd.nd rfl (Or.inl rfl) (pv 2))))))
   (pss_one (ps_ret (pe_callB call_abs (by rfl) B.abs boot_abs (pa_cons (pv 0) pa_nil)))),?_⟩
  refine while_by (fun σ H'=>∃ (x y:Int) (r:Option V),σ=[some (.int x),some (.int y),r]∧H'=H∧Int.gcd x y=Int.gcd a b)
   (fun σ _=>match σ with | [_,some (.int y),_]=>y.natAbs | _=>0) ⟨a,b,none,rfl,rfl,rfl⟩ ?_ ?_
  ·rintro σ H' ⟨x,y,r,rfl,rfl,hg⟩
   refine ⟨_,rfl,rfl,_,rfl,?_⟩
   by_cases hy:y=0
   ·subst hy
    refine iteNS rfl ?_
    refine ⟨_,rfl,x,rfl,?_⟩
    have e:(if x < 0 then -x else x)=M11.G a b:=by
     rw [M11.gcd_end]
     show ((Int.gcd x 0:Nat):Int)=((Int.gcd a b:Nat):Int)
     rw [hg]
    rw [e]
    exact k
   ·refine iteNP (fun z=>hy (V.int.inj z)) ?_
    refine ⟨_,rfl,_,rfl,x,y,rfl,rfl,hy,_,rfl,_,rfl,?_⟩
    exact ⟨⟨y,x.fmod y,_,rfl,rfl,by rw [M11.gcd_step]; exact hg⟩,M11.fmod_small x y hy⟩
  ·rintro σ H' Q1 Q2 hq ⟨v,e,sc,c,ec,q⟩
   exact ⟨v,e,sc,c,ec,hq _ _ q⟩
theorem scFr:FnScope ["top","bottom","divisor"] ["top","bottom"] (defScope sFr):=by constructor<;>first|rfl|decide +kernel
theorem cdivB {t b:Int} (h:b≠0) (hb:b.natAbs < 2 ^ 9000) (u d:Int) (e:d=M11.sgn t b):CDivL u d:=by
 subst e
 exact ⟨M11.sgn_ne h,Nat.lt_of_le_of_lt (M11.sgn_le h) hb⟩
theorem ok_fr {f fG:Addr} {fd fdG:FuncData} (B:BltR mg) (F:Fun K "fraction_of" "fraction_of" sFr f fd) (DG:Dn K mg "greatest_divisor" sGd ["number","other"] fG fdG) (GG:FnOk P w K mg base CX0 1 fG fdG ["number","other"] spG):FnOk P w K mg base CX0 2 f fd ["top","bottom"] spF:=by
 refine F.ok scFr (fun vs H Q E h=>?_) (fun cdv A outer s H vs Q E hr h=>?_)
 ·obtain ⟨a,b,rfl,_⟩:=h
  rfl
 ·obtain ⟨t,b,rfl,hb,hz,k⟩:=h
  refine ⟨_,pss_cons (ps_set (i:=2) scFr.nd rfl (Or.inl rfl) (pe_fn DG GG hr rfl (pa_cons (pv 0) (pa_cons (pv 1) pa_nil))))
   (pss_cons (ps_if (pt_cmpR op_lt (pv 1) pe_int (nomark _)) (pss_one (ps_set (i:=2) scFr.nd rfl (Or.inl rfl) (pe_un un_neg (pv 2)))) pss_nil)
   (pss_one (ps_ret (pe_tup (pa_cons (pe_op op_fdivL (pv 0) (pv 2)) (pa_cons (pe_op op_fdivL (pv 1) (pv 2)) pa_nil)))))),?_⟩
  refine ⟨_,rfl,_,rfl,t,b,rfl,?_⟩
  refine ⟨_,rfl,_,_,rfl,rfl,_,rfl,?_⟩
  by_cases hn:b < 0
  ·refine itDP hn ?_
   have e:-(M11.G t b)=M11.sgn t b:=(if_pos hn).symm
   refine ⟨_,rfl,_,rfl,?_⟩
   refine ⟨_,rfl,_,rfl,_,_,rfl,rfl,cdivB hb hz _ _ e,_,rfl,_,rfl,_,_,rfl,rfl,cdivB hb hz _ _ e,sz2,fun p hp=>?_⟩
   have q:=k p hp
   unfold M11.low at q
   rw [←e] at q
   exact q
  ·refine itDN hn ?_
   have e:M11.G t b=M11.sgn t b:=(if_neg hn).symm
   refine ⟨_,rfl,_,rfl,_,_,rfl,rfl,cdivB hb hz _ _ e,_,rfl,_,rfl,_,_,rfl,rfl,cdivB hb hz _ _ e,sz2,fun p hp=>?_⟩
   have q:=k p hp
   unfold M11.low at q
   rw [←e] at q
   exact q
theorem at_hd (x:V) (xs:List V):atI (x :: xs) 0=some x:=atI_nat (xs:=x :: xs) (j:=0) rfl
theorem at_snd (x y:V) (xs:List V):atI (x :: y :: xs) 1=some y:=atI_nat (xs:=x :: y :: xs) (j:=1) rfl
theorem lc_vals {a:Addr} {xs:List V} {te:TE} {Q:Hp→Prop} {σ:L2.St} {H1:Hp} {D:Addr} (vs:List V) (hlen:vs.length=xs.length) (hm:xs.length≤900) (hD:H1 D=none) (hxs:SqL K H1 a xs)
  (hs:∀ (i:Nat) (x v:V) (H':Hp),xs[i]? = some x→vs[i]? = some v→Same H1 H'→te (σ++[some x]) H' fun u H3=>u=v∧Same H' H3)
  (hd:∀ H',Same H1 H'→H' D=some (.lst vs)→Q H')
  (mono:∀ σ H Q Q',(∀ v H1,Q v H1→Q' v H1)→te σ H Q→te σ H Q') :
  ∃ W:Nat→Nat→List V→Hp→Prop,(∃ m,W 0 m [] (upd H1 D (.lst []))) ∧
   ∀ i m ys H',W i m ys H'→H' D=some (.lst ys)∧(((Itl K a).stop i H'∧Q H') ∨ ((Itl K a).go i H'∧∀ z H2,(Itl K a).yld i H' z H2→te (σ++[some z]) H2 fun v H3=>H3 D=some (.lst ys)∧ys.length < sizeLine∧∃ m',m' < m∧W (i+1) m' (ys++[v]) (upd H3 D (.lst (ys++[v]))))):=by
 refine lc_list (xs:=xs) (fun i ys H'=>ys=vs.take i∧Same H1 H'∧H' D=some (.lst ys)) ⟨by rw [List.take_zero],Same.upd hD,upd_same⟩ (fun i ys H' _ ⟨_,sm,eD⟩=>⟨Same.sq sm hxs,eD⟩) ?_ ?_ mono
 ·rintro i x ys H4 hx ⟨rfl,s4,eD⟩
  have hi:i < vs.length:=by rw [hlen]; exact (List.getElem?_eq_some_iff.mp hx).1
  have hv:vs[i]? = some vs[i]:=getElem?_eq_getElem hi
  refine mono _ _ _ _ ?_ (hs i x vs[i] H4 hx hv s4)
  rintro u H5 ⟨rfl,s5⟩
  refine ⟨s5 _ _ eD,small1000 (by rw [length_take]; omega),by rw [take_snoc hv],fun b o e=>?_,upd_same⟩
  rw [upd_ne (ne_of_none e hD)]
  exact s5 _ _ (s4 _ _ e)
 ·rintro ys H4 ⟨rfl,s4,eD⟩
  rw [←hlen,take_length] at eD
  exact hd H4 s4 eD
theorem set2 (σ:L2.St) (a b:Option V) (x y:V):((σ++[a,b]).set σ.length (some x)).set (σ.length+1) (some y)=σ++[some x,some y]:=by
 rw [List.set_append_right _ _ (Nat.le_refl _),Nat.sub_self,List.set_append_right _ _ (Nat.le_succ _)]
 have:σ.length+1 - σ.length=1:=by omega
 rw [this]
 rfl
theorem lc_zip {a b:Addr} {xs ys:List V} {te:TE} {Q:VK} {σ:L2.St} {n:Nat} {H1:Hp} (vs:List V) (hn:σ.length=n) (hx:SqL K H1 a xs) (hy:SqL K H1 b ys) (hlx:xs.length=vs.length) (hly:ys.length=vs.length) (hm:vs.length≤900)
  (hs:∀ (i:Nat) (x y v:V) (H':Hp),xs[i]? = some x→ys[i]? = some y→vs[i]? = some v→Same H1 H'→te (σ++[some x,some y]) H' fun u H3=>u=v∧Same H' H3)
  (hd:∀ D H',Same H1 H'→H' D=some (.lst vs)→Q (.ref D) H')
  (mono:∀ σ H Q Q',(∀ v H1,Q v H1→Q' v H1)→te σ H Q→te σ H Q'):LcW 2 (Itz K a b) (g2 K n) tYes te σ H1 Q:=by
 subst hn
 intro D hD
 refine ⟨fun i m zs H'=>m=vs.length - i∧i≤vs.length∧zs=vs.take i∧Same H1 H'∧H' D=some (.lst zs),⟨vs.length,by simp,Nat.zero_le _,by rw [List.take_zero],Same.upd hD,upd_same⟩,?_⟩
 rintro i m zs H2 ⟨rfl,hi,rfl,s2,eD⟩
 refine ⟨eD,?_⟩
 by_cases hlt:i < vs.length
 ·have ex:xs[i]? = some xs[i]:=getElem?_eq_getElem (by omega)
  have ey:ys[i]? = some ys[i]:=getElem?_eq_getElem (by omega)
  have ev:vs[i]? = some vs[i]:=getElem?_eq_getElem hlt
  refine .inr ⟨⟨xs,ys,_,_,Same.sq s2 hx,Same.sq s2 hy,ex,ey⟩,?_⟩
  rintro z H3 ⟨t,x,y,rfl,ht,rfl,hx',hy'⟩ os los
  have hx1:=hx' xs (Same.sq s2 hx)
  have hy1:=hy' ys (Same.sq s2 hy)
  match os,los with
  | [o1,o2],_ =>
   have s3:Same H2 (upd H2 t (.tup [x,y])):=Same.upd ht
   refine ⟨t,[x,y],rfl,SqT.of upd_same,rfl,x,[y],rfl,y,[],rfl,rfl,⟨[some x,some y],set2 σ o1 o2 x y,rfl⟩,?_⟩
   dsimp only [tYes]
   rw [if_pos rfl,set2 σ o1 o2 x y]
   refine mono _ _ _ _ ?_ (hs i x y vs[i] _ hx1 hy1 ev (s2.trans s3))
   rintro u H5 ⟨rfl,s5⟩
   refine ⟨s5 _ _ (s3 _ _ eD),small1000 (by rw [length_take]; omega),vs.length - (i+1),by omega,rfl,hlt,by rw [take_snoc ev],fun c o e=>?_,upd_same⟩
   rw [upd_ne (ne_of_none e hD)]
   exact s5 _ _ (s3 _ _ (s2 _ _ e))
 ·have:i=vs.length:=by omega
  subst this
  rw [take_length] at eD ⊢
  exact .inl ⟨⟨xs,ys,Same.sq s2 hx,Same.sq s2 hy,.inl (by omega)⟩,hd D H2 s2 eD⟩
structure GrdV (H:Hp) (rs:List Addr) (X:List (List V)):Prop where
 len:rs.length=X.length
 row:∀ (i:Nat) (r:Addr) (x:List V),rs[i]? = some r→X[i]? = some x→H r=some (.lst x)
theorem GrdV.mono {H H':Hp} {rs:List Addr} {X:List (List V)} (g:GrdV H rs X) (s:Same H H'):GrdV H' rs X:=⟨g.len,fun i r x h1 h2=>s _ _ (g.row i r x h1 h2)⟩
def GrdAt (H:Hp) (a:Addr) (X:List (List V)):Prop:=∃ rs:List Addr,H a=some (.lst (rs.map V.ref))∧GrdV H rs X
theorem GrdAt.mono {H H':Hp} {a:Addr} {X:List (List V)} (g:GrdAt H a X) (s:Same H H'):GrdAt H' a X:=by
 obtain ⟨rs,h,r⟩:=g
 exact ⟨rs,s _ _ h,r.mono s⟩
def NewR (H H':Hp) (u:V) (x:List V):Prop:=∃ p,u=.ref p∧H' p=some (.lst x)∧H p=none
def GrdI (H1:Hp) (D:Addr) (X:List (List V)) (i:Nat) (ys:List V) (H':Hp):Prop:=∃ rs:List Addr,ys=rs.map V.ref∧rs.length=i∧Same H1 H'∧H' D=some (.lst ys)∧(∀ r ∈ rs,r≠D)∧∀ (j:Nat) (r:Addr) (x:List V),rs[j]? = some r→X[j]? = some x→H' r=some (.lst x)
theorem GrdI.start {H1:Hp} {D:Addr} {X:List (List V)} (hD:H1 D=none):GrdI H1 D X 0 [] (upd H1 D (.lst [])):=⟨[],rfl,rfl,Same.upd hD,upd_same,(fun r h=>by cases h),(fun j r x h _=>by cases h)⟩
theorem GrdI.step {H1 H4 H5:Hp} {D:Addr} {X:List (List V)} {i:Nat} {ys:List V} {u:V} {x:List V} (hD:H1 D=none) (g:GrdI H1 D X i ys H4) (hx:X[i]? = some x) (hu:NewR H4 H5 u x) (s5:Same H4 H5) (hm:i < 900) :
  H5 D=some (.lst ys)∧ys.length < sizeLine∧GrdI H1 D X (i+1) (ys++[u]) (upd H5 D (.lst (ys++[u]))):=by
 obtain ⟨rs,rfl,lr,s4,eD,nD,hr⟩:=g
 obtain ⟨p,rfl,hp,hn⟩:=hu
 have npD:p≠D:=fun z=>by rw [z,eD] at hn; cases hn
 refine ⟨s5 _ _ eD,small1000 (by rw [length_map]; omega),rs++[p],by rw [map_append]; rfl,by rw [length_append,lr]; rfl,fun b o e=>?_,upd_same,fun r h=>?_,fun j r y h1 h2=>?_⟩
 ·rw [upd_ne (ne_of_none e hD)]
  exact s5 _ _ (s4 _ _ e)
 ·rcases mem_append.mp h with z | z
  ·exact nD r z
  ·rw [mem_singleton.mp z]; exact npD
 ·rcases snoc_get h1 with z | ⟨e,z⟩
  ·rw [upd_ne (nD r (mem_of_getElem? z))]
   exact s5 _ _ (hr j r y z h2)
  ·subst z
   rw [e,lr,hx] at h2
   cases h2
   rw [upd_ne npD]
   exact hp
theorem GrdI.done {H1 H':Hp} {D:Addr} {X:List (List V)} {ys:List V} (g:GrdI H1 D X X.length ys H'):Same H1 H'∧GrdAt H' D X:=by
 obtain ⟨rs,rfl,lr,s4,eD,nD,hr⟩:=g
 exact ⟨s4,rs,eD,lr,hr⟩
def spCol:Sp:=fun vs H Q _=>∃ (a:Addr) (X:List (List V)) (j:Nat),vs=[.ref a,.int (j:Int)]∧GrdAt H a X∧X.length≤900∧(∀ x ∈ X,j < x.length)∧∀ D H',Same H H'→H D=none→H' D=some (.lst (X.map fun x=>(x[j]?).getD .non))→Q (.ref D) H'
theorem scCol:FnScope ["rows","place"] ["rows","place"] (defScope sCol):=by constructor<;>first|rfl|decide +kernel
theorem lcCol:LcScopes (defScope sCol) ["rows","place"] (lcScope (asgVal (bodyAt sCol 0))) ["row"]:=by constructor<;>first|rfl|decide +kernel
theorem ok_col {f:Addr} {fd:FuncData} (F:Fun K "column_of" "column_of" sCol f fd):FnOk P w K mg base CX0 1 f fd ["rows","place"] spCol:=by
 refine F.ok scCol (fun vs H Q E h=>?_) (fun cdv A outer s H vs Q E hr h=>?_)
 ·obtain ⟨a,X,j,rfl,_⟩:=h
  rfl
 ·obtain ⟨a,X,j,rfl,⟨rs,ha,R⟩,hX,hj,q⟩:=h
  refine ⟨_,pss_one (ps_ret (pe_lc1 rfl lcCol rfl (pi_list (pv 0)) (fun _ _ _=>pe_ix (ix_listK (K:=K)) (pv 2) (pv 1) (fun _ _=>rfl)))),?_⟩
  refine ⟨_,rfl,a,rfl,⟨_,SqL.of ha⟩,fun D hD=>?_⟩
  refine lc_vals (X.map fun x=>(x[j]?).getD .non) (by rw [length_map,length_map,R.len]) (by rw [length_map,R.len]; exact hX) hD (SqL.of ha) ?_ ?_ ?_
  ·intro i x v H' hx hv s'
   obtain ⟨r,hr,rfl⟩:=map_get hx
   obtain ⟨y,hy,rfl⟩:=map_get hv
   obtain ⟨z,hz⟩:=get_lt (hj y (mem_of_getElem? hy))
   refine ⟨_,rfl,_,rfl,r,_,_,z,rfl,rfl,SqL.of (s' _ _ (R.row i r y hr hy)),atI_nat hz,?_,Same.refl _⟩
   rw [hz]
   rfl
  ·intro H' s' eD
   exact q D H' s' hD eD
  ·rintro σ H' Q1 Q2 hq ⟨v,e,v',e',a1,a2,a3,a4,a5,a6,a7,a8,g⟩
   exact ⟨v,e,v',e',a1,a2,a3,a4,a5,a6,a7,a8,hq _ _ g⟩
def colsV (X:List (List V)) (n:Nat):List (List V):=(List.range n).map fun j=>X.map fun x=>(x[j]?).getD .non
def spCols:Sp:=fun vs H Q _=>∃ (a:Addr) (X:List (List V)) (n:Nat),vs=[.ref a]∧GrdAt H a X∧X.length≤900∧n≤900∧(∀ x ∈ X,x.length=n)∧(X=[]→n=0)∧∀ D H',Same H H'→H D=none→GrdAt H' D (colsV X n)→Q (.ref D) H'
theorem scCols:FnScope ["rows","width"] ["rows"] (defScope sCols):=by constructor<;>first|rfl|decide +kernel
theorem lcCols:LcScopes (defScope sCols) ["rows","width"] (lcScope (asgVal (bodyAt sCols 1))) ["place"]:=by constructor<;>first|rfl|decide +kernel
theorem ok_cols {f fC:Addr} {fd fdC:FuncData} (B:BltR mg) (F:Fun K "columns_of" "columns_of" sCols f fd) (DC:Dn K mg "column_of" sCol ["rows","place"] fC fdC) (GC:FnOk P w K mg base CX0 1 fC fdC ["rows","place"] spCol):FnOk P w K mg base CX0 2 f fd ["rows"] spCols:=by
 refine F.ok scCols (fun vs H Q E h=>?_) (fun cdv A outer s H vs Q E hr h=>?_)
 ·obtain ⟨a,X,n,rfl,_⟩:=h
  rfl
 ·obtain ⟨a,X,n,rfl,⟨rs,ha,R⟩,hX,hn,hw,h0,q⟩:=h
  refine ⟨_,pss_mid (ps_set (i:=1) scCols.nd rfl (Or.inl rfl) (pe_ifExp (pt_truth (pv 0) (fun _=>rfl)) (pe_callB call_len_seq (by rfl) B.len boot_len (pa_cons (pe_ix ix_list (pv 0) pe_int (fun _ _=>rfl)) pa_nil)) pe_int))
   (pss_one (ps_ret (pe_lc1 rfl lcCols rfl (pi_range1 rfl B.range (pa_cons (pv 1) pa_nil)) (fun _ _ _=>pe_fn DC GC hr rfl (pa_cons (pv 0) (pa_cons (pv 2) pa_nil)))))),?_⟩
  refine ⟨fun σ H1=>σ=[some (.ref a),some (.int (n:Int))]∧H1=H,?_,?_⟩
  ·refine ⟨_,rfl,!(rs.map V.ref).isEmpty,.inl ⟨_,SqL.of ha,rfl⟩,?_⟩
   have lr:=R.len
   match rs,X,lr with
   | [],[],_ =>
    refine iteF ⟨?_,rfl⟩
    rw [h0 rfl]
    rfl
   | r :: rs,x :: X,_ =>
    refine iteT ?_
    refine ⟨_,rfl,a,_,_,.ref r,rfl,rfl,SqL.of ha,atI_nat (j:=0) rfl,r,_,rfl,.inl (SqL.of (R.row 0 r x rfl rfl)),?_,rfl⟩
    rw [hw x mem_cons_self]
    rfl
  ·rintro σ H1 ⟨rfl,rfl⟩
   refine ⟨_,rfl,(n:Int),rfl,by omega,by omega,fun D hD=>?_⟩
   rw [Int.toNat_natCast]
   have lc:(colsV X n).length=n:=by unfold colsV; rw [length_map,length_range]
   refine lc_range (n:=n) (GrdI H1 D (colsV X n)) (GrdI.start hD) (fun i ys H' _ ⟨_,_,_,_,eD,_⟩=>eD) ?_ ?_ ?_
   ·rintro i ys H' hi g
    have e0:((0:Int)+(i:Nat))=(i:Int):=by omega
    rw [e0]
    have s':Same H1 H':=let ⟨_,_,_,z,_⟩:=g; z
    refine ⟨_,rfl,_,rfl,a,X,i,rfl,⟨rs,s' _ _ ha,R.mono s'⟩,hX,fun x hx=>by rw [hw x hx]; exact hi,fun p H3 s3 np ep=>?_⟩
    refine g.step hD ?_ ⟨p,rfl,ep,np⟩ s3 (by omega)
    unfold colsV
    rw [getElem?_map,getElem?_range hi]
    rfl
   ·intro ys H' g
    obtain ⟨s',gg⟩:=GrdI.done (X:=colsV X n) (by rw [lc]; exact g)
    exact q D H' s' hD gg
   ·rintro σ H' Q1 Q2 hq ⟨v,e,v',e',a1,a2,a3,a4,a5,a6,a7,g⟩
    exact ⟨v,e,v',e',a1,a2,a3,a4,a5,a6,a7,fun D H3 s3 n3 e3=>hq _ _ (g D H3 s3 n3 e3)⟩
def spInOne:Sp:=fun vs H Q _=>∃ (a:Addr) (X:List (List V)),vs=[.ref a]∧GrdAt H a X∧X.flatten.length≤900∧∀ D H',Same H H'→H D=none→H' D=some (.lst X.flatten)→Q (.ref D) H'
theorem scInOne:FnScope ["rows","things","row"] ["rows"] (defScope sInOne):=by constructor<;>first|rfl|decide +kernel
theorem flat_take {X:List (List V)} {i:Nat} {x:List V} (h:X[i]? = some x):(X.take (i+1)).flatten=(X.take i).flatten++x:=by
 rw [take_snoc h,List.flatten_append]
 simp
theorem flat_le (X:List (List V)) (i:Nat):(X.take i).flatten.length≤X.flatten.length:=by
 have:=congrArg (fun l=>(List.flatten l).length) (take_append_drop i X)
 simp only [List.flatten_append,length_append] at this
 omega
theorem ok_inOne {f:Addr} {fd:FuncData} (F:Fun K "in_one_list" "in_one_list" sInOne f fd):FnOk P w K mg base CX0 1 f fd ["rows"] spInOne:=by
 refine F.ok scInOne (fun vs H Q E h=>?_) (fun cdv A outer s H vs Q E hr h=>?_)
 ·obtain ⟨a,X,rfl,_⟩:=h
  rfl
 ·obtain ⟨a,X,rfl,⟨rs,ha,R⟩,hX,q⟩:=h
  refine ⟨_,pss_cons (ps_set (i:=1) scInOne.nd rfl (Or.inl rfl) (pe_lst pa_nil))
   (pss_cons (ps_for PassesOwn.never rfl (pi_list (pv 0)) (pg_name (i:=2) scInOne.nd rfl (Or.inl rfl))
    (pss_one (ps_expr (pe_bm plainAttrs_list slot_list_extend type_list_extend mt_extend (pv 1) (pa_cons (pv 2) pa_nil)))))
   (pss_one (ps_ret (pv 1)))),?_⟩
  refine ⟨Nat.zero_le _,fun D hD=>?_⟩
  have aD:a≠D:=ne_of_none ha hD
  refine ⟨_,rfl,a,rfl,⟨_,SqL.of (by rw [upd_ne aD]; exact ha)⟩,for_list (xs:=rs.map V.ref) (fun i σ H'=>∃ (o2:Option V),σ=[some (.ref a),some (.ref D),o2]∧Same H H'∧H' D=some (.lst (X.take i).flatten)) ⟨none,rfl,Same.upd hD,by rw [upd_same]; rfl⟩ (fun i σ H' _ ⟨_,_,s',_⟩=>SqL.of (s' _ _ ha)) ?_ ?_⟩
  ·rintro i x σ H1 hx ⟨o2,rfl,s1,e1⟩
   obtain ⟨r,hr,rfl⟩:=map_get hx
   obtain ⟨y,hy⟩:=get_lt (l:=X) (i:=i) (by rw [←R.len]; exact lt_get hr)
   have er:=s1 _ _ (R.row i r y hr hy)
   have fl:=flat_le X (i+1)
   rw [flat_take hy,length_append] at fl
   refine ⟨_,rfl,.inl ⟨rfl,_,SqL.of e1⟩,_,rfl,?_⟩
   refine ⟨D,r,_,_,rfl,rfl,e1,er,Nat.le_of_lt (small1000 (by omega)),?_⟩
   refine ⟨_,rfl,fun b o e=>?_,?_⟩
   ·rw [upd_ne (ne_of_none e hD)]
    exact s1 _ _ e
   ·rw [upd_same,flat_take hy]
  ·rintro σ H1 ⟨o2,rfl,s1,e1⟩
   rw [length_map,R.len,take_length] at e1
   exact ⟨_,rfl,q D H1 s1 hD e1⟩
def squareV (xs:List V) (n:Nat):List (List V):=(List.range n).map fun i=>(xs.drop (n * i)).take n
def spInSq (K:Frag):Sp:=fun vs H Q _=>∃ (a:Addr) (xs:List V) (n:Nat),vs=[.ref a,.int (n:Int)]∧SqL K H a xs∧xs.length=n * n∧n≤16∧∀ D H',Same H H'→H D=none→GrdAt H' D (squareV xs n)→Q (.ref D) H'
theorem scInSq:FnScope ["things","size"] ["things","size"] (defScope sInSq):=by constructor<;>first|rfl|decide +kernel
theorem lcInSq:LcScopes (defScope sInSq) ["things","size"] (lcScope (asgVal (bodyAt sInSq 0))) ["place"]:=by constructor<;>first|rfl|decide +kernel
theorem cut_sq {xs:List V} {n i:Nat} (hx:xs.length=n * n) (hi:i < n):cutV xs (some ((n:Int) * (i:Int))) (some ((n:Int) * ((i:Int)+1)))=(xs.drop (n * i)).take n:=by
 have h1:n * (i+1)≤n * n:=Nat.mul_le_mul_left n hi
 have e1:(n:Int) * (i:Int)=((n * i:Nat):Int):=by push_cast; rfl
 have e2:(n:Int) * ((i:Int)+1)=((n * (i+1):Nat):Int):=by push_cast; rfl
 have h2:n * (i+1)=n * i+n:=Nat.mul_succ n i
 unfold cutV
 rw [e1,e2,HT.sIx_nat,HT.sIx_nat,hx,Nat.min_eq_left h1,Nat.min_eq_left (show n * i≤n * n by omega)]
 congr 1
 omega
theorem sl_listK {X:Cx} (h:X.K=K:=by rfl):SlR X (rSlL K):=by subst h; exact sl_list
theorem ok_inSq {f:Addr} {fd:FuncData} (B:BltR mg) (F:Fun K "in_square" "in_square" sInSq f fd):FnOk P w K mg base CX0 1 f fd ["things","size"] (spInSq K):=by
 refine F.ok scInSq (fun vs H Q E h=>?_) (fun cdv A outer s H vs Q E hr h=>?_)
 ·obtain ⟨a,xs,n,rfl,_⟩:=h
  rfl
 ·obtain ⟨a,xs,n,rfl,ha,hx,hn,q⟩:=h
  refine ⟨_,pss_one (ps_ret (pe_lc1 rfl lcInSq rfl (pi_range1 rfl B.range (pa_cons (pv 1) pa_nil)) (fun _ _ _=>pe_slice (sl_listK (K:=K)) (pv 0) (po_some (pe_op op_mul (pv 1) (pv 2))) (po_some (pe_op op_mul (pv 1) (pe_op op_add (pv 2) pe_int)))))),?_⟩
  refine ⟨_,rfl,(n:Int),rfl,by omega,by omega,fun D hD=>?_⟩
  rw [Int.toNat_natCast]
  have lc:(squareV xs n).length=n:=by unfold squareV; rw [length_map,length_range]
  refine lc_range (n:=n) (GrdI H D (squareV xs n)) (GrdI.start hD) (fun i ys H' _ ⟨_,_,_,_,eD,_⟩=>eD) ?_ ?_ ?_
  ·rintro i ys H' hi g
   have e0:((0:Int)+(i:Nat))=(i:Int):=by omega
   rw [e0]
   have s':Same H H':=let ⟨_,_,_,z,_⟩:=g; z
   refine ⟨_,rfl,_,rfl,_,rfl,_,_,rfl,rfl,cmul_l (by omega) (by omega),_,rfl,_,rfl,_,rfl,_,_,rfl,rfl,_,_,rfl,rfl,cmul_l (by omega) (by omega),_,rfl,a,xs,rfl,s'.seq ha,fun p hp=>?_⟩
   have st:=g.step (u:=.ref p) (x:=(xs.drop (n * i)).take n) hD (by unfold squareV; rw [getElem?_map,getElem?_range hi]; rfl) ⟨p,rfl,upd_same,hp⟩ (Same.upd hp) (by omega)
   rw [←cut_sq hx hi] at st
   exact st
  ·intro ys H' g
   obtain ⟨s',gg⟩:=GrdI.done (X:=squareV xs n) (by rw [lc]; exact g)
   exact q D H' s' hD gg
  ·rintro σ H' Q1 Q2 hq ⟨v1,e1,v2,e2,v3,e3,i1,j1,f1,f2,c1,l1,e4,v5,e5,v6,e6,i2,j2,f3,f4,i3,j3,f5,f6,c2,h1,e7,a1,x1,e8,q1,g⟩
   exact ⟨v1,e1,v2,e2,v3,e3,i1,j1,f1,f2,c1,l1,e4,v5,e5,v6,e6,i2,j2,f3,f4,i3,j3,f5,f6,c2,h1,e7,a1,x1,e8,q1,fun p hp=>hq _ _ (g p hp)⟩
def gI (M:List (List Int)):List (List V):=M.map fun x=>x.map V.int
theorem gI_get {M:List (List Int)} {i:Nat} {x:List Int} (h:M[i]? = some x):(gI M)[i]? = some (x.map V.int):=by unfold gI; rw [getElem?_map,h]; rfl
theorem gI_len (M:List (List Int)):(gI M).length=M.length:=by unfold gI; rw [length_map]
open TM in
def spDot:Sp:=fun vs H Q _=>∃ (a b:Addr) (ws rs:List Int) (n:Nat),vs=[.ref a,.ref b]∧H a=some (.lst (ws.map V.int))∧H b=some (.lst (rs.map V.int))∧ws.length=rs.length∧ws.length≤900∧n≤1000000∧(∀ x ∈ ws,M11.Bn n x)∧(∀ x ∈ rs,M11.Bn n x)∧∀ H',Same H H'→Q (.int (dot ws rs)) H'
theorem scDot:FnScope ["numbers","others"] ["numbers","others"] (defScope sDot):=by constructor<;>first|rfl|decide +kernel
def argAt (e:Expr) (i:Nat):Expr:=match e with
 | .Call _ es _ _=>es.getD i (.Constant .none 0 ⟨0,0,0,0⟩)
 | .BinOp _ _ b _=>b
 | _=>.Constant .none 0 ⟨0,0,0,0⟩
theorem lcDot:LcScopes (defScope sDot) ["numbers","others"] (lcScope (argAt (asgVal (bodyAt sDot 0)) 0)) ["number","other"]:=by constructor<;>first|rfl|decide +kernel
theorem boot_sum:bootBuiltins "sum" = some (.builtin "sum"):=by decide +kernel
theorem zip_get {f:Int→Int→Int} {a b:List Int} {i:Nat} {x y:Int} (hx:a[i]? = some x) (hy:b[i]? = some y):(List.zipWith f a b)[i]? = some (f x y):=by
 rw [getElem?_zipWith,hx,hy]
theorem ok_dot {f:Addr} {fd:FuncData} (B:BltR mg) (F:Fun K "sum_of_products" "sum_of_products" sDot f fd):FnOk P w K mg base CX0 1 f fd ["numbers","others"] spDot:=by
 refine F.ok scDot (fun vs H Q E h=>?_) (fun cdv A outer s H vs Q E hr h=>?_)
 ·obtain ⟨a,b,ws,rs,n,rfl,_⟩:=h
  rfl
 ·obtain ⟨a,b,ws,rs,n,rfl,ha,hb,hl,hm,hn,hw,hr',q⟩:=h
  refine ⟨_,pss_one (ps_ret (pe_callB (call_sum rfl) (by rfl) B.sum boot_sum (pa_cons (pe_lcs rfl lcDot rfl (pi_zip rfl B.zip (pa_cons (pv 0) (pa_cons (pv 1) pa_nil))) (pg_two rfl lcDot) (fun _ _ _=>pts_nil) (fun _ _ _=>pe_op op_mulN (pv 2) (pv 3))) pa_nil))),?_⟩
  refine ⟨_,rfl,_,rfl,a,b,rfl,⟨_,SqL.of ha⟩,⟨_,SqL.of hb⟩,?_⟩
  refine lc_zip ((List.zipWith (fun x y=>x * y) ws rs).map V.int) rfl (SqL.of ha) (SqL.of hb) (by rw [length_map,length_map,length_zipWith]; omega) (by rw [length_map,length_map,length_zipWith]; omega) (by rw [length_map,length_zipWith]; omega) ?_ ?_ ?_
  ·intro i x y v H' hx hy hv s'
   obtain ⟨x,ex,rfl⟩:=map_get hx
   obtain ⟨y,ey,rfl⟩:=map_get hy
   obtain ⟨z,ez,rfl⟩:=map_get hv
   rw [zip_get ex ey] at ez
   cases ez
   exact ⟨_,rfl,_,rfl,_,_,rfl,rfl,⟨n,hn,hw x (mem_of_getElem? ex),hr' y (mem_of_getElem? ey)⟩,rfl,Same.refl _⟩
  ·intro D H' s' eD
   exact ⟨D,_,rfl,SqL.of eD,q H' s'⟩
  ·rintro σ H' Q1 Q2 hq ⟨v,e,v',e',i,j,a1,a2,a3,g⟩
   exact ⟨v,e,v',e',i,j,a1,a2,a3,hq _ _ g⟩
theorem dot_comm:∀ a b:List Int,TM.dot a b=TM.dot b a:=by
 intro a b
 unfold TM.dot
 rw [List.zipWith_comm]
 congr 1
 funext
 simp only [Int.mul_comm]
theorem scEach:FnScope ["numbers","rows"] ["numbers","rows"] (defScope sEach):=by constructor<;>first|rfl|decide +kernel
theorem lcEach:LcScopes (defScope sEach) ["numbers","rows"] (lcScope (asgVal (bodyAt sEach 0))) ["row"]:=by constructor<;>first|rfl|decide +kernel
open TM in
def spEachG:Sp:=fun vs H Q _=>∃ (a l:Addr) (M:List (List Int)) (r:List Int) (n:Nat),vs=[.ref l,.ref a]∧GrdAt H a (gI M)∧H l=some (.lst (r.map V.int))∧M.length≤900∧r.length≤900∧n≤1000000∧(∀ x ∈ M,x.length=r.length∧∀ z ∈ x,M11.Bn n z)∧(∀ x ∈ r,M11.Bn n x) ∧
 ∀ D H',Same H H'→H D=none→H' D=some (.lst ((M.map fun w=>dot w r).map V.int))→Q (.ref D) H'
theorem ok_eachG {f fD:Addr} {fd fdD:FuncData} (F:Fun K "sums_with_each" "sums_with_each" sEach f fd) (DD:Dn K mg "sum_of_products" sDot ["numbers","others"] fD fdD) (GD:FnOk P w K mg base CX0 1 fD fdD ["numbers","others"] spDot):FnOk P w K mg base CX0 2 f fd ["numbers","rows"] spEachG:=by
 refine F.ok scEach (fun vs H Q E h=>?_) (fun cdv A outer s H vs Q E hr h=>?_)
 ·obtain ⟨a,l,M,r,n,rfl,_⟩:=h
  rfl
 ·obtain ⟨a,l,M,r,n,rfl,⟨rs,ha,R⟩,hl,hM,hrl,hn,hw,hr',q⟩:=h
  have lr:rs.length=M.length:=by rw [R.len,gI_len]
  refine ⟨_,pss_one (ps_ret (pe_lc1 rfl lcEach rfl (pi_list (pv 1)) (fun _ _ _=>pe_fn DD GD hr rfl (pa_cons (pv 0) (pa_cons (pv 2) pa_nil))))),?_⟩
  refine ⟨_,rfl,a,rfl,⟨_,SqL.of ha⟩,fun D hD=>?_⟩
  refine lc_vals ((M.map fun w=>TM.dot w r).map V.int) (by rw [length_map,length_map,length_map,lr]) (by rw [length_map,lr]; omega) hD (SqL.of ha) ?_ ?_ ?_
  ·intro i x v H' hx hv s'
   obtain ⟨ra,hra,rfl⟩:=map_get hx
   obtain ⟨z,hz,rfl⟩:=map_get hv
   obtain ⟨row,hrow,rfl⟩:=map_get hz
   have er:=R.row i ra _ hra (gI_get hrow)
   obtain ⟨w1,w2⟩:=hw row (mem_of_getElem? hrow)
   rw [dot_comm row r]
   exact ⟨_,rfl,_,rfl,l,ra,r,row,n,rfl,s' _ _ hl,s' _ _ er,w1.symm,hrl,hn,hr',w2,fun H3 s3=>⟨rfl,s3⟩⟩
  ·intro H' s' eD
   exact q D H' s' hD eD
  ·rintro σ H' Q1 Q2 hq ⟨v,e,v',e',a1,a2,a3,a4,a5,a6,a7,a8,a9,a10,a11,a12,a13,g⟩
   exact ⟨v,e,v',e',a1,a2,a3,a4,a5,a6,a7,a8,a9,a10,a11,a12,a13,fun H3 s3=>hq _ _ (g H3 s3)⟩
def colsI (N:List (List Int)) (n:Nat):List (List Int):=(List.range n).map fun j=>N.map fun x=>(x[j]?).getD 0
theorem cols_gI {N:List (List Int)} {n:Nat} (h:∀ x ∈ N,x.length=n):colsV (gI N) n=gI (colsI N n):=by
 unfold colsV colsI
 show _=List.map (fun x:List Int=>x.map V.int) _
 rw [map_map]
 refine map_congr_left fun j hj=>?_
 show ((gI N).map fun x=>(x[j]?).getD .non)=(N.map fun x=>(x[j]?).getD 0).map V.int
 unfold gI
 rw [map_map,map_map]
 refine map_congr_left fun x hx=>?_
 show ((x.map V.int)[j]?).getD .non=V.int ((x[j]?).getD 0)
 obtain ⟨z,hz⟩:=get_lt (l:=x) (i:=j) (by rw [h x hx]; exact mem_range.mp hj)
 rw [getElem?_map,hz]
 rfl
open TM in
def prodI (M N:List (List Int)) (n:Nat):List (List Int):=M.map fun r=>(colsI N n).map fun c=>dot c r
def spProd:Sp:=fun vs H Q _=>∃ (a b:Addr) (M N:List (List Int)) (n k:Nat),vs=[.ref a,.ref b]∧GrdAt H a (gI M)∧GrdAt H b (gI N)∧M.length≤900∧N.length≤900∧n≤900∧k≤1000000∧(∀ x ∈ M,x.length=N.length∧∀ z ∈ x,M11.Bn k z)∧(∀ x ∈ N,x.length=n∧∀ z ∈ x,M11.Bn k z)∧(N=[]→n=0) ∧
 ∀ D H',Same H H'→H D=none→GrdAt H' D (gI (prodI M N n))→Q (.ref D) H'
theorem scProd:FnScope ["rows","others","columns"] ["rows","others"] (defScope sProd):=by constructor<;>first|rfl|decide +kernel
theorem lcProd:LcScopes (defScope sProd) ["rows","others","columns"] (lcScope (asgVal (bodyAt sProd 1))) ["row"]:=by constructor<;>first|rfl|decide +kernel
theorem ok_prod {f fC fE:Addr} {fd fdC fdE:FuncData} (F:Fun K "product_of_grids" "product_of_grids" sProd f fd) (DC:Dn K mg "columns_of" sCols ["rows"] fC fdC) (GC:FnOk P w K mg base CX0 2 fC fdC ["rows"] spCols)
  (DE:Dn K mg "sums_with_each" sEach ["numbers","rows"] fE fdE) (GE:FnOk P w K mg base CX0 2 fE fdE ["numbers","rows"] spEachG):FnOk P w K mg base CX0 3 f fd ["rows","others"] spProd:=by
 refine F.ok scProd (fun vs H Q E h=>?_) (fun cdv A outer s H vs Q E hr h=>?_)
 ·obtain ⟨a,b,M,N,n,k,rfl,_⟩:=h
  rfl
 ·obtain ⟨a,b,M,N,n,k,rfl,⟨rs,ha,R⟩,gb,hM,hN,hn,hk,hm,hN',h0,q⟩:=h
  have lr:rs.length=M.length:=by rw [R.len,gI_len]
  refine ⟨_,pss_cons (ps_set (i:=2) scProd.nd rfl (Or.inr rfl) (pe_fn DC GC hr rfl (pa_cons (pv 1) pa_nil)))
   (pss_one (ps_ret (pe_lc1 rfl lcProd rfl (pi_list (pv 0)) (fun _ _ _=>pe_fn DE GE hr rfl (pa_cons (pv 3) (pa_cons (pv 2) pa_nil)))))),?_⟩
  refine ⟨_,rfl,b,gI N,n,rfl,gb,by rw [gI_len]; exact hN,hn,fun x hx=>?_,fun z=>h0 ?_,fun C H1 s1 nC gC=>?_⟩
  ·obtain ⟨y,hy,rfl⟩:=mem_map.mp hx
   rw [length_map]
   exact (hN' y hy).1
  ·exact List.map_eq_nil_iff.mp z
  rw [cols_gI fun x hx=>(hN' x hx).1] at gC
  refine ⟨_,rfl,a,rfl,⟨_,SqL.of (s1 _ _ ha)⟩,fun D hD=>?_⟩
  refine lc_list (xs:=rs.map V.ref) (GrdI H1 D (gI (prodI M N n))) (GrdI.start hD) (fun i ys H' _ ⟨_,_,_,s',eD,_⟩=>⟨SqL.of (s' _ _ (s1 _ _ ha)),eD⟩) ?_ ?_ ?_
  ·rintro i x ys H' hx g
   obtain ⟨r,hr',rfl⟩:=map_get hx
   obtain ⟨row,hrow⟩:=get_lt (l:=M) (i:=i) (by rw [←lr]; exact lt_get hr')
   have s':Same H1 H':=let ⟨_,_,_,z,_⟩:=g; z
   have er:=(s1.trans s') _ _ (R.row i r _ hr' (gI_get hrow))
   obtain ⟨w1,w2⟩:=hm row (mem_of_getElem? hrow)
   refine ⟨_,rfl,_,rfl,C,r,colsI N n,row,k,rfl,gC.mono s',er,by unfold colsI; rw [length_map,length_range]; exact hn,by omega,hk,fun c hc=>?_,w2,fun p H3 s3 np ep=>?_⟩
   ·unfold colsI at hc
    obtain ⟨j,hj,rfl⟩:=mem_map.mp hc
    refine ⟨by rw [length_map,w1],fun z hz=>?_⟩
    obtain ⟨y,hy,rfl⟩:=mem_map.mp hz
    obtain ⟨u,hu⟩:=get_lt (l:=y) (i:=j) (by rw [(hN' y hy).1]; exact mem_range.mp hj)
    show M11.Bn k ((y[j]?).getD 0)
    rw [hu]
    exact (hN' y hy).2 u (mem_of_getElem? hu)
   ·refine g.step hD ?_ ⟨p,rfl,ep,np⟩ s3 (by have:=lt_get hrow; omega)
    exact gI_get (by unfold prodI; rw [getElem?_map,hrow]; rfl)
  ·intro ys H' g
   have ll:(rs.map V.ref).length=(gI (prodI M N n)).length:=by rw [length_map,gI_len,lr]; unfold prodI; rw [length_map]
   rw [ll] at g
   obtain ⟨s',gg⟩:=g.done
   exact q D H' (s1.trans s') (s1.free hD) gg
  ·rintro σ H' Q1 Q2 hq ⟨v,e,v',e',a1,a2,a3,a4,a5,a6,a7,a8,a9,a10,a11,a12,a13,g⟩
   exact ⟨v,e,v',e',a1,a2,a3,a4,a5,a6,a7,a8,a9,a10,a11,a12,a13,fun D H3 s3 n3 e3=>hq _ _ (g D H3 s3 n3 e3)⟩
def CDivL (_ j:Int):Prop:=j≠0∧j.natAbs < 2 ^ 9000
theorem op_fdivL {X:Cx}:OpR X (binaryOp .FloorDiv) (rI CDivL fun i j=>.int (i.fdiv j)) :=
 opI fun _ _ _ _ _ _ _ hc q=>floordiv_int hc.1 q (.inl (PyProof.noPylong_of_log2 ((Nat.log2_lt (by have:=hc.1; omega)).mpr hc.2)))
def FrAt (H:Hp) (x:List V) (fs:List (Int × Int)):Prop:=x.length=fs.length∧∀ (i:Nat) (v:V) (f:Int × Int),x[i]? = some v→fs[i]? = some f→∃ p,v=.ref p∧H p=some (tupF f)
theorem FrAt.mono {H H':Hp} {x:List V} {fs:List (Int × Int)} (h:FrAt H x fs) (s:Same H H'):FrAt H' x fs:=⟨h.1,fun i v f h1 h2=>by
 obtain ⟨p,e,hp⟩:=h.2 i v f h1 h2
 exact ⟨p,e,s _ _ hp⟩⟩
def Bt (f:Int × Int):Prop:=0 < f.2∧f.2.natAbs < 2 ^ 20
def botStep (b q:Int):Int:=b.fdiv (M11.G b q) * q
def botL (fs:List (Int × Int)):Int:=fs.foldl (fun b f=>botStep b f.2) 1
theorem bot_step {b q:Int} (hb:0 < b) (hq:0 < q):0 < botStep b q∧b ∣ botStep b q∧q ∣ botStep b q∧(botStep b q).natAbs≤b.natAbs * q.natAbs:=by
 have hg:=M11.G_pos (b:=q) hb
 obtain ⟨b',e1⟩:M11.G b q ∣ b:=Int.gcd_dvd_left ..
 obtain ⟨q',e2⟩:M11.G b q ∣ q:=Int.gcd_dvd_right ..
 unfold botStep
 generalize M11.G b q=g at *
 have e3:b.fdiv g=b':=by
  rw [e1,Int.mul_fdiv_cancel_left _ (Int.ne_of_gt hg)]
 have hb':0 < b':=by
  rcases Int.lt_or_le 0 b' with z | z
  ·exact z
  ·have:=Int.mul_le_mul_of_nonneg_left z (Int.le_of_lt hg)
   rw [←e1,Int.mul_zero] at this
   omega
 rw [e3]
 refine ⟨Int.mul_pos hb' hq,⟨q',by rw [e1]; rw [e2]; grind⟩,⟨b',by grind⟩,?_⟩
 rw [Int.natAbs_mul,e1,Int.natAbs_mul]
 exact Nat.mul_le_mul_right _ (Nat.le_mul_of_pos_left _ (by omega))
theorem bot_fold:∀ (fs:List (Int × Int)) (b:Int),0 < b→(∀ f ∈ fs,Bt f) →
  0 < fs.foldl (fun b f=>botStep b f.2) b∧b ∣ fs.foldl (fun b f=>botStep b f.2) b∧(∀ f ∈ fs,f.2 ∣ fs.foldl (fun b f=>botStep b f.2) b)∧(fs.foldl (fun b f=>botStep b f.2) b).natAbs≤b.natAbs * 2 ^ (20 * fs.length)
 | [],b,hb,_=>⟨hb,Int.dvd_refl _,fun _ h=>(nomatch h),by simp⟩
 | f :: fs,b,hb,h=>by
  obtain ⟨h1,h2⟩:=h f mem_cons_self
  obtain ⟨s1,s2,s3,s4⟩:=bot_step hb h1
  obtain ⟨r1,r2,r3,r4⟩:=bot_fold fs _ s1 fun g hg=>h g (mem_cons_of_mem _ hg)
  refine ⟨r1,Int.dvd_trans s2 r2,fun g hg=>?_,Nat.le_trans r4 ?_⟩
  ·rcases mem_cons.mp hg with e | e
   ·subst e; exact Int.dvd_trans s3 r2
   ·exact r3 g e
  ·have e:(2:Nat) ^ (20 * (f :: fs).length)=2 ^ 20 * 2 ^ (20 * fs.length):=by
    rw [←Nat.pow_add]
    congr 1
    rw [length_cons]
    omega
   rw [e,←Nat.mul_assoc]
   exact Nat.mul_le_mul_right _ (Nat.le_trans s4 (Nat.mul_le_mul_left _ (Nat.le_of_lt h2)))
theorem bot_spec {fs:List (Int × Int)} (h:∀ f ∈ fs,Bt f):0 < botL fs∧(∀ f ∈ fs,f.2 ∣ botL fs)∧M11.Bn (20 * fs.length+1) (botL fs):=by
 obtain ⟨r1,_,r3,r4⟩:=bot_fold fs 1 (by decide) h
 refine ⟨r1,r3,?_⟩
 show (botL fs).natAbs < 2 ^ (20 * fs.length+1)
 have:=Nat.two_pow_pos (20 * fs.length)
 rw [Nat.pow_succ]
 have r4':(botL fs).natAbs≤1 * 2 ^ (20 * fs.length):=r4
 omega
theorem bot_snoc (fs:List (Int × Int)) (f:Int × Int):botL (fs++[f])=botStep (botL fs) f.2:=by
 unfold botL
 rw [foldl_append]
 rfl
theorem fdiv_le {b g:Int} (hg:0 < g):(b.fdiv g).natAbs≤b.natAbs:=by
 rw [Int.fdiv_eq_ediv_of_nonneg _ (Int.le_of_lt hg)]
 exact Int.natAbs_ediv_le_natAbs b g
def spBottom:Sp:=fun vs H Q _=>∃ (a:Addr) (x:List V) (fs:List (Int × Int)),vs=[.ref a]∧H a=some (.lst x)∧FrAt H x fs∧fs.length≤900∧(∀ f ∈ fs,Bt f)∧Q (.int (botL fs)) H
theorem scBot:FnScope ["fractions","bottom","f"] ["fractions"] (defScope sBottom):=by constructor<;>first|rfl|decide +kernel
theorem ok_bottom {f fG:Addr} {fd fdG:FuncData} (F:Fun K "common_bottom" "common_bottom" sBottom f fd) (DG:Dn K mg "greatest_divisor" sGd ["number","other"] fG fdG) (GG:FnOk P w K mg base CX0 1 fG fdG ["number","other"] spG):FnOk P w K mg base CX0 2 f fd ["fractions"] spBottom:=by
 refine F.ok scBot (fun vs H Q E h=>?_) (fun cdv A outer s H vs Q E hr h=>?_)
 ·obtain ⟨a,x,fs,rfl,_⟩:=h
  rfl
 ·obtain ⟨a,x,fs,rfl,ha,hx,hl,hb,q⟩:=h
  refine ⟨_,pss_cons (ps_set (i:=1) scBot.nd rfl (Or.inl rfl) pe_int)
   (pss_cons (ps_for PassesOwn.never rfl (pi_list (pv 0)) (pg_name (i:=2) scBot.nd rfl (Or.inl rfl))
    (pss_one (ps_set (i:=1) scBot.nd rfl (Or.inl rfl) (pe_op op_mulN (pe_op op_fdivL (pv 1) (pe_fn DG GG hr rfl (pa_cons (pv 1) (pa_cons (pe_ix (ix_tupK (K:=K)) (pv 2) pe_int (fun _ _=>rfl)) pa_nil)))) (pe_ix (ix_tupK (K:=K)) (pv 2) pe_int (fun _ _=>rfl))))))
   (pss_one (ps_ret (pv 1)))),?_⟩
  refine ⟨_,rfl,a,rfl,⟨_,SqL.of ha⟩,for_list (xs:=x) (fun i σ H'=>∃ (o2:Option V),σ=[some (.ref a),some (.int (botL (fs.take i))),o2]∧H'=H) ⟨none,rfl,rfl⟩ (fun i σ H' _ ⟨_,_,e⟩=>by rw [e]; exact SqL.of ha) ?_ ?_⟩
  ·rintro i v σ H1 hv ⟨o2,rfl,rfl⟩
   obtain ⟨g,hg⟩:=get_lt (l:=fs) (i:=i) (by rw [←hx.1]; exact lt_get hv)
   obtain ⟨p,rfl,hp⟩:=hx.2 i v g hv hg
   obtain ⟨g1,g2⟩:=hb g (mem_of_getElem? hg)
   obtain ⟨b1,b2,b3⟩:=bot_spec (fs:=fs.take i) fun y hy=>hb y (mem_of_mem_take hy)
   have hG:=M11.G_le (t:=botL (fs.take i)) (Int.ne_of_gt g1)
   have hG0:=M11.G_pos (b:=g.2) b1
   have b4:M11.Bn 20000 (botL (fs.take i)):=b3.mono (by rw [length_take]; omega)
   refine ⟨_,rfl,_,rfl,_,rfl,p,_,_,.int g.2,rfl,rfl,SqT.of hp,at_snd _ _ _,_,_,rfl,?_⟩
   refine ⟨_,_,rfl,rfl,⟨Int.ne_of_gt hG0,Nat.lt_trans (by omega:(M11.G (botL (fs.take i)) g.2).natAbs < 2 ^ 20) (by decide)⟩,_,rfl,p,_,_,.int g.2,rfl,rfl,SqT.of hp,at_snd _ _ _,_,_,rfl,rfl,⟨20020,by decide,?_,M11.Bn.mono (n:=20) g2 (by decide)⟩,some (.ref p),?_,rfl⟩
   ·exact (M11.Bn.le b4 (fdiv_le hG0)).mono (by decide)
   ·rw [take_snoc hg,bot_snoc]
    rfl
  ·rintro σ H1 ⟨o2,rfl,rfl⟩
   refine ⟨_,rfl,?_⟩
   rw [hx.1,take_length]
   exact q
def topF (f:Int × Int) (b:Int):Int:=f.1 * b.fdiv f.2
def spTopOver:Sp:=fun vs H Q _=>∃ (p:Addr) (f:Int × Int) (b:Int),vs=[.ref p,.int b]∧H p=some (tupF f)∧Bt f∧M11.Bn 20000 f.1∧M11.Bn 20000 b∧Q (.int (topF f b)) H
theorem scTopOver:FnScope ["f","bottom"] ["f","bottom"] (defScope sTopOver):=by constructor<;>first|rfl|decide +kernel
theorem ok_topOver {f:Addr} {fd:FuncData} (F:Fun K "top_over" "top_over" sTopOver f fd):FnOk P w K mg base CX0 1 f fd ["f","bottom"] spTopOver:=by
 refine F.ok scTopOver (fun vs H Q E h=>?_) (fun cdv A outer s H vs Q E hr h=>?_)
 ·obtain ⟨p,g,b,rfl,_⟩:=h
  rfl
 ·obtain ⟨p,g,b,rfl,hp,hg,h1,hb,q⟩:=h
  refine ⟨_,pss_one (ps_ret (pe_op op_mulN (pe_ix (ix_tupK (K:=K)) (pv 0) pe_int (fun _ _=>rfl)) (pe_op op_fdivL (pv 1) (pe_ix (ix_tupK (K:=K)) (pv 0) pe_int (fun _ _=>rfl))))),?_⟩
  refine ⟨_,rfl,p,_,_,.int g.1,rfl,rfl,SqT.of hp,at_hd _ _,_,rfl,_,rfl,p,_,_,.int g.2,rfl,rfl,SqT.of hp,at_snd _ _ _,_,_,rfl,rfl,⟨Int.ne_of_gt hg.1,Nat.lt_trans hg.2 (by decide)⟩,_,_,rfl,rfl,⟨20000,by decide,h1,M11.Bn.le hb (fdiv_le hg.1)⟩,q⟩
def isSqB (n:Nat) (X:List (List V)):Bool:=decide (X.length=n) && X.all fun x=>decide (x.length=n)
def spIsSq:Sp:=fun vs H Q _=>∃ (a:Addr) (X:List (List V)) (n:Nat),vs=[.ref a,.int (n:Int)]∧GrdAt H a X∧X.length≤900∧n≤900∧(∀ x ∈ X,x.length≤900)∧∀ H',Same H H'→Q (.bl (isSqB n X)) H'
theorem scIsSq:FnScope ["rows","size"] ["rows","size"] (defScope sIsSq):=by constructor<;>first|rfl|decide +kernel
def boolAt (e:Expr) (i:Nat):Expr:=match e with
 | .BoolOp _ es _=>es.getD i (.Constant .none 0 ⟨0,0,0,0⟩)
 | _=>.Constant .none 0 ⟨0,0,0,0⟩
theorem boot_all:bootBuiltins "all" = some (.builtin "all"):=by decide +kernel
theorem all_map {α:Type} (f:α→Bool) (xs:List α):(xs.map f).all id=xs.all f:=by rw [List.all_map]; rfl
theorem map_bl {α:Type} (f:α→Bool) (xs:List α):(xs.map fun x=>V.bl (f x))=(xs.map f).map V.bl:=by rw [map_map]; rfl
def rLenK (K:Frag):List V→Hp→VK→Prop:=fun xs H Q=>∃ p ys,xs=[.ref p]∧(SqL K H p ys ∨ SqT K H p ys)∧Q (.int ys.length) H
theorem call_lenK {X:Cx} (h:X.K=K:=by rfl):CallR X (.builtin "len") (rLenK K):=by subst h; exact call_len_seq
structure BltG (mg:Str→Option Value):Prop where
 len:mg "len" = none
 sum:mg "sum" = none
 zip:mg "zip" = none
 range:mg "range" = none
 all:mg "all" = none
theorem dec_nat (a b:Nat):decide (V.int (a:Int)=V.int (b:Int))=decide (a=b):=by
 by_cases h:a=b
 ·subst h; simp
 ·rw [decide_eq_false h,decide_eq_false]
  intro z
  exact h (Int.ofNat.inj (V.int.inj z))
theorem dec_intE (a b:Int):decide (V.int a=V.int b)=decide (a=b):=by
 by_cases h:a=b
 ·subst h; simp
 ·rw [decide_eq_false h,decide_eq_false]
  intro z
  exact h (V.int.inj z)
theorem lcIsSq:LcScopes (defScope sIsSq) ["rows","size"] (lcScope (argAt (boolAt (asgVal (bodyAt sIsSq 0)) 1) 0)) ["row"]:=by constructor<;>first|rfl|decide +kernel
theorem ok_isSq {f:Addr} {fd:FuncData} (B:BltG mg) (F:Fun K "is_square" "is_square" sIsSq f fd):FnOk P w K mg base CX0 1 f fd ["rows","size"] spIsSq:=by
 refine F.ok scIsSq (fun vs H Q E h=>?_) (fun cdv A outer s H vs Q E hr h=>?_)
 ·obtain ⟨a,X,n,rfl,_⟩:=h
  rfl
 ·obtain ⟨a,X,n,rfl,⟨rs,ha,R⟩,hX,hn,hw,q⟩:=h
  have lr:=R.len
  refine ⟨_,pss_one (ps_ret (pe_and (pe_cmpR op_eq (pe_callB call_len_seq (by rfl) B.len boot_len (pa_cons (pv 0) pa_nil)) (pv 1) (nomark _))
   (pe_one (pe_callB (call_all rfl) (by rfl) B.all boot_all (pa_cons (pe_lc1 rfl lcIsSq rfl (pi_list (pv 0)) (fun _ _ _=>pe_cmpR op_eq (pe_callB (call_lenK (K:=K)) (by rfl) B.len boot_len (pa_cons (pv 2) pa_nil)) (pv 1) (nomark _))) pa_nil))))),?_⟩
  refine ⟨_,rfl,a,_,rfl,.inl (SqL.of ha),?_⟩
  refine ⟨_,rfl,rfl,_,rfl,?_⟩
  rw [dec_nat,length_map,lr]
  by_cases hX':X.length=n
  ·refine itDP hX' ?_
   refine ⟨_,rfl,a,rfl,⟨_,SqL.of ha⟩,fun D hD=>?_⟩
   refine lc_vals (X.map fun x=>V.bl (decide (x.length=n))) (by rw [length_map,length_map,lr]) (by rw [length_map,lr]; exact hX) hD (SqL.of ha) ?_ ?_ ?_
   ·intro i x v H' hx hv s'
    obtain ⟨r,hr,rfl⟩:=map_get hx
    obtain ⟨y,hy,rfl⟩:=map_get hv
    refine ⟨_,rfl,r,_,rfl,.inl (SqL.of (s' _ _ (R.row i r y hr hy))),_,rfl,rfl,?_,Same.refl _⟩
    rw [dec_nat]
   ·intro H' s' eD
    refine ⟨D,X.map fun x=>decide (x.length=n),rfl,SqL.of (by rw [eD,map_bl]),?_⟩
    rw [all_map]
    have:=q H' s'
    unfold isSqB at this
    rw [decide_eq_true hX',Bool.true_and] at this
    exact this
   ·rintro σ H' Q1 Q2 hq ⟨v,e,p,ys,e1,e2,v2,e3,e4,g⟩
    exact ⟨v,e,p,ys,e1,e2,v2,e3,e4,hq _ _ g⟩
  ·refine itDN hX' ?_
   have:=q H (Same.refl _)
   unfold isSqB at this
   rw [decide_eq_false hX',Bool.false_and] at this
   exact this
def comeB (M:List (List Int)) (z:Int):Bool:=M.all fun r=>decide (r.sum=z)
def spCome:Sp:=fun vs H Q _=>∃ (a:Addr) (M:List (List Int)) (z:Int),vs=[.ref a,.int z]∧GrdAt H a (gI M)∧M.length≤900∧∀ H',Same H H'→Q (.bl (comeB M z)) H'
theorem scCome:FnScope ["rows","whole"] ["rows","whole"] (defScope sCome):=by constructor<;>first|rfl|decide +kernel
theorem lcCome:LcScopes (defScope sCome) ["rows","whole"] (lcScope (argAt (asgVal (bodyAt sCome 0)) 0)) ["row"]:=by constructor<;>first|rfl|decide +kernel
def rSumK (K:Frag):List V→Hp→VK→Prop:=fun xs H Q=>∃ (p:Addr) (ns:List Int),xs=[.ref p]∧SqL K H p (ns.map V.int)∧Q (.int ns.sum) H
theorem call_sumK {X:Cx} (hc:X.calm=true) (h:X.K=K:=by rfl):CallR X (.builtin "sum") (rSumK K):=by subst h; exact call_sum hc
theorem ok_come {f:Addr} {fd:FuncData} (B:BltG mg) (F:Fun K "come_to" "come_to" sCome f fd):FnOk P w K mg base CX0 1 f fd ["rows","whole"] spCome:=by
 refine F.ok scCome (fun vs H Q E h=>?_) (fun cdv A outer s H vs Q E hr h=>?_)
 ·obtain ⟨a,M,z,rfl,_⟩:=h
  rfl
 ·obtain ⟨a,M,z,rfl,⟨rs,ha,R⟩,hM,q⟩:=h
  have lr:rs.length=M.length:=by rw [R.len,gI_len]
  refine ⟨_,pss_one (ps_ret (pe_callB (call_all rfl) (by rfl) B.all boot_all (pa_cons (pe_lc1 rfl lcCome rfl (pi_list (pv 0)) (fun _ _ _=>pe_cmpR op_eq (pe_callB (call_sumK (K:=K) rfl) (by rfl) B.sum boot_sum (pa_cons (pv 2) pa_nil)) (pv 1) (nomark _))) pa_nil))),?_⟩
  refine ⟨_,rfl,a,rfl,⟨_,SqL.of ha⟩,fun D hD=>?_⟩
  refine lc_vals (M.map fun r=>V.bl (decide (r.sum=z))) (by rw [length_map,length_map,lr]) (by rw [length_map,lr]; exact hM) hD (SqL.of ha) ?_ ?_ ?_
  ·intro i x v H' hx hv s'
   obtain ⟨r,hr,rfl⟩:=map_get hx
   obtain ⟨y,hy,rfl⟩:=map_get hv
   refine ⟨_,rfl,r,y,rfl,SqL.of (s' _ _ (R.row i r _ hr (gI_get hy))),_,rfl,rfl,?_,Same.refl _⟩
   rw [dec_intE]
  ·intro H' s' eD
   refine ⟨D,M.map fun r=>decide (r.sum=z),rfl,SqL.of (by rw [eD,map_bl]),?_⟩
   rw [all_map]
   exact q H' s'
  ·rintro σ H' Q1 Q2 hq ⟨v,e,p,ys,e1,e2,v2,e3,e4,g⟩
   exact ⟨v,e,p,ys,e1,e2,v2,e3,e4,hq _ _ g⟩
theorem pe_notT {X:Cx} {a:Expr} {ta:TE} {pos:Pos} (ha:PE X a ta):PE X (.UnaryOp .Not a pos) (fun σ H Q=>ta σ H fun x H1=>∃ k,TruV X.K x H1 k∧Q (.bl (!k)) H1):=by
 intro pins s σ H Q I h
 refine UnaryOp_ (thn (ha pins s σ H _ I h) fun v s1 ⟨x,H1,I1,r1,q1⟩=>?_)
 exact not_of (thn (tru_ok pins s1 σ H1 x v (fun k H'=>Q (.bl (!k)) H') I1 r1 q1) fun d s2 ⟨H2,I2,q2⟩=>⟨.bl (!d),H2,I2,rfl,q2⟩)
theorem set1 (σ:L2.St) (o:Option V) (x:V):(σ++[o]).set σ.length (some x)=σ++[some x]:=by
 rw [List.set_append_right _ _ (Nat.le_refl _),Nat.sub_self]
 rfl
theorem lc_filV {a:Addr} {xs:List V} {N:Nat} {tt:TT} {te:TE} {σ:L2.St} {H1:Hp} {Q:VK} (hN:σ.length=N) (f:V→Bool) (ha:SqL K H1 a xs) (hm:xs.length≤900)
  (ht:∀ (x:V) (H':Hp) (R:Bool→Hp→Prop),x ∈ xs→R (f x) H'→tt (σ++[some x]) H' R)
  (he:∀ (x:V) (H':Hp) (R:VK),R x H'→te (σ++[some x]) H' R)
  (hd:∀ (D:Addr) (H':Hp),Same H1 H'→H' D=some (.lst (xs.filter f))→Q (.ref D) H'):LcW 1 (Itl K a) (gName N) tt te σ H1 Q:=by
 subst hN
 intro D hD
 refine ⟨fun i m ys H'=>m=xs.length - i∧i≤xs.length∧ys=(xs.take i).filter f∧Same H1 H'∧H' D=some (.lst ys),⟨xs.length,by simp,Nat.zero_le _,rfl,Same.upd hD,upd_same⟩,?_⟩
 rintro i m ys H2 ⟨rfl,hi,rfl,s2,eD⟩
 refine ⟨eD,?_⟩
 by_cases hlt:i < xs.length
 ·obtain ⟨x,gx⟩:=get_lt hlt
  refine .inr ⟨⟨_,_,Same.sq s2 ha,gx⟩,?_⟩
  rintro z H3 ⟨rfl,hz⟩ os los
  have hz:=hz _ (Same.sq s2 ha)
  rw [gx] at hz
  cases hz
  match os,los with
  | [o],_ =>
   refine ⟨⟨[some x],set1 σ o _,rfl⟩,?_⟩
   rw [set1 σ o _]
   refine ht x _ _ (mem_of_getElem? gx) ?_
   have lr:((xs.take i).filter f).length≤i:=Nat.le_trans (List.length_filter_le _ _) (by rw [length_take]; omega)
   by_cases e:f x=true
   ·rw [if_pos e]
    refine he x _ _ ⟨eD,small1000 (by omega),xs.length - (i+1),by omega,rfl,hlt,?_,fun b o e=>?_,upd_same⟩
    ·rw [take_snoc gx,List.filter_append,filter_cons_of_pos e]; rfl
    ·rw [upd_ne (ne_of_none e hD)]
     exact s2 _ _ e
   ·rw [if_neg e]
    exact ⟨xs.length - (i+1),by omega,rfl,hlt,by rw [take_snoc gx,List.filter_append,filter_cons_of_neg e,List.filter_nil,List.append_nil],s2,eD⟩
 ·have:i=xs.length:=by omega
  subst this
  rw [take_length] at eD
  rw [take_length]
  exact .inl ⟨⟨_,Same.sq s2 ha,Nat.le_refl _⟩,hd D H2 s2 eD⟩
abbrev nShared:List Str:=["shares","whole","below"]
theorem scShared:FnScope nShared ["shares","whole"] (defScope sShared):=by constructor<;>first|rfl|decide +kernel
theorem lcShared:LcScopes (defScope sShared) nShared (lcScope (asgVal (bodyAt sShared 0))) ["share"]:=by constructor<;>first|rfl|decide +kernel
def negV (v:V):Bool:=match v with | .int i=>decide (i < 0) | _=>false
def sharedB (M:List (List Int)) (n:Nat) (z:Int):Bool:=(M.flatten.all fun x=>decide (0≤x)) && (comeB M z && comeB (colsI M n) z)
theorem gI_flat (M:List (List Int)):(gI M).flatten=M.flatten.map V.int:=by unfold gI; rw [List.map_flatten]
theorem neg_none (xs:List Int):((xs.map V.int).filter negV).isEmpty=xs.all fun x=>decide (0≤x):=by
 induction xs with
 | nil=>rfl
 | cons x xs ih =>
  rw [map_cons,List.all_cons,←ih]
  by_cases h:x < 0
  ·rw [filter_cons_of_pos (by show decide (x < 0)=true; exact decide_eq_true h),decide_eq_false (by omega)]
   rfl
  ·rw [filter_cons_of_neg (by show ¬ decide (x < 0)=true; rw [decide_eq_false h]; decide),decide_eq_true (by omega)]
   rfl
theorem flat_len {n:Nat}:∀ {M:List (List Int)},(∀ x ∈ M,x.length=n)→M.flatten.length=M.length * n
 | [],_=>by simp
 | x :: M,h=>by
  rw [flatten_cons,length_append,flat_len fun y hy=>h y (mem_cons_of_mem _ hy),h x mem_cons_self,length_cons,Nat.succ_mul]
  omega
def spShared:Sp:=fun vs H Q _=>∃ (a:Addr) (M:List (List Int)) (n:Nat) (z:Int),vs=[.ref a,.int z]∧GrdAt H a (gI M)∧M.length=n∧n≤16∧(∀ x ∈ M,x.length=n)∧∀ H',Same H H'→Q (.bl (sharedB M n z)) H'
theorem ok_shared {f fI fC fS:Addr} {fd fdI fdC fdS:FuncData} (F:Fun K "are_shared_out" "are_shared_out" sShared f fd)
  (DI:Dn K mg "in_one_list" sInOne ["rows"] fI fdI) (GI:FnOk P w K mg base CX0 1 fI fdI ["rows"] spInOne)
  (DC:Dn K mg "come_to" sCome ["rows","whole"] fC fdC) (GC:FnOk P w K mg base CX0 1 fC fdC ["rows","whole"] spCome)
  (DS:Dn K mg "columns_of" sCols ["rows"] fS fdS) (GS:FnOk P w K mg base CX0 2 fS fdS ["rows"] spCols):FnOk P w K mg base CX0 3 f fd ["shares","whole"] spShared:=by
 refine F.ok scShared (fun vs H Q E h=>?_) (fun cdv A outer s H vs Q E hr h=>?_)
 ·obtain ⟨a,M,n,z,rfl,_⟩:=h
  rfl
 ·obtain ⟨a,M,n,z,rfl,g,hM,hn,hw,q⟩:=h
  have r1:=hr.mono (j:=1) (by decide)
  have fl:=flat_len hw
  have fl2:M.length * n≤16 * 16:=Nat.mul_le_mul (by omega) hn
  refine ⟨_,pss_cons (ps_setLcs (i:=2) scShared.nd rfl (Or.inl rfl) rfl lcShared rfl (pi_list (pe_fn DI GI r1 rfl (pa_cons (pv 0) pa_nil))) (pg_one lcShared) (fun _ _ _=>pts_one (pt_cmpR op_lt (pv 3) pe_int (nomark _))) (fun _ _ _=>pv 3))
   (pss_one (ps_ret (pe_and (pe_notT (pv 2)) (pe_and (pe_fn DC GC r1 rfl (pa_cons (pv 0) (pa_cons (pv 1) pa_nil)))
    (pe_one (pe_fn DC GC r1 rfl (pa_cons (pe_fn DS GS hr rfl (pa_cons (pv 0) pa_nil)) (pa_cons (pv 1) pa_nil)))))))),?_⟩
  refine ⟨_,rfl,a,gI M,rfl,g,by rw [gI_flat,length_map]; omega,fun L H1 s1 nL eL=>?_⟩
  rw [gI_flat] at eL
  refine ⟨L,rfl,⟨_,SqL.of eL⟩,?_⟩
  refine lc_filV rfl negV (SqL.of eL) (by rw [length_map]; omega) ?_ ?_ ?_
  ·intro x H' R hx hR
   obtain ⟨i,_,rfl⟩:=mem_map.mp hx
   exact ⟨_,rfl,_,_,rfl,rfl,_,rfl,hR⟩
  ·intro x H' R hR
   exact ⟨_,rfl,hR⟩
  ·intro D H2 s2 eD
   refine ⟨_,rfl,_,.inl ⟨_,SqL.of eD,rfl⟩,_,rfl,?_⟩
   rw [neg_none,Bool.not_not]
   have s12:=s1.trans s2
   unfold sharedB at q
   cases h1:M.flatten.all fun x=>decide (0≤x) with
   | false =>
    refine iteF ?_
    have:=q H2 s12
    rw [h1] at this
    exact this
   | true =>
    refine iteT ?_
    refine ⟨_,rfl,_,rfl,a,M,z,rfl,g.mono s12,by omega,fun H3 s3=>⟨_,rfl,?_⟩⟩
    rw [h1] at q
    cases h2:comeB M z with
    | false =>
     refine iteF ?_
     have:=q H3 (s12.trans s3)
     rw [h2] at this
     exact this
    | true =>
     refine iteT ?_
     rw [h2] at q
     have s13:=s12.trans s3
     refine ⟨_,rfl,a,gI M,n,rfl,g.mono s13,by rw [gI_len]; omega,by omega,fun x hx=>?_,fun e=>?_,fun C H4 s4 nC gC=>?_⟩
     ·obtain ⟨y,hy,rfl⟩:=mem_map.mp hx
      rw [length_map]
      exact hw y hy
     ·have:M=[]:=List.map_eq_nil_iff.mp e
      subst this
      exact hM.symm
     rw [cols_gI hw] at gC
     exact ⟨_,rfl,C,colsI M n,z,rfl,gC,by unfold colsI; rw [length_map,length_range]; omega,fun H5 s5=>q H5 ((s13.trans s4).trans s5)⟩
def keepB (h:Int) (hs xs:List Int):Bool:=(List.zipWith (fun x g=>decide (x=0) || decide (g=h)) xs hs).all id
def spKeepsHue:Sp:=fun vs H Q _=>∃ (hA sA:Addr) (h:Int) (hs xs:List Int),vs=[.int h,.ref hA,.ref sA]∧H hA=some (.lst (hs.map V.int))∧H sA=some (.lst (xs.map V.int))∧xs.length=hs.length∧hs.length≤900∧∀ H',Same H H'→Q (.bl (keepB h hs xs)) H'
abbrev nKeepsHue:List Str:=["hue","hues_there","shares"]
theorem scKeepsHue:FnScope nKeepsHue nKeepsHue (defScope sKeepsHue):=by constructor<;>first|rfl|decide +kernel
theorem lcKeepsHue:LcScopes (defScope sKeepsHue) nKeepsHue (lcScope (argAt (asgVal (bodyAt sKeepsHue 0)) 0)) ["share","hue_there"]:=by constructor<;>first|rfl|decide +kernel
theorem ok_keepsHue {f:Addr} {fd:FuncData} (B:BltG mg) (F:Fun K "keeps_hue" "keeps_hue" sKeepsHue f fd):FnOk P w K mg base CX0 1 f fd nKeepsHue spKeepsHue:=by
 refine F.ok scKeepsHue (fun vs H Q E h=>?_) (fun cdv A outer s H vs Q E hr h=>?_)
 ·obtain ⟨hA,sA,h,hs,xs,rfl,_⟩:=h
  rfl
 ·obtain ⟨hA,sA,h,hs,xs,rfl,eh,es,hl,hm,q⟩:=h
  refine ⟨_,pss_one (ps_ret (pe_callB (call_all rfl) (by rfl) B.all boot_all (pa_cons (pe_lcs rfl lcKeepsHue rfl (pi_zip rfl B.zip (pa_cons (pv 2) (pa_cons (pv 1) pa_nil))) (pg_two rfl lcKeepsHue) (fun _ _ _=>pts_nil)
   (fun _ _ _=>pe_or (pe_cmpR op_eq (pv 3) pe_int (nomark _)) (pe_one (pe_cmpR op_eq (pv 4) (pv 0) (nomark _))))) pa_nil))),?_⟩
  refine ⟨_,rfl,_,rfl,sA,hA,rfl,⟨_,SqL.of es⟩,⟨_,SqL.of eh⟩,?_⟩
  have lz:(List.zipWith (fun x g=>decide (x=0) || decide (g=h)) xs hs).length=hs.length:=by rw [length_zipWith,hl,Nat.min_self]
  refine lc_zip ((List.zipWith (fun x g=>decide (x=0) || decide (g=h)) xs hs).map V.bl) rfl (SqL.of es) (SqL.of eh) (by rw [length_map,length_map,lz,hl]) (by rw [length_map,length_map,lz]) (by rw [length_map,lz]; omega) ?_ ?_ ?_
  ·intro i x y v H' hx hy hv s'
   obtain ⟨x,ex,rfl⟩:=map_get hx
   obtain ⟨y,ey,rfl⟩:=map_get hy
   obtain ⟨b,eb,rfl⟩:=map_get hv
   rw [getElem?_zipWith,ex,ey] at eb
   cases eb
   refine ⟨_,rfl,rfl,_,rfl,?_⟩
   rw [dec_intE]
   by_cases h0:x=0
   ·refine itDP h0 ⟨?_,Same.refl _⟩
    rw [decide_eq_true h0,Bool.true_or]
   ·refine itDN h0 ⟨_,rfl,_,rfl,rfl,?_,Same.refl _⟩
    rw [dec_intE,decide_eq_false h0,Bool.false_or]
  ·intro D H' s' eD
   exact ⟨D,_,rfl,SqL.of eD,q H' s'⟩
  ·rintro σ H' Q1 Q2 hq ⟨v,e,e2,c,ec,g⟩
   refine ⟨v,e,e2,c,ec,?_⟩
   cases c with
   | true=>exact hq _ _ g
   | false =>
    obtain ⟨v2,e3,v4,e4,e5,g⟩:=g
    exact ⟨v2,e3,v4,e4,e5,hq _ _ g⟩
def keepHB (hs hs':List Int) (M:List (List Int)):Bool:=(List.zipWith (fun h x=>keepB h hs' x) hs M).all id
def spKeepHues:Sp:=fun vs H Q _=>∃ (hA oA sA:Addr) (hs hs':List Int) (M:List (List Int)),vs=[.ref hA,.ref oA,.ref sA]∧H hA=some (.lst (hs.map V.int))∧H oA=some (.lst (hs'.map V.int))∧GrdAt H sA (gI M)∧M.length=hs.length∧hs.length≤900∧hs'.length≤900∧(∀ x ∈ M,x.length=hs'.length)∧∀ H',Same H H'→Q (.bl (keepHB hs hs' M)) H'
abbrev nKeepHues:List Str:=["hues","hues_there","shares"]
theorem scKeepHues:FnScope nKeepHues nKeepHues (defScope sKeepHues):=by constructor<;>first|rfl|decide +kernel
theorem lcKeepHues:LcScopes (defScope sKeepHues) nKeepHues (lcScope (argAt (asgVal (bodyAt sKeepHues 0)) 0)) ["hue","row"]:=by constructor<;>first|rfl|decide +kernel
theorem ok_keepHues {f fK:Addr} {fd fdK:FuncData} (B:BltG mg) (F:Fun K "keep_hues" "keep_hues" sKeepHues f fd) (DK:Dn K mg "keeps_hue" sKeepsHue nKeepsHue fK fdK) (GK:FnOk P w K mg base CX0 1 fK fdK nKeepsHue spKeepsHue):FnOk P w K mg base CX0 2 f fd nKeepHues spKeepHues:=by
 refine F.ok scKeepHues (fun vs H Q E h=>?_) (fun cdv A outer s H vs Q E hr h=>?_)
 ·obtain ⟨hA,oA,sA,hs,hs',M,rfl,_⟩:=h
  rfl
 ·obtain ⟨hA,oA,sA,hs,hs',M,rfl,eh,eo,⟨rs,ea,R⟩,hl,hm,hm',hw,q⟩:=h
  have r1:=hr.mono (j:=1) (by decide)
  have lr:rs.length=M.length:=by rw [R.len,gI_len]
  refine ⟨_,pss_one (ps_ret (pe_callB (call_all rfl) (by rfl) B.all boot_all (pa_cons (pe_lcs rfl lcKeepHues rfl (pi_zip rfl B.zip (pa_cons (pv 0) (pa_cons (pv 2) pa_nil))) (pg_two rfl lcKeepHues) (fun _ _ _=>pts_nil)
   (fun _ _ _=>pe_fn DK GK r1 rfl (pa_cons (pv 3) (pa_cons (pv 1) (pa_cons (pv 4) pa_nil))))) pa_nil))),?_⟩
  refine ⟨_,rfl,_,rfl,hA,sA,rfl,⟨_,SqL.of eh⟩,⟨_,SqL.of ea⟩,?_⟩
  have lz:(List.zipWith (fun h x=>keepB h hs' x) hs M).length=hs.length:=by rw [length_zipWith,hl,Nat.min_self]
  refine lc_zip ((List.zipWith (fun h x=>keepB h hs' x) hs M).map V.bl) rfl (SqL.of eh) (SqL.of ea) (by rw [length_map,length_map,lz]) (by rw [length_map,length_map,lz,lr,hl]) (by rw [length_map,lz]; omega) ?_ ?_ ?_
  ·intro i x y v H' hx hy hv s'
   obtain ⟨x,ex,rfl⟩:=map_get hx
   obtain ⟨r,er,rfl⟩:=map_get hy
   obtain ⟨b,eb,rfl⟩:=map_get hv
   obtain ⟨row,erow⟩:=get_lt (l:=M) (i:=i) (by rw [←lr]; exact lt_get er)
   rw [getElem?_zipWith,ex,erow] at eb
   cases eb
   exact ⟨_,rfl,_,rfl,_,rfl,oA,r,x,hs',row,rfl,s' _ _ eo,s' _ _ (R.row i r _ er (gI_get erow)),hw row (mem_of_getElem? erow),hm',fun H3 s3=>⟨rfl,s3⟩⟩
  ·intro D H' s' eD
   exact ⟨D,_,rfl,SqL.of eD,q H' s'⟩
  ·rintro σ H' Q1 Q2 hq ⟨v,e,v',e',v'',e'',a1,a2,a3,a4,a5,a6,a7,a8,a9,a10,g⟩
   exact ⟨v,e,v',e',v'',e'',a1,a2,a3,a4,a5,a6,a7,a8,a9,a10,fun H3 s3=>hq _ _ (g H3 s3)⟩
end
section
variable {K:Frag}
end
section
variable {P:Program} {w:World} {K:Frag} {mg:Str→Option Value} {base:Heap}
structure BltL (mg:Str→Option Value):Prop where
 len:mg "len" = none
 range:mg "range" = none
 int:mg "int" = none
 sorted:mg "sorted" = none
 enum:mg "enumerate" = none
 sum:mg "sum" = none
 zip:mg "zip" = none
 list:mg "list" = none
 isi:mg "isinstance" = none
 bool:mg "bool" = none
 max:mg "max" = none
def cellV (ns:List Int) (z:Int):Int:=(ns[z.toNat]?).getD 0
def spCell (K:Frag):Sp:=fun vs H Q _=>∃ (a:Addr) (ns:List Int) (z:Int),vs=[.ref a,.int z]∧SqL K H a (ns.map V.int)∧0≤z∧∀ x,x=cellV ns z→Q (.int x) H
theorem scCell:FnScope ["_law_script","_law_k"] ["_law_script","_law_k"] (defScope sCellAt):=by constructor<;>first|rfl|decide +kernel
theorem ok_cell {f:Addr} {fd:FuncData} (B:BltL mg) (F:Fun K "_law_cell_at" "_law_cell_at" sCellAt f fd):FnOk P w K mg base CX0 1 f fd ["_law_script","_law_k"] (spCell K):=by
 refine F.ok scCell (fun vs H Q E h=>?_) (fun cdv A outer s H vs Q E hr h=>?_)
 ·obtain ⟨a,ns,k,rfl,_⟩:=h
  rfl
 ·obtain ⟨a,ns,z,rfl,hS,h0,k⟩:=h
  refine ⟨_,pss_cons (ps_if (pt_cmpR op_lt (pv 1) (pe_callB call_len_seq (by rfl) B.len boot_len (pa_cons (pv 0) pa_nil)) (nomark _)) (pss_one (ps_ret (pe_ix ix_list (pv 0) (pv 1) (fun _ _=>rfl)))) pss_nil)
   (pss_one (ps_ret pe_int)),?_⟩
  refine ⟨_,rfl,_,rfl,a,_,rfl,.inl hS,_,_,rfl,rfl,_,rfl,?_⟩
  by_cases hz:z < ((ns.map V.int).length:Int)
  ·refine itDP hz ?_
   obtain ⟨j,rfl⟩:=Int.eq_ofNat_of_zero_le h0
   have hj:j < ns.length:=by rw [length_map] at hz; omega
   refine ⟨_,rfl,_,rfl,a,_,_,.int ns[j],rfl,rfl,hS,atI_nat (by simp [hj]),k _ (by unfold cellV; rw [Int.toNat_natCast,getElem?_eq_getElem hj]; rfl)⟩
  ·refine itDN hz (k _ ?_)
   unfold cellV
   rw [length_map] at hz
   rw [getElem?_eq_none (by omega)]
   rfl
def Drawn (b:Int) (n:Nat) (ds:List Int):Prop:=ds.length=n∧∀ d ∈ ds,0≤d∧d < b
def drwM (c:Int) (i:Nat):Int:=((((c+7919 * (i:Int)) % 2147483629) * ((c+7919 * (i:Int)) % 2147483629)+(i:Int)) % 2147483629) * ((((c+7919 * (i:Int)) % 2147483629) * ((c+7919 * (i:Int)) % 2147483629)+(i:Int)) % 2147483629) % 2147483587
def drwN (c b:Int) (fr:Bool) (i:Nat) (p:List Int × Int):List Int × Int:=if fr=true∧p.2≠0∧p.2≠-1 then (p.1++[p.2 % b],p.2 / b) else (p.1++[drwM c i % b],p.2)
def drwS (c b:Int) (fr:Bool):Nat→List Int × Int
 | 0=>([],c)
 | i+1=>drwN c b fr i (drwS c b fr i)
def spDraws:Sp:=fun vs H Q _=>∃ (c:Int) (n:Nat) (b:Int) (fr:Bool),vs=[.int c,.int (n:Int),.int b,.bl fr]∧n≤100∧b < 10000∧(0 < b ∨ n=0)∧∀ p ds H',Drawn b n ds→ds=(drwS c b fr n).1→Same H H'→H p=none→H' p=some (.lst (ds.map V.int))→Q (.ref p) H'
abbrev nDraws:List Str:=["_law_cell","_law_many","_law_base","_law_free","_law_found","_law_rest","_law_k","_law_number"]
theorem scDraws:FnScope nDraws ["_law_cell","_law_many","_law_base","_law_free"] (defScope sDraws):=by constructor<;>first|rfl|decide +kernel
theorem ok_draws {f:Addr} {fd:FuncData} (B:BltL mg) (F:Fun K "_law_draws" "_law_draws" sDraws f fd):FnOk P w K mg base CX0 1 f fd ["_law_cell","_law_many","_law_base","_law_free"] spDraws:=by
 refine F.ok scDraws (fun vs H Q E h=>?_) (fun cdv A outer s H vs Q E hr h=>?_)
 ·obtain ⟨c,n,b,fr,rfl,_⟩:=h
  rfl
 ·obtain ⟨c,n,b,fr,rfl,hn,hb1,hb0,q⟩:=h
  refine ⟨_,pss_cons (ps_set (i:=4) scDraws.nd rfl (Or.inl rfl) (pe_lst pa_nil))
   (pss_cons (ps_set (i:=5) scDraws.nd rfl (Or.inl rfl) (pv 0))
   (pss_cons (ps_for PassesOwn.never rfl (pi_range1 rfl B.range (pa_cons (pv 1) pa_nil)) (pg_name (i:=6) scDraws.nd rfl (Or.inl rfl))
    (pss_one (ps_if (PW.pt (pw_and (pt_val (pv 3)) (pw_and (pt_cmpR op_ne (pv 5) pe_int (nomark _)) (pw_and1 (pt_cmpR op_ne (pv 5) (pe_un un_neg pe_int) (nomark _))))))
     (pss_cons (ps_expr (pe_bm plainAttrs_list PySem.F.slot_list_append PySem.F.type_list_append mt_append (pv 4) (pa_cons (pe_op op_mod (pv 5) (pv 2)) pa_nil)))
     (pss_one (ps_set (i:=5) scDraws.nd rfl (Or.inl rfl) (pe_op op_fdiv (pv 5) (pv 2)))))
     (pss_cons (ps_set (i:=7) scDraws.nd rfl (Or.inl rfl) (pe_op op_mod (pe_op op_add (pv 0) (pe_op op_mul pe_int (pv 6))) pe_int))
     (pss_cons (ps_set (i:=7) scDraws.nd rfl (Or.inl rfl) (pe_op op_mod (pe_op op_add (pe_op op_mul (pv 7) (pv 7)) (pv 6)) pe_int))
     (pss_one (ps_expr (pe_bm plainAttrs_list PySem.F.slot_list_append PySem.F.type_list_append mt_append (pv 4) (pa_cons (pe_op op_mod (pe_op op_mod (pe_op op_mul (pv 7) (pv 7)) pe_int) (pv 2)) pa_nil)))))))))
   (pss_one (ps_ret (pv 4))))),?_⟩
  refine ⟨Nat.zero_le _,fun R hR=>?_⟩
  refine ⟨_,rfl,?_⟩
  refine ⟨_,rfl,(n:Int),rfl,by omega,by omega,for_range (n:=n) (fun i σ H'=>∃ (rest:Int) (o6 o7:Option V) (ds:List Int),σ=[some (.int c),some (.int (n:Int)),some (.int b),some (.bl fr),some (.ref R),some (.int rest),o6,o7]∧Same H H'∧H' R=some (.lst (ds.map V.int))∧Drawn b i ds∧(ds,rest)=drwS c b fr i) ?_ ?_ ?_⟩
  ·exact ⟨c,none,none,[],rfl,Same.upd hR,upd_same,⟨rfl,fun d hd=>by cases hd⟩,rfl⟩
  ·rintro i σ H' hi ⟨rest,o6,o7,ds,rfl,s1,eR,⟨lD,bD⟩,eD⟩
   have hb:0 < b:=hb0.resolve_right (by omega)
   have app:∀ x:Int,0≤x→x < b→Same H (upd H' R (.lst (ds.map V.int++[.int x])))∧upd H' R (.lst (ds.map V.int++[.int x])) R=some (.lst ((ds++[x]).map V.int))∧Drawn b (i+1) (ds++[x]):=by
    intro x h1 h2
    refine ⟨fun b' o e=>by rw [upd_ne (ne_of_none e hR)]; exact s1 _ _ e,by rw [upd_same,map_append]; rfl,by rw [length_append,length_singleton,lD],fun d hd=>?_⟩
    rcases mem_append.mp hd with q' | q'
    ·exact bD d q'
    ·rw [mem_singleton] at q'
     subst q'
     exact ⟨h1,h2⟩
   have sm:(ds.map V.int).length < sizeLine:=small1000 (by rw [length_map,lD]; omega)
   have z0:(0:Int)≤0+(i:Int):=by omega
   have z1:(0:Int)+(i:Int) < 100:=by omega
   by_cases ht:fr=true∧rest≠0∧rest≠-1
   ·obtain ⟨rfl,hr0,hr1⟩:=ht
    refine ⟨_,rfl,_,rfl,iteT ?_⟩
    refine ⟨_,rfl,rfl,_,rfl,iteNP (fun z=>hr0 (V.int.inj z)) ?_⟩
    refine ⟨_,rfl,_,rfl,rfl,_,rfl,iteNP (fun z=>hr1 (V.int.inj z)) ?_⟩
    obtain ⟨g1,g2,g3⟩:=app (rest % b) (Int.emod_nonneg _ (by omega)) (Int.emod_lt_of_pos _ hb)
    refine ⟨_,rfl,.inl ⟨rfl,_,SqL.of eR⟩,_,rfl,_,rfl,_,_,rfl,rfl,hb,R,_,_,rfl,rfl,eR,sm,?_⟩
    refine ⟨_,rfl,_,rfl,_,_,rfl,rfl,⟨hb,by omega⟩,?_⟩
    refine ⟨_,_,_,_,rfl,g1,g2,g3,?_⟩
    show _=drwN c b true i (drwS c b true i)
    rw [←eD]
    unfold drwN
    rw [if_pos ⟨rfl,hr0,hr1⟩]
   ·have test:∀ k:Bool→Hp→Prop,k false H'→tAnd (tB (tVar 3)) (tAnd (tTest (tOp rNe (tVar 5) (tC (.int 0)))) (tTest (tOp rNe (tVar 5) (tUn (rU fun i=>V.int (-i)) (tC (.int 1)))))) [some (.int c),some (.int (n:Int)),some (.int b),some (.bl fr),some (.ref R),some (.int rest),some (.int (0+(i:Int))),o7] H' k:=by
     intro k hk
     cases fr with
     | false=>exact ⟨_,rfl,_,rfl,iteF hk⟩
     | true =>
      refine ⟨_,rfl,_,rfl,iteT ?_⟩
      by_cases hr0:rest=0
      ·exact ⟨_,rfl,rfl,_,rfl,iteNS (by rw [hr0]) hk⟩
      ·refine ⟨_,rfl,rfl,_,rfl,iteNP (fun z=>hr0 (V.int.inj z)) ?_⟩
       have hr1:rest=-1:=Classical.byContradiction fun z=>ht ⟨rfl,hr0,z⟩
       subst hr1
       exact ⟨_,rfl,_,rfl,rfl,_,rfl,hk⟩
    refine test _ (iteF ?_)
    refine ⟨_,rfl,_,rfl,_,_,rfl,rfl,cmul_l (by decide) (by decide),_,_,rfl,rfl,_,_,rfl,rfl,(by show (0:Int) < 2147483629; decide),?_⟩
    have b1:=Int.emod_nonneg (c+7919 * (0+(i:Int))) (b:=2147483629) (by decide)
    have b2:=Int.emod_lt_of_pos (c+7919 * (0+(i:Int))) (b:=2147483629) (by decide)
    obtain ⟨x,ex⟩:∃ x,x=(c+7919 * (0+(i:Int))) % 2147483629:=⟨_,rfl⟩
    rw [←ex] at b1 b2
    refine ⟨_,rfl,_,rfl,_,_,rfl,rfl,cmul_l (by show _ < (c+7919 * (0+(i:Int))) % 2147483629; rw [←ex]; omega) (by show (c+7919 * (0+(i:Int))) % 2147483629 < _; rw [←ex]; omega),_,rfl,_,_,rfl,rfl,_,_,rfl,rfl,(by show (0:Int) < 2147483629; decide),?_⟩
    have c1:=Int.emod_nonneg (x * x+(0+(i:Int))) (b:=2147483629) (by decide)
    have c2:=Int.emod_lt_of_pos (x * x+(0+(i:Int))) (b:=2147483629) (by decide)
    obtain ⟨y,ey⟩:∃ y,y=(x * x+(0+(i:Int))) % 2147483629:=⟨_,rfl⟩
    rw [←ey] at c1 c2
    rw [ex] at ey
    obtain ⟨g1,g2,g3⟩:=app (y * y % 2147483587 % b) (Int.emod_nonneg _ (by omega)) (Int.emod_lt_of_pos _ hb)
    refine ⟨_,rfl,.inl ⟨rfl,_,SqL.of eR⟩,_,rfl,_,rfl,_,_,rfl,rfl,cmul_l (by rw [←ey]; omega) (by rw [←ey]; omega),_,_,rfl,rfl,(by show (0:Int) < 2147483587; decide),_,rfl,_,_,rfl,rfl,hb,R,_,_,rfl,rfl,eR,sm,?_⟩
    rw [ey] at g1 g2 g3
    refine ⟨_,_,_,_,rfl,g1,g2,g3,?_⟩
    show _=drwN c b fr i (drwS c b fr i)
    rw [←eD]
    unfold drwN drwM
    rw [if_neg ht,Int.zero_add]
  ·rintro σ H' ⟨rest,o6,o7,ds,rfl,s1,eR,dD,eD⟩
   exact ⟨_,rfl,q R ds H' dD (by rw [←eD]) s1 hR eR⟩
def wMax:Nat:=10 ^ 21
structure RowsAt (H:Hp) (rs:List Addr) (M:List (List Int)):Prop where
 len:rs.length=M.length
 row:∀ (i:Nat) (r:Addr) (x:List Int),rs[i]? = some r→M[i]? = some x→H r=some (.lst (x.map V.int))
 nd:rs.Nodup
def ent (M:List (List Int)) (i j:Nat):Int:=((M[i]?.getD [])[j]?).getD 0
structure Sq (n:Nat) (M:List (List Int)):Prop where
 len:M.length=n
 row:∀ (i:Nat) (x:List Int),M[i]? = some x→x.length=n∧∀ z ∈ x,z.natAbs≤wMax
 sym:∀ i j:Nat,i < n→j < n→ent M i j=ent M j i
def put (M:List (List Int)) (i j:Nat) (z:Int):List (List Int):=M.set i ((M[i]?.getD []).set j z)
theorem ent_put (M:List (List Int)) (n i j a b:Nat) (z:Int) (hl:M.length=n) (hr:∀ (i:Nat) (x:List Int),M[i]? = some x→x.length=n) (hi:i < n) (hj:j < n):ent (put M i j z) a b=if a=i∧b=j then z else ent M a b:=by
 unfold ent put
 by_cases ha:a=i
 ·subst ha
  rw [getElem?_set_self (by omega)]
  have hx:∃ x,M[a]? = some x:=⟨M[a]'(by omega),by simp [hl,hi]⟩
  obtain ⟨x,hx⟩:=hx
  have lx:=hr a x hx
  rw [hx]
  simp only [Option.getD_some]
  by_cases hb:b=j
  ·subst hb
   rw [getElem?_set_self (by omega)]
   simp
  ·rw [getElem?_set_ne (Ne.symm hb),if_neg (fun z=>hb z.2)]
 ·rw [getElem?_set_ne (Ne.symm ha),if_neg (fun z=>ha z.1)]
theorem put_row {M:List (List Int)} {n i j:Nat} {z:Int} (hl:M.length=n) (hz:z.natAbs≤wMax) (hr:∀ (i:Nat) (x:List Int),M[i]? = some x→x.length=n∧∀ z ∈ x,z.natAbs≤wMax) :
  (put M i j z).length=n∧∀ (k:Nat) (x:List Int),(put M i j z)[k]? = some x→x.length=n∧∀ z ∈ x,z.natAbs≤wMax:=by
 unfold put
 refine ⟨by rw [length_set]; exact hl,fun k x hx=>?_⟩
 by_cases hk:k=i
 ·subst hk
  by_cases hlt:k < M.length
  ·rw [getElem?_set_self hlt] at hx
   have hx:=Option.some.inj hx
   have hy:M[k]? = some M[k]:=by simp [hlt]
   have hh:=hr k _ hy
   subst hx
   rw [hy]
   simp only [Option.getD_some,length_set]
   refine ⟨hh.1,fun y hy'=>?_⟩
   rcases List.mem_or_eq_of_mem_set hy' with q | q
   ·exact hh.2 y q
   ·rw [q]; exact hz
  ·rw [getElem?_eq_none (by rw [length_set]; omega)] at hx
   cases hx
 ·rw [getElem?_set_ne (Ne.symm hk)] at hx
  exact hr k x hx
theorem Sq.put {n:Nat} {M:List (List Int)} (S:Sq n M) {i j:Nat} {z:Int} (hi:i < n) (hj:j < n) (hz:z.natAbs≤wMax):Sq n (put (put M i j z) j i z):=by
 obtain ⟨l1,r1⟩:=put_row (i:=i) (j:=j) S.len hz S.row
 obtain ⟨l2,r2⟩:=put_row (i:=j) (j:=i) l1 hz r1
 refine ⟨l2,r2,fun a b ha hb=>?_⟩
 have hr:=fun (i:Nat) (x:List Int) h=>(S.row i x h).1
 have hr1:=fun (k:Nat) (x:List Int) h=>(r1 k x h).1
 rw [ent_put _ n j i a b z l1 hr1 hj hi,ent_put _ n j i b a z l1 hr1 hj hi,ent_put _ n i j a b z S.len hr hi hj,ent_put _ n i j b a z S.len hr hi hj]
 have:=S.sym a b ha hb
 by_cases h1:a=j∧b=i
 ·rw [if_pos h1]
  by_cases h2:b=j∧a=i
  ·rw [if_pos h2]
  ·rw [if_neg h2,if_pos ⟨h1.2,h1.1⟩]
 ·rw [if_neg h1]
  by_cases h2:a=i∧b=j
  ·rw [if_pos h2,if_pos ⟨h2.2,h2.1⟩]
  ·rw [if_neg h2,if_neg (fun q=>h2 ⟨q.2,q.1⟩),if_neg (fun q=>h1 ⟨q.2,q.1⟩)]
   exact this
theorem RowsAt.put {H:Hp} {rs:List Addr} {M:List (List Int)} (R:RowsAt H rs M) {i:Nat} {r:Addr} {x:List Int} {j:Nat} {z:Int} (hr:rs[i]? = some r) (hx:M[i]? = some x) :
  RowsAt (upd H r (.lst ((x.set j z).map V.int))) rs (put M i j z):=by
 unfold My.put
 refine ⟨by rw [length_set]; exact R.len,fun k r' x' h1 h2=>?_,R.nd⟩
 by_cases hk:k=i
 ·subst hk
  rw [hr] at h1; cases h1
  rw [getElem?_set_self (List.getElem?_eq_some_iff.mp hx).1,hx] at h2
  cases h2
  exact upd_same
 ·rw [getElem?_set_ne (Ne.symm hk)] at h2
  have ne:r'≠r:=fun e=>by
   subst e
   obtain ⟨p1,q1⟩:=List.getElem?_eq_some_iff.mp h1
   obtain ⟨p2,q2⟩:=List.getElem?_eq_some_iff.mp hr
   exact hk ((List.getElem_inj R.nd).mp (q1.trans q2.symm))
  rw [upd_ne ne]
  exact R.row k r' x' h1 h2
theorem RowsAt.keep {H H':Hp} {rs:List Addr} {M:List (List Int)} (R:RowsAt H rs M) (k:∀ r ∈ rs,∀ o,H r=some o→H' r=some o):RowsAt H' rs M :=
 ⟨R.len,fun i r x h1 h2=>k r (mem_of_getElem? h1) _ (R.row i r x h1 h2),R.nd⟩
theorem RowsAt.snoc {H H':Hp} {rs:List Addr} {M:List (List Int)} {l:Addr} {x:List Int} (R:RowsAt H rs M) (k:∀ r ∈ rs,∀ o,H r=some o→H' r=some o) (hl:H' l=some (.lst (x.map V.int))) (hn:l ∉ rs):RowsAt H' (rs++[l]) (M++[x]):=by
 refine ⟨by rw [length_append,length_append,R.len]; rfl,fun i r y h1 h2=>?_,?_⟩
 ·by_cases hi:i < rs.length
  ·rw [getElem?_append_left hi] at h1
   rw [getElem?_append_left (by rw [←R.len]; exact hi)] at h2
   exact k r (mem_of_getElem? h1) _ (R.row i r y h1 h2)
  ·rw [getElem?_append_right (by omega)] at h1
   rw [getElem?_append_right (by rw [←R.len]; omega),←R.len] at h2
   cases e:i - rs.length with
   | zero=>rw [e] at h1 h2; cases h1; cases h2; exact hl
   | succ j=>rw [e] at h1; cases h1
 ·rw [List.nodup_append]
  refine ⟨R.nd,by simp,fun a ha b hb e=>?_⟩
  rw [mem_singleton.mp hb] at e
  exact hn (e ▸ ha)
theorem RowsAt.get {H:Hp} {rs:List Addr} {M:List (List Int)} (R:RowsAt H rs M) {i:Nat} (h:i < rs.length):∃ r x,rs[i]? = some r∧M[i]? = some x∧H r=some (.lst (x.map V.int)):=by
 have h1:rs[i]? = some rs[i]:=by simp [h]
 have h':i < M.length:=by rw [←R.len]; exact h
 have h2:M[i]? = some M[i]:=by simp [h']
 exact ⟨_,_,h1,h2,R.row i _ _ h1 h2⟩
theorem ixN_nat {n j:Nat} (h:j < n):ixN n (j:Int)=some j:=by
 unfold ixN
 rw [if_pos (by omega),if_pos (by omega)]
 simp
theorem zeros_map (k:Nat):(List.replicate k [V.int 0]).flatten=(List.replicate k (0:Int)).map V.int:=by
 induction k with
 | zero=>rfl
 | succ k ih=>rw [replicate_succ,flatten_cons,ih,replicate_succ,map_cons]; rfl
theorem sq_zero (n:Nat):Sq n (List.replicate n (List.replicate n 0)):=by
 refine ⟨length_replicate,fun i x hx=>?_,fun i j hi hj=>?_⟩
 ·rw [getElem?_replicate] at hx
  split at hx
  ·cases hx
   refine ⟨length_replicate,fun z hz=>?_⟩
   rw [List.eq_of_mem_replicate hz]
   exact Nat.zero_le _
  ·cases hx
 ·unfold ent
  rw [getElem?_replicate,getElem?_replicate,if_pos hi,if_pos hj]
  simp only [Option.getD_some,getElem?_replicate,if_pos hi,if_pos hj]
def triAt (n u:Nat):Nat:=u * (2 * n+1 - u) / 2
theorem tri_step:∀ n,n < 9→∀ u,u < n→triAt n u+(n - u)=triAt n (u+1)∧triAt n u+(n - u)≤n * (n+1) / 2:=by decide
def spSquare (K:Frag):Sp:=fun vs H Q _=>∃ (n:Nat) (d:Addr) (y:Int) (ds:List Int),vs=[.int (n:Int),.ref d,.int y]∧n≤8∧SqL K H d (ds.map V.int)∧Drawn 210 (n * (n+1) / 2) ds ∧
 ∀ (p:Addr) (rs:List Addr) (M:List (List Int)) (H':Hp),Same H H'→H p=none→(∀ r ∈ rs,H r=none∧r≠p)→H' p=some (.lst (rs.map V.ref))→RowsAt H' rs M→Sq n M→Q (.ref p) H'
abbrev nSquare:List Str:=["_law_many","_law_draws_here","_law_way","_law_rows","_law_u","_law_at","_law_v","_law_weight"]
theorem scSquare:FnScope nSquare ["_law_many","_law_draws_here","_law_way"] (defScope sSquare):=by constructor<;>first|rfl|decide +kernel
theorem pw20:(10:Int) ^ (20:Int).toNat=100000000000000000000:=by decide
theorem ok_square {f:Addr} {fd:FuncData} (B:BltL mg) (F:Fun K "_law_square" "_law_square" sSquare f fd):FnOk P w K mg base CX0 1 f fd ["_law_many","_law_draws_here","_law_way"] (spSquare K):=by
 refine F.ok scSquare (fun vs H Q E h=>?_) (fun cdv A outer s H vs Q E hr h=>?_)
 ·obtain ⟨n,d,y,ds,rfl,_⟩:=h
  rfl
 ·obtain ⟨k,d,y,ds,rfl,hk,hS,⟨lD,bD⟩,q⟩:=h
  refine ⟨_,pss_cons (ps_set (i:=3) scSquare.nd rfl (Or.inl rfl) (pe_lst pa_nil))
   (pss_cons (ps_for PassesOwn.never rfl (pi_range1 rfl B.range (pa_cons (pv 0) pa_nil)) (pg_name (i:=4) scSquare.nd rfl (Or.inl rfl))
    (pss_one (ps_expr (pe_bm plainAttrs_list PySem.F.slot_list_append PySem.F.type_list_append mt_append (pv 3) (pa_cons (pe_op op_rep (pe_lst (pa_cons pe_int pa_nil)) (pv 0)) pa_nil)))))
   (pss_cons (ps_set (i:=5) scSquare.nd rfl (Or.inl rfl) pe_int)
   (pss_cons (ps_for PassesOwn.never rfl (pi_range1 rfl B.range (pa_cons (pv 0) pa_nil)) (pg_name (i:=4) scSquare.nd rfl (Or.inl rfl))
    (pss_one (ps_for PassesOwn.never rfl (pi_range2 rfl B.range (pa_cons (pv 4) (pa_cons (pv 0) pa_nil))) (pg_name (i:=6) scSquare.nd rfl (Or.inl rfl))
     (pss_cons (ps_set (i:=7) scSquare.nd rfl (Or.inl rfl) (pe_op op_mul (pe_op op_mod (pe_ix ix_list (pv 1) (pv 5) (fun _ _=>rfl)) pe_int) (pe_callTy call_int1 (by rfl) B.int boot_int (pa_cons (pe_cmpR op_lt (pv 4) (pv 6) (nomark _)) pa_nil))))
     (pss_mid (ps_if (pt_cmpR op_eq (pv 2) pe_int (nomark _)) (pss_one (ps_set (i:=7) scSquare.nd rfl (Or.inl rfl) (pe_op op_sub (pe_op op_mod (pe_ix ix_list (pv 1) (pv 5) (fun _ _=>rfl)) pe_int) pe_int))) pss_nil)
     (pss_mid (ps_if (pt_cmpR op_eq (pv 2) pe_int (nomark _)) (pss_one (ps_set (i:=7) scSquare.nd rfl (Or.inl rfl) (pe_op op_add (pe_op op_mul (pe_op op_sub (pe_op op_mod (pe_ix ix_list (pv 1) (pv 5) (fun _ _=>rfl)) pe_int) pe_int) (pe_op op_pow pe_int pe_int)) (pe_op op_mod (pe_ix ix_list (pv 1) (pv 5) (fun _ _=>rfl)) pe_int)))) pss_nil)
     (pss_cons (ps_asg (pv 7) (pg_sub (pe_ix ix_list (pv 3) (pv 4) (fun _ _=>rfl)) (pv 6) set_list))
     (pss_cons (ps_asg (pv 7) (pg_sub (pe_ix ix_list (pv 3) (pv 6) (fun _ _=>rfl)) (pv 4) set_list))
     (pss_one (ps_set (i:=5) scSquare.nd rfl (Or.inl rfl) (pe_op op_add (pv 5) pe_int)))))))))))
   (pss_one (ps_ret (pv 3)))))),?_⟩
  refine ⟨Nat.zero_le _,fun D hD=>?_⟩
  refine ⟨_,rfl,(k:Int),rfl,by omega,by omega,for_range (n:=k) (fun i σ H'=>∃ (o4:Option V) (rs:List Addr),σ=[some (.int (k:Int)),some (.ref d),some (.int y),some (.ref D),o4,none,none,none]∧rs.length=i∧Same H H'∧H' D=some (.lst (rs.map V.ref)) ∧
   RowsAt H' rs (List.replicate i (List.replicate k 0))∧∀ r ∈ rs,H r=none∧r≠D) ⟨none,[],rfl,rfl,Same.upd hD,upd_same,⟨rfl,(fun i r x h _=>by cases h),nodup_nil⟩,(fun r hr=>by cases hr)⟩ ?_ ?_⟩
  ·rintro i σ H4 hlt ⟨o4,rs,rfl,l4,c4,eD,R4,o4⟩
   refine ⟨_,rfl,.inl ⟨rfl,_,SqL.of eD⟩,sz1,fun l1 hl1=>?_⟩
   refine ⟨_,rfl,l1,(k:Int),_,rfl,rfl,upd_same,by omega,by omega,Nat.le_of_lt (small1000 (by show 1 * (k:Int).toNat≤1000; omega)),fun l2 hl2=>?_⟩
   have n21:l2≠l1:=(ne_of_none upd_same hl2).symm
   have hl2':H4 l2=none:=by rw [upd_ne n21] at hl2; exact hl2
   have sm:Same H4 (upd (upd H4 l1 (.lst [.int 0])) l2 (.lst (List.replicate (k:Int).toNat [V.int 0]).flatten)):=(Same.upd hl1).trans (Same.upd hl2)
   have el:upd (upd H4 l1 (.lst [.int 0])) l2 (.lst (List.replicate (k:Int).toNat [V.int 0]).flatten) l2=some (.lst ((List.replicate k (0:Int)).map V.int)):=by
    rw [upd_same,Int.toNat_natCast,zeros_map]
   generalize upd (upd H4 l1 (.lst [.int 0])) l2 (.lst (List.replicate (k:Int).toNat [V.int 0]).flatten)=H5 at sm el ⊢
   have l2D:l2≠D:=(ne_of_none eD hl2').symm
   have l2r:l2 ∉ rs:=fun hm=>by
    obtain ⟨j,hj,e⟩:=List.getElem_of_mem hm
    obtain ⟨r,x,g1,g2,g3⟩:=R4.get hj
    have:rs[j]? = some l2:=by rw [getElem?_eq_getElem hj,e]
    rw [g1] at this
    cases this
    rw [g3] at hl2'
    cases hl2'
   refine ⟨D,_,_,rfl,rfl,sm _ _ eD,small1000 (by rw [length_map]; omega),?_⟩
   refine ⟨_,rs++[l2],rfl,by rw [length_append,l4]; rfl,fun b o e=>?_,by rw [map_append]; exact upd_same,?_,?_⟩
   ·rw [upd_ne (ne_of_none e hD)]
    exact sm _ _ (c4 _ _ e)
   ·have R5:RowsAt H5 (rs++[l2]) (List.replicate i (List.replicate k 0)++[List.replicate k 0]):=R4.snoc (fun r _ o e=>sm r o e) el l2r
    rw [←List.replicate_succ'] at R5
    refine R5.keep fun r hr o e=>?_
    have:r≠D:=by
     rcases mem_append.mp hr with z | z
     ·exact (o4 r z).2
     ·rw [mem_singleton.mp z]; exact l2D
    rw [upd_ne this]
    exact e
   ·intro r hr
    rcases mem_append.mp hr with z | z
    ·exact o4 r z
    ·rw [mem_singleton.mp z]
     exact ⟨c4.free hl2',l2D⟩
  ·rintro σ H4 ⟨o4,rs,rfl,l4,c4,eD,R4,o4⟩
   refine ⟨_,rfl,(k:Int),rfl,by omega,by omega,for_range (n:=k) (fun u σ H'=>∃ (o4 o6 o7:Option V) (M:List (List Int)),σ=[some (.int (k:Int)),some (.ref d),some (.int y),some (.ref D),o4,some (.int (triAt k u:Nat)),o6,o7]∧Same H H'∧H' D=some (.lst (rs.map V.ref)) ∧
    RowsAt H' rs M∧Sq k M) ⟨_,_,_,_,by rw [show triAt k 0=0 by simp [triAt]]; rfl,c4,eD,R4,sq_zero k⟩ ?_ ?_⟩
   ·rintro u σ H5 hu ⟨o4',o6,o7,M,rfl,c5,eD5,R5,S5⟩
    obtain ⟨tr1,tr2⟩:=tri_step k (by omega) u hu
    refine ⟨_,rfl,_,rfl,(0+(u:Nat):Int),(k:Int),rfl,⟨by omega,by omega,by omega,by omega⟩,?_⟩
    have eu:((k:Int) - (0+(u:Nat):Int)).toNat=k - u:=by omega
    rw [eu]
    refine for_range (lo:=(0+(u:Nat):Int)) (n:=k - u) (fun v σ H'=>∃ (o6 o7:Option V) (M:List (List Int)),σ=[some (.int (k:Int)),some (.ref d),some (.int y),some (.ref D),some (.int (0+(u:Nat):Int)),some (.int ((triAt k u+v:Nat):Int)),o6,o7]∧Same H H'∧H' D=some (.lst (rs.map V.ref)) ∧
     RowsAt H' rs M∧Sq k M) ⟨_,_,M,rfl,c5,eD5,R5,S5⟩ ?_ ?_
    ·rintro v σ H6 hv ⟨o6,o7,M,rfl,c6,eD6,R6,S6⟩
     have lat:triAt k u+v < ds.length:=by rw [lD]; omega
     have hat:atI (ds.map V.int) ((triAt k u+v:Nat):Int)=some (.int (ds[triAt k u+v]'lat)):=atI_nat (by rw [getElem?_map,getElem?_eq_getElem lat]; rfl)
     obtain ⟨d0,d1⟩:=bD _ (List.getElem_mem lat)
     generalize ds[triAt k u+v]'lat=x at hat d0 d1
     have hS6:=c6.seq hS
     refine ⟨_,rfl,_,rfl,d,_,_,_,rfl,rfl,hS6,hat,_,_,rfl,rfl,(by show (0:Int) < 2; decide),_,rfl,_,rfl,_,_,rfl,rfl,?_⟩
     have wm:wMax=1000000000000000000000:=by decide
     have hu':∀ b:Bool,(x % 2 * (if b=true then 1 else 0)).natAbs≤wMax:=by
      intro b
      rw [wm]
      cases b
      ·rw [if_neg (by decide)]; omega
      ·rw [if_pos rfl]; omega
     refine .inr ⟨_,rfl,_,_,rfl,rfl,cmul_l (by show _ < x % 2; omega) (by show x % 2 < _; omega),?_⟩
     have w0:=hu' (decide ((0+(u:Nat):Int) < (0+(u:Nat)+(v:Nat):Int)))
     refine ⟨fun σ' H'=>∃ z:Int,z.natAbs≤wMax∧σ'=[some (.int (k:Int)),some (.ref d),some (.int y),some (.ref D),some (.int (0+(u:Nat):Int)),some (.int ((triAt k u+v:Nat):Int)),some (.int (0+(u:Nat)+(v:Nat):Int)),some (.int z)]∧H'=H6,?_,?_⟩
     ·by_cases h1:y=1
      ·refine ⟨_,rfl,rfl,_,rfl,itDP (by rw [h1]) ?_⟩
       refine ⟨_,rfl,_,rfl,d,_,_,_,rfl,rfl,hS6,hat,_,_,rfl,rfl,(by show (0:Int) < 7; decide),_,_,rfl,rfl,?_⟩
       exact ⟨x % 7 - 3,by rw [wm]; omega,rfl,rfl⟩
      ·refine ⟨_,rfl,rfl,_,rfl,itDN (fun z=>h1 (V.int.inj z)) ?_⟩
       exact ⟨_,w0,rfl,rfl⟩
     rintro σ' H' ⟨w2,w2b,rfl,rfl⟩
     refine ⟨fun σ' H''=>∃ z:Int,z.natAbs≤wMax∧σ'=[some (.int (k:Int)),some (.ref d),some (.int y),some (.ref D),some (.int (0+(u:Nat):Int)),some (.int ((triAt k u+v:Nat):Int)),some (.int (0+(u:Nat)+(v:Nat):Int)),some (.int z)]∧H''=H',?_,?_⟩
     ·by_cases h1:y=2
      ·refine ⟨_,rfl,rfl,_,rfl,itDP (by rw [h1]) ?_⟩
       refine ⟨_,rfl,_,rfl,d,_,_,_,rfl,rfl,hS6,hat,_,_,rfl,rfl,(by show (0:Int) < 5; decide),_,_,rfl,rfl,_,_,rfl,rfl,⟨by decide,by decide,by decide⟩,_,_,rfl,rfl,cmul_l (by show _ < x % 5 - 2; omega) (by show x % 5 - 2 < _; omega),?_⟩
       refine ⟨_,rfl,_,rfl,d,_,_,_,rfl,rfl,hS6,hat,_,_,rfl,rfl,(by show (0:Int) < 3; decide),_,_,rfl,rfl,?_⟩
       exact ⟨(x % 5 - 2) * 10 ^ (20:Int).toNat+x % 3,by rw [wm,pw20]; omega,rfl,rfl⟩
      ·refine ⟨_,rfl,rfl,_,rfl,itDN (fun z=>h1 (V.int.inj z)) ?_⟩
       exact ⟨w2,w2b,rfl,rfl⟩
     rintro σ' H7 ⟨z,hz,rfl,rfl⟩
     obtain ⟨ru,xu,g1,g2,g3⟩:=R6.get (i:=u) (by omega)
     have hru:=o4 ru (mem_of_getElem? g1)
     have lxu:=(S6.row u xu g2).1
     have a1:atI (rs.map V.ref) (0+(u:Nat):Int)=some (.ref ru):=by rw [Int.zero_add]; exact atI_nat (by rw [getElem?_map,g1]; rfl)
     have euv:(0+(u:Nat)+(v:Nat):Int)=((u+v:Nat):Int):=by omega
     refine ⟨_,rfl,_,rfl,_,rfl,D,_,_,_,rfl,rfl,SqL.of eD6,a1,_,rfl,ru,_,_,u+v,rfl,rfl,g3,by rw [euv,length_map]; exact ixN_nat (by omega),?_⟩
     rw [←map_set]
     have R8:=R6.put (j:=u+v) (z:=z) g1 g2
     have c8:Same H (upd H7 ru (.lst ((xu.set (u+v) z).map V.int))):=fun b o e=>by rw [upd_ne (ne_of_none e hru.1)]; exact c6 _ _ e
     have eD8:upd H7 ru (.lst ((xu.set (u+v) z).map V.int)) D=_:=(upd_ne hru.2.symm).trans eD6
     generalize upd H7 ru (.lst ((xu.set (u+v) z).map V.int))=H8 at R8 c8 eD8 ⊢
     obtain ⟨rv,xv,k1,k2,k3⟩:=R8.get (i:=u+v) (by omega)
     have hrv:=o4 rv (mem_of_getElem? k1)
     have lxv:=((put_row (i:=u) (j:=u+v) S6.len hz S6.row).2 (u+v) xv k2).1
     have a2:atI (rs.map V.ref) (0+(u:Nat)+(v:Nat):Int)=some (.ref rv):=by rw [euv]; exact atI_nat (by rw [getElem?_map,k1]; rfl)
     refine ⟨_,rfl,_,rfl,_,rfl,D,_,_,_,rfl,rfl,SqL.of eD8,a2,_,rfl,rv,_,_,u,rfl,rfl,k3,by rw [Int.zero_add,length_map]; exact ixN_nat (by omega),?_⟩
     rw [←map_set]
     refine ⟨_,rfl,_,_,rfl,rfl,?_⟩
     refine ⟨some (.int (0+(u:Nat)+(v:Nat):Int)),some (.int z),_,?_,fun b o e=>?_,(upd_ne hrv.2.symm).trans eD8,R8.put (j:=u) (z:=z) k1 k2,S6.put (by omega) (by omega) hz⟩
     ·rfl
     ·rw [upd_ne (ne_of_none e hrv.1)]; exact c8 _ _ e
    ·rintro σ H6 ⟨o6,o7,M,rfl,c6,eD6,R6,S6⟩
     exact ⟨_,_,_,M,by rw [tr1],c6,eD6,R6,S6⟩
   ·rintro σ H5 ⟨o4',o6,o7,M,rfl,c5,eD5,R5,S5⟩
    exact ⟨_,rfl,q D rs M H5 c5 hD o4 eD5 R5 S5⟩
theorem pi_listK {X:Cx} {tg l:Expr} {tl:TE} (hl:PE X l tl) (h:X.K=K:=by rfl):PI X tg l (iList K tl):=by subst h; exact pi_list hl
structure WebAt (H:Hp) (p hA rA:Addr) (rs:List Addr) (n:Nat) (hs:List Int) (M:List (List Int)):Prop where
 tup:H p=some (.tup [.ref hA,.ref rA])
 hue:H hA=some (.lst (hs.map V.int))
 rws:H rA=some (.lst (rs.map V.ref))
 row:RowsAt H rs M
 len:hs.length=n
 pos:∀ z ∈ hs,0≤z∧z < 3
 sq:Sq n M
def NewW (H:Hp) (p hA rA:Addr) (rs:List Addr):Prop:=(∀ a ∈ p :: hA :: rA :: rs,H a=none)∧hA≠rA∧hA ∉ rs∧rA ∉ rs
def spWebP (K:Frag):Sp:=fun vs H Q _=>∃ (a:Addr) (ns:List Int) (t:Int) (n:Nat) (fr:Bool),vs=[.ref a,.int t,.int (n:Int),.bl fr]∧SqL K H a (ns.map V.int)∧0≤t∧n≤8 ∧
 ∀ (p hA rA:Addr) (rs:List Addr) (hs:List Int) (M:List (List Int)) (H':Hp),Same H H'→NewW H p hA rA rs→WebAt H' p hA rA rs n hs M→Q (.ref p) H'
abbrev nWebP:List Str:=["_law_script","_law_at","_law_many","_law_free","_law_draws_here","_law_hues","_law_way","_law_square_here"]
abbrev aWebP:List Str:=["_law_script","_law_at","_law_many","_law_free"]
theorem scWebP:FnScope nWebP aWebP (defScope sWebP):=by constructor<;>first|rfl|decide +kernel
theorem lcWebP:LcScope (defScope sWebP) nWebP (lcScope (asgVal (bodyAt sWebP 1))) "_law_draw":=by constructor<;>first|rfl|decide +kernel
theorem cut_take (ns:List Int) (n:Nat) (h:n≤ns.length):cutV (ns.map V.int) none (some (n:Int))=(ns.take n).map V.int:=by
 unfold cutV
 rw [HT.sIx_none,HT.sIx_nat,List.drop_zero,length_map,Nat.min_eq_left h,Nat.sub_zero,List.map_take]
theorem ok_webP {f fC fD fS:Addr} {fd fdC fdD fdS:FuncData} (B:BltL mg) (F:Fun K "_law_web" "_law_web" sWebP f fd) (DC:Dn K mg "_law_cell_at" sCellAt ["_law_script","_law_k"] fC fdC) (GC:FnOk P w K mg base CX0 1 fC fdC ["_law_script","_law_k"] (spCell K))
  (DD:Dn K mg "_law_draws" sDraws ["_law_cell","_law_many","_law_base","_law_free"] fD fdD) (GD:FnOk P w K mg base CX0 1 fD fdD ["_law_cell","_law_many","_law_base","_law_free"] spDraws)
  (DS:Dn K mg "_law_square" sSquare ["_law_many","_law_draws_here","_law_way"] fS fdS) (GS:FnOk P w K mg base CX0 1 fS fdS ["_law_many","_law_draws_here","_law_way"] (spSquare K)):FnOk P w K mg base CX0 2 f fd aWebP (spWebP K):=by
 refine F.ok scWebP (fun vs H Q E h=>?_) (fun cdv A outer s H vs Q E hr h=>?_)
 ·obtain ⟨a,ns,t,n,fr,rfl,_⟩:=h
  rfl
 ·obtain ⟨a,ns,t,n,fr,rfl,hS,ht,hn,q⟩:=h
  refine ⟨_,pss_cons (ps_set (i:=4) scWebP.nd rfl (Or.inr rfl) (pe_fn DD GD hr rfl (pa_cons (pe_fn DC GC hr rfl (pa_cons (pv 0) (pa_cons (pv 1) pa_nil))) (pa_cons (pe_op op_add (pv 2) pe_int) (pa_cons pe_int (pa_cons (pv 3) pa_nil))))))
   (pss_cons (ps_setLc (i:=5) scWebP.nd rfl (Or.inl rfl) rfl lcWebP rfl (pi_list (pe_slice sl_list (pv 4) po_none (po_some (pv 2)))) (fun _ _ _=>pe_op op_mul (pv 8) (pe_callTy call_int1 (by rfl) B.int boot_int (pa_cons (pe_cmpR op_gt (pe_ix (ix_listK (K:=K)) (pv 4) (pv 2) (fun _ _=>rfl)) pe_int (nomark _)) pa_nil))))
   (pss_cons (ps_set (i:=6) scWebP.nd rfl (Or.inl rfl) (pe_op op_mod (pe_fn DC GC hr rfl (pa_cons (pv 0) (pa_cons (pe_op op_add (pv 1) pe_int) pa_nil))) pe_int))
   (pss_cons (ps_set (i:=7) scWebP.nd rfl (Or.inl rfl) (pe_fn DS GS hr rfl (pa_cons (pv 2) (pa_cons (pe_fn DD GD hr rfl (pa_cons (pe_fn DC GC hr rfl (pa_cons (pv 0) (pa_cons (pe_op op_add (pv 1) pe_int) pa_nil))) (pa_cons (pe_op op_fdiv (pe_op op_mul (pv 2) (pe_op op_add (pv 2) pe_int)) pe_int) (pa_cons pe_int (pa_cons (pv 3) pa_nil))))) (pa_cons (pv 6) pa_nil)))))
   (pss_one (ps_ret (pe_tup (pa_cons (pv 5) (pa_cons (pv 7) pa_nil)))))))),?_⟩
  refine ⟨_,rfl,_,rfl,a,ns,t,rfl,hS,ht,fun c1 _=>?_⟩
  refine ⟨_,rfl,_,_,rfl,rfl,_,rfl,c1,n+1,3,fr,rfl,by omega,by decide,.inl (by decide),fun d ds H1 hd _ s1 nd ed=>?_⟩
  obtain ⟨ld,bd⟩:=hd
  refine ⟨_,rfl,_,rfl,_,rfl,d,_,rfl,SqL.of ed,fun p hp=>?_⟩
  rw [cut_take ds n (by omega)]
  have ep:upd H1 p (.lst ((ds.take n).map V.int)) p=some (.lst ((ds.take n).map V.int)):=upd_same
  have s2:Same H (upd H1 p (.lst ((ds.take n).map V.int))):=s1.trans (Same.upd hp)
  have ed2:upd H1 p (.lst ((ds.take n).map V.int)) d=some (.lst (ds.map V.int)):=by rw [upd_ne (ne_of_none ed hp)]; exact ed
  generalize upd H1 p (.lst ((ds.take n).map V.int))=H2 at ep s2 ed2 ⊢
  refine ⟨p,rfl,⟨_,SqL.of ep⟩,fun D hD=>?_⟩
  have hnl:n < ds.length:=by omega
  have hat:atI (ds.map V.int) (n:Int)=some (.int (ds[n]'hnl)):=atI_nat (by rw [getElem?_map,getElem?_eq_getElem hnl]; rfl)
  generalize ds[n]'hnl=x at hat
  refine lc_list (K:=K) (xs:=(ds.take n).map V.int) (fun i ys H'=>∃ hs:List Int,ys=hs.map V.int∧hs.length=i∧Same H2 H'∧H' D=some (.lst ys)∧∀ z ∈ hs,0≤z∧z < 3) ?_ ?_ ?_ ?_ ?_
  ·exact ⟨[],rfl,rfl,Same.upd hD,upd_same,fun z hz=>by cases hz⟩
  ·rintro i ys H' _ ⟨hs,rfl,lt,s3,eD,_⟩
   exact ⟨s3.seq (SqL.of ep),eD⟩
  ·rintro i v ys H' hv ⟨hs,rfl,lt,s3,eD,hb⟩
   obtain ⟨z,hz,rfl⟩:=map_get hv
   have zb:=bd z (mem_of_mem_take (mem_of_getElem? hz))
   have li:=(List.getElem?_eq_some_iff.mp hz).1
   rw [length_take] at li
   refine ⟨_,rfl,_,rfl,_,rfl,d,_,_,_,rfl,rfl,SqL.of (s3 _ _ ed2),hat,_,_,rfl,rfl,.inr ⟨_,rfl,_,_,rfl,rfl,cmul_l (by omega) (by omega),?_⟩⟩
   refine ⟨eD,small1000 (by rw [length_map]; omega),hs++[z * (if decide (0 < x)=true then 1 else 0)],by rw [map_append]; rfl,by rw [length_append,lt]; rfl,fun b o e=>?_,upd_same,?_⟩
   ·rw [upd_ne (ne_of_none e hD)]
    exact s3 _ _ e
   ·intro y hy
    rcases mem_append.mp hy with g | g
    ·exact hb y g
    ·rw [mem_singleton.mp g]
     split <;> omega
  ·rintro ys H3 ⟨hs,rfl,lt,s3,eD,hb⟩
   rw [length_map,length_take,Nat.min_eq_left (by omega)] at lt
   have c3:=s2.trans s3
   have nD:H D=none:=s2.free hD
   refine ⟨_,rfl,_,rfl,_,_,rfl,rfl,a,ns,t+2,rfl,c3.seq hS,by omega,fun c2 _=>⟨_,_,rfl,rfl,(by show (0:Int) < 4; decide),?_⟩⟩
   refine ⟨_,rfl,_,rfl,_,rfl,_,_,rfl,rfl,a,ns,t+1,rfl,c3.seq hS,by omega,fun c4 _=>?_⟩
   have en:(n:Int) * ((n:Int)+1) / 2=((n * (n+1) / 2:Nat):Int):=by
    rw [show (n:Int) * ((n:Int)+1)=((n * (n+1):Nat):Int) by push_cast; rfl]
    rfl
   have nb:n * (n+1) / 2≤100:=by
    have:n * (n+1)≤8 * 9:=Nat.mul_le_mul hn (by omega)
    omega
   refine ⟨_,rfl,_,rfl,_,_,rfl,rfl,_,_,rfl,rfl,cmul_l (by omega) (by omega),_,_,rfl,rfl,⟨by decide,by decide⟩,?_⟩
   refine ⟨_,rfl,c4,n * (n+1) / 2,210,fr,?_,nb,by decide,.inl (by decide),fun d' ds' H4 hd' _ s4 nd' ed'=>?_⟩
   ·show [V.int c4,V.int ((n:Int) * ((n:Int)+1) / 2),_,_]=_
    rw [en]
   have c5:=c3.trans s4
   refine ⟨_,rfl,n,d',c2 % 4,ds',rfl,hn,SqL.of ed',hd',fun R rs M H5 s5 nR nrs eR RR SR=>?_⟩
   have eD5:=s5 _ _ (s4 _ _ eD)
   refine ⟨_,rfl,_,rfl,sz2,fun p' hp'=>?_⟩
   have c6:=c5.trans s5
   have np:=fun {b:Addr} {o:HO} (e:H5 b=some o)=>ne_of_none e hp'
   have nDR:D≠R:=fun z=>by subst z; rw [s4 _ _ eD] at nR; cases nR
   refine q p' D R rs hs M _ (c6.trans (Same.upd hp')) ⟨?_,nDR,fun z=>?_,fun z=>(nrs _ z).2 rfl⟩ ⟨upd_same,by rw [upd_ne (np eD5)]; exact eD5,by rw [upd_ne (np eR)]; exact eR,RR.keep fun r hr o e=>by rw [upd_ne (np e)]; exact e,lt,hb,SR⟩
   ·intro b hb'
    rcases mem_cons.mp hb' with rfl | hb'
    ·exact c6.free hp'
    ·rcases mem_cons.mp hb' with rfl | hb'
     ·exact nD
     ·rcases mem_cons.mp hb' with rfl | hb'
      ·exact c5.free nR
      ·exact c5.free (nrs b hb').1
   ·have:=(nrs _ z).1
    rw [s4 _ _ eD] at this
    cases this
  ·rintro σ H' Q1 Q2 hq ⟨v1,e1,v2,e2,v3,e3,a1,a2,a3,a4,b1,b2,b3,b4,i1,i2,j1,j2,g⟩
   refine ⟨v1,e1,v2,e2,v3,e3,a1,a2,a3,a4,b1,b2,b3,b4,i1,i2,j1,j2,?_⟩
   rcases g with ⟨i,f1,m1,m2,f2,f3,f4,f5⟩ | ⟨i,f1,m1,m2,f2,f3,f4,f5⟩
   ·exact .inl ⟨i,f1,m1,m2,f2,f3,f4,hq _ _ f5⟩
   ·exact .inr ⟨i,f1,m1,m2,f2,f3,f4,hq _ _ f5⟩
structure BltP (mg:Str→Option Value):Prop where
 len:mg "len" = none
 zip:mg "zip" = none
 list:mg "list" = none
 tuple:mg "tuple" = none
section
variable {κ:Type} [DecidableEq κ]
def seenAdd (s:List κ) (k:κ):List κ:=if k ∈ s then s else s++[k]
def numsFrom (s:List κ):List κ→List Nat
 | []=>[]
 | k :: ks=>s.idxOf k :: numsFrom (seenAdd s k) ks
def numb (ks:List κ):List Nat:=numsFrom [] ks
theorem numsFrom_snoc (k:κ):∀ (ks s:List κ),numsFrom s (ks++[k])=numsFrom s ks++[(ks.foldl seenAdd s).idxOf k]
 | [],s=>rfl
 | x :: ks,s=>by
  show s.idxOf x :: numsFrom (seenAdd s x) (ks++[k])=_
  rw [numsFrom_snoc k ks]
  rfl
theorem numsFrom_len:∀ (ks s:List κ),(numsFrom s ks).length=ks.length
 | [],_=>rfl
 | _ :: ks,s=>by simp [numsFrom,numsFrom_len ks]
theorem seen_le:∀ (ks s:List κ),(ks.foldl seenAdd s).length≤s.length+ks.length
 | [],s=>Nat.le_refl _
 | k :: ks,s=>by
  have:=seen_le ks (seenAdd s k)
  have e:(seenAdd s k).length≤s.length+1:=by
   unfold seenAdd
   split
   ·omega
   ·rw [length_append,length_singleton]; omega
  rw [foldl_cons,length_cons]
  omega
theorem KL_num (k:κ):∀ (l:List (κ × V × V)) (o:Nat),(∀ (j:Nat) (x:κ × V × V),l[j]? = some x→x.2.2=.int ((o+j:Nat):Int)) →
  KL l k=if k ∈ l.map (·.1) then some (.int ((o+(l.map (·.1)).idxOf k:Nat):Int)) else none
 | [],_,_=>rfl
 | x :: l,o,h=>by
  have ih:=KL_num k l (o+1) fun j y e=>by rw [h (j+1) y (by simpa using e)]; congr 2; omega
  by_cases e:x.1=k
  ·have h0:=h 0 x rfl
   rw [show KL (x :: l) k=some x.2.2 by simp [KL,e],h0]
   simp [idxOf_cons,e]
  ·rw [show KL (x :: l) k=KL l k by simp [KL,e],ih]
   by_cases m:k ∈ l.map (·.1)
   ·rw [map_cons,if_pos m,if_pos (mem_cons_of_mem _ m),idxOf_cons,(by simpa using e:(x.1 == k)=false),cond_false]
    congr 3
    omega
   ·rw [map_cons,if_neg m,if_neg (by rw [mem_cons]; rintro (q | q); exact e q.symm; exact m q)]
end
def spNum (K:Frag) {κ:Type} [DecidableEq κ] (key:Hp→V→κ→Prop):Sp:=fun vs H Q _=>∃ (a:Addr) (ys:List V) (ks:List κ),vs=[.ref a]∧SqL K H a ys∧ys.length=ks.length∧ks.length≤1000 ∧
 (∀ (j:Nat) (y:V) (k:κ),ys[j]? = some y→ks[j]? = some k→key H y k)∧∀ p H',Same H H'→H p=none→H' p=some (.lst ((numb ks).map fun (n:Nat)=>V.int (n:Int)))→Q (.ref p) H'
abbrev nNum:List Str:=["marks","numbers","lots","mark"]
theorem scNum:FnScope nNum ["marks"] (defScope sNumbered):=by constructor<;>first|rfl|decide +kernel
theorem ok_num {κ:Type} [DecidableEq κ] {obj:Addr→List (κ × V × V)→HO} {key:Hp→V→κ→Prop} (kd:∀ X:Cx,X.prog=P→X.w=w→X.A.units+64 < cLine→Kd X κ obj key) (ks':∀ {H H':Hp} {y:V} {k:κ},Same H H'→key H y k→key H' y k)
  {f:Addr} {fd:FuncData} (B:BltP mg) (F:Fun K "numbered" "numbered" sNumbered f fd):FnOk P w K mg base CX0 1 f fd ["marks"] (spNum K key):=by
 refine F.ok scNum (fun vs H Q E h=>?_) (fun cdv A outer s H vs Q E hr h=>?_)
 ·obtain ⟨a,ys,ks,rfl,_⟩:=h
  rfl
 ·obtain ⟨a,ys,ks,rfl,hy,hl,hz,hk,q⟩:=h
  have KD:=fun X e1 e2 e3=>kd X e1 e2 e3
  refine ⟨_,pss_cons (ps_set (i:=1) scNum.nd rfl (Or.inl rfl) ((kd _ rfl rfl hr.units).new _))
   (pss_cons (ps_set (i:=2) scNum.nd rfl (Or.inl rfl) (pe_lst pa_nil))
   (pss_cons (ps_for PassesOwn.never rfl (pi_list (pv 0)) (pg_name (i:=3) scNum.nd rfl (Or.inl rfl))
    (pss_one (ps_expr (pe_bm plainAttrs_list PySem.F.slot_list_append PySem.F.type_list_append mt_append (pv 2)
     (pa_cons (pe_setd (kd _ rfl rfl hr.units) (pv 1) (pv 3) (pe_callB (kd _ rfl rfl hr.units).len (by rfl) B.len boot_len (pa_cons (pv 1) pa_nil)) ⟨rfl,rfl,rfl,rfl⟩) pa_nil)))))
   (pss_one (ps_ret (pv 2))))),?_⟩
  intro N hN
  refine ⟨Nat.zero_le _,fun R hR=>?_⟩
  have nNR:N≠R:=ne_of_none upd_same hR
  have hR0:H R=none:=by rw [upd_ne nNR.symm] at hR; exact hR
  have sH:Same H (upd (upd H N (obj N [])) R (.lst [])):=(Same.upd hN).trans (Same.upd hR)
  refine ⟨_,rfl,a,rfl,⟨_,sH.seq hy⟩,for_list (K:=K) (a:=a) (xs:=ys) (fun i σ H'=>∃ (o:Option V) (l:List (κ × V × V)),σ=[some (.ref a),some (.ref N),some (.ref R),o]∧Same H H'∧H' N=some (obj N l)∧H' R=some (.lst ((numsFrom [] (ks.take i)).map fun (n:Nat)=>V.int (n:Int))) ∧
   l.map (·.1)=(ks.take i).foldl seenAdd []∧(∀ (j:Nat) (x:κ × V × V),l[j]? = some x→x.2.2=.int (j:Int))∧∀ z ∈ l,key H z.2.1 z.1) ?_ ?_ ?_ ?_⟩
  ·exact ⟨none,[],rfl,sH,by rw [upd_ne nNR]; exact upd_same,upd_same,rfl,fun j x e=>by simp at e,fun z hz=>by cases hz⟩
  ·rintro i σ H' _ ⟨o,l,rfl,s1,_⟩
   exact s1.seq hy
  ·rintro i v σ H' hi ⟨o,l,rfl,s1,eN,eR,el,ev,ek⟩
   have li:i < ks.length:=by rw [←hl]; exact (List.getElem?_eq_some_iff.mp hi).1
   have hki:ks[i]? = some (ks[i]'li):=getElem?_eq_getElem li
   have kv:key H' v (ks[i]'li):=ks' s1 (hk i v _ hi hki)
   have kl:∀ z ∈ l,key H' z.2.1 z.1:=fun z hz=>ks' s1 (ek z hz)
   have tk:ks.take (i+1)=ks.take i++[ks[i]'li]:=by rw [List.take_succ,hki]; rfl
   have ll:l.length≤1000:=by
    have:=seen_le (ks.take i) []
    rw [←el,length_map,length_take] at this
    simp at this
    omega
   have lr:((numsFrom [] (ks.take i)).map fun (n:Nat)=>V.int (n:Int)).length≤1000:=by
    rw [length_map,numsFrom_len,length_take]
    omega
   have num:=KL_num (ks[i]'li) l 0 fun j x e=>by rw [Nat.zero_add]; exact ev j x e
   rw [Nat.zero_add,el] at num
   refine ⟨_,rfl,.inl ⟨rfl,_,SqL.of eR⟩,_,rfl,N,l,rfl,eN,_,rfl,_,rfl,N,l,rfl,eN,kl,N,l,ks[i]'li,v,_,rfl,rfl,eN,kl,kv,small1000 ll,?_⟩
   by_cases m:(ks[i]'li) ∈ (ks.take i).foldl seenAdd []
   ·rw [if_pos m] at num
    refine .inl ⟨_,num,?_⟩
    refine ⟨R,_,_,rfl,rfl,eR,small1000 lr,?_⟩
    refine ⟨_,l,rfl,fun b ob e=>?_,?_,?_,?_,ev,ek⟩
    ·rw [upd_ne (ne_of_none e hR0)]
     exact s1 _ _ e
    ·rw [upd_ne nNR]
     exact eN
    ·rw [upd_same,tk,numsFrom_snoc,map_append]
     rfl
    ·rw [el,tk,foldl_append]
     show _=seenAdd _ _
     rw [seenAdd,if_pos m]
   ·rw [if_neg m] at num
    refine .inr ⟨num,?_⟩
    have eR2:upd H' N (obj N (l++[(ks[i]'li,v,.int (l.length:Int))])) R=some (.lst ((numsFrom [] (ks.take i)).map fun (n:Nat)=>V.int (n:Int))):=by rw [upd_ne nNR.symm]; exact eR
    refine ⟨R,_,_,rfl,rfl,eR2,small1000 lr,?_⟩
    refine ⟨_,_,rfl,fun b ob e=>?_,by rw [upd_ne nNR]; exact upd_same,?_,?_,?_,?_⟩
    ·rw [upd_ne (ne_of_none e hR0),upd_ne (ne_of_none e hN)]
     exact s1 _ _ e
    ·have ll':((ks.take i).foldl seenAdd []).length=l.length:=by rw [←el,length_map]
     rw [upd_same,tk,numsFrom_snoc,map_append,List.idxOf_eq_length m,ll']
     rfl
    ·rw [map_append,el,tk,foldl_append]
     show _=seenAdd _ _
     rw [seenAdd,if_neg m]
     rfl
    ·intro j x e
     rcases Nat.lt_or_ge j l.length with lj | lj
     ·rw [getElem?_append_left lj] at e
      exact ev j x e
     ·rw [getElem?_append_right lj] at e
      obtain rfl:j=l.length:=by
       have:=(List.getElem?_eq_some_iff.mp e).1
       rw [length_singleton] at this
       omega
      rw [Nat.sub_self] at e
      cases e
      rfl
    ·intro z hz
     rcases mem_append.mp hz with q' | q'
     ·exact ek z q'
     ·cases mem_singleton.mp q'
      exact hk i v _ hi hki
  ·rintro σ H' ⟨o,l,rfl,s1,eN,eR,_⟩
   refine ⟨_,rfl,q R H' s1 hR0 ?_⟩
   rw [eR,hl,take_length]
   rfl
end
section
variable {κ ι:Type} [DecidableEq κ] [DecidableEq ι]
theorem idx_same {k:κ} {l:ι}:∀ (s:List κ) (t:List ι),s.length=t.length→(∀ p ∈ s.zip t,p.1=k↔p.2=l)→s.idxOf k=t.idxOf l∧(k ∈ s↔l ∈ t)
 | [],[],_,_=>⟨rfl,by simp⟩
 | [],_ :: _,h,_=>by simp at h
 | _ :: _,[],h,_=>by simp at h
 | x :: s,y :: t,h,hp=>by
  have h0:=hp (x,y) (by simp)
  obtain ⟨h1,h2⟩:=idx_same s t (by simpa using h) fun p hm=>hp p (by rw [zip_cons_cons]; exact mem_cons_of_mem _ hm)
  by_cases e:x=k
  ·have e':y=l:=h0.mp e
   subst e e'
   simp [idxOf_cons]
  ·have e':¬ y=l:=fun q=>e (h0.mpr q)
   refine ⟨?_,?_⟩
   ·rw [idxOf_cons,idxOf_cons,(by simpa using e:(x == k)=false),(by simpa using e':(y == l)=false),cond_false,cond_false,h1]
   ·rw [mem_cons,mem_cons,h2]
    constructor
    ·rintro (q | q)
     ·exact absurd q.symm e
     ·exact .inr q
    ·rintro (q | q)
     ·exact absurd q.symm e'
     ·exact .inr q
theorem nums_same:∀ (ks:List κ) (ls:List ι) (s:List κ) (t:List ι),ks.length=ls.length→s.length=t.length→(∀ p ∈ s.zip t++ks.zip ls,∀ q ∈ s.zip t++ks.zip ls,p.1=q.1↔p.2=q.2)→numsFrom s ks=numsFrom t ls
 | [],[],_,_,_,_,_=>rfl
 | [],_ :: _,_,_,h,_,_=>by simp at h
 | _ :: _,[],_,_,h,_,_=>by simp at h
 | k :: ks,l :: ls,s,t,h,hs,hp=>by
  have hkl:(k,l) ∈ s.zip t++(k :: ks).zip (l :: ls):=by simp
  obtain ⟨h1,h2⟩:=idx_same (k:=k) (l:=l) s t hs fun p hm=>hp p (mem_append_left _ hm) (k,l) hkl
  show s.idxOf k :: numsFrom (seenAdd s k) ks=t.idxOf l :: numsFrom (seenAdd t l) ls
  rw [h1]
  congr 1
  have hz:∀ p ∈ (seenAdd s k).zip (seenAdd t l)++ks.zip ls,p ∈ s.zip t++(k :: ks).zip (l :: ls):=by
   intro p hm
   rcases mem_append.mp hm with q | q
   ·unfold seenAdd at q
    by_cases m:k ∈ s
    ·rw [if_pos m,if_pos (h2.mp m)] at q
     exact mem_append_left _ q
    ·rw [if_neg m,if_neg (fun z=>m (h2.mpr z)),zip_append hs] at q
     rcases mem_append.mp q with q | q
     ·exact mem_append_left _ q
     ·rw [zip_cons_cons,List.zip_nil_left,mem_singleton] at q
      rw [q]
      exact hkl
   ·refine List.mem_append_right _ ?_
    rw [zip_cons_cons]
    exact mem_cons_of_mem _ q
  refine nums_same ks ls _ _ (by simpa using h) ?_ fun p hm q hq=>hp p (hz p hm) q (hz q hq)
  unfold seenAdd
  by_cases m:k ∈ s
  ·rw [if_pos m,if_pos (h2.mp m)]
   exact hs
  ·rw [if_neg m,if_neg (fun z=>m (h2.mpr z)),length_append,length_append,hs]
   rfl
theorem seen_keep {k:κ}:∀ (ks s:List κ),k ∈ s→k ∈ ks.foldl seenAdd s∧(ks.foldl seenAdd s).idxOf k=s.idxOf k
 | [],_,h=>⟨h,rfl⟩
 | x :: ks,s,h=>by
  have m:k ∈ seenAdd s x:=by
   unfold seenAdd
   split
   ·exact h
   ·exact mem_append_left _ h
  obtain ⟨h1,h2⟩:=seen_keep ks (seenAdd s x) m
  refine ⟨h1,h2.trans ?_⟩
  unfold seenAdd
  split
  ·rfl
  ·rw [List.idxOf_append,if_pos h]
theorem nums_idx {k:κ}:∀ (ks s:List κ) (i:Nat),ks[i]? = some k→(numsFrom s ks)[i]? = some ((ks.foldl seenAdd s).idxOf k)∧k ∈ ks.foldl seenAdd s
 | [],_,_,h=>by simp at h
 | x :: ks,s,i+1,h=>by
  have:=nums_idx ks (seenAdd s x) i (by simpa using h)
  simpa [numsFrom] using this
 | x :: ks,s,0,h=>by
  cases h
  have m:k ∈ seenAdd s k:=by
   unfold seenAdd
   split
   ·assumption
   ·simp
  obtain ⟨h1,h2⟩:=seen_keep ks _ m
  refine ⟨?_,h1⟩
  show some (s.idxOf k)=some ((ks.foldl seenAdd (seenAdd s k)).idxOf k)
  rw [h2]
  congr 1
  unfold seenAdd
  split
  ·rfl
  ·rename_i m'
   rw [List.idxOf_append,if_neg m',List.idxOf_eq_length m']
   simp
theorem numb_iff {ks:List κ} {ls:List ι} (h:ks.length=ls.length):numb ks=numb ls↔∀ (i j:Nat) (k k':κ) (l l':ι),ks[i]? = some k→ks[j]? = some k'→ls[i]? = some l→ls[j]? = some l'→(k=k'↔l=l'):=by
 constructor
 ·intro e i j k k' l l' h1 h2 h3 h4
  obtain ⟨a1,b1⟩:=nums_idx ks [] i h1
  obtain ⟨a2,b2⟩:=nums_idx ks [] j h2
  obtain ⟨a3,b3⟩:=nums_idx ls [] i h3
  obtain ⟨a4,b4⟩:=nums_idx ls [] j h4
  have e':numsFrom [] ks=numsFrom [] ls:=e
  rw [e',a3] at a1
  rw [e',a4] at a2
  have c1:=Option.some.inj a1
  have c2:=Option.some.inj a2
  have inj:∀ {α:Type} [DecidableEq α] {s:List α} {x y:α},x ∈ s→s.idxOf x=s.idxOf y→x=y:=by
   intro α _ s x y hx q
   have l1:=idxOf_lt_length_iff.mpr hx
   have g1:s[s.idxOf x]=x:=getElem_idxOf l1
   have g2:s[s.idxOf y]'(q ▸ l1)=y:=getElem_idxOf (q ▸ l1)
   rw [←g1,←g2]
   congr 1
  constructor
  ·rintro rfl
   exact inj b3 (c1.trans c2.symm)
  ·rintro rfl
   exact inj b1 (c1.symm.trans c2)
 ·intro hp
  refine nums_same ks ls [] [] h rfl ?_
  intro p hm q hq
  rw [List.zip_nil_left,nil_append] at hm hq
  obtain ⟨i,hi⟩:=mem_iff_getElem?.mp hm
  obtain ⟨j,hj⟩:=mem_iff_getElem?.mp hq
  obtain ⟨i1,i2⟩:=getElem?_zip_eq_some.mp hi
  obtain ⟨j1,j2⟩:=getElem?_zip_eq_some.mp hj
  exact hp i j _ _ _ _ i1 j1 i2 j2
end
section
variable {P:Program} {w:World} {K:Frag} {mg:Str→Option Value} {base:Heap}
def nI (l:List Nat):List Int:=l.map fun (n:Nat)=>(n:Int)
theorem nI_inj {a b:List Nat} (h:nI a=nI b):a=b:=List.map_inj_right (fun _ _ q=>Int.ofNat.inj q) |>.mp h
theorem nI_get {l:List Nat} {i:Nat}:(nI l)[i]? = (l[i]?).map fun (n:Nat)=>(n:Int):=getElem?_map
theorem numb_len {κ:Type} [DecidableEq κ] (ks:List κ):(numb ks).length=ks.length:=numsFrom_len ks []
theorem numb_get {κ:Type} [DecidableEq κ] {ks:List κ} {i j:Nat} {k k':κ} {a b:Nat} (h1:ks[i]? = some k) (h2:ks[j]? = some k') (h3:(numb ks)[i]? = some a) (h4:(numb ks)[j]? = some b):a=b↔k=k':=by
 obtain ⟨a1,b1⟩:=nums_idx ks [] i h1
 obtain ⟨a2,b2⟩:=nums_idx ks [] j h2
 have c1:some ((ks.foldl seenAdd []).idxOf k)=some a:=a1.symm.trans h3
 have c2:some ((ks.foldl seenAdd []).idxOf k')=some b:=a2.symm.trans h4
 cases c1
 cases c2
 constructor
 ·intro q
  have l1:=idxOf_lt_length_iff.mpr b1
  have g1:(ks.foldl seenAdd [])[(ks.foldl seenAdd []).idxOf k]=k:=getElem_idxOf l1
  have g2:(ks.foldl seenAdd [])[(ks.foldl seenAdd []).idxOf k']'(q ▸ l1)=k':=getElem_idxOf (q ▸ l1)
  rw [←g1,←g2]
  congr 1
 ·rintro rfl
  rfl
theorem numb_numb {κ:Type} [DecidableEq κ] (ks:List κ):numb (nI (numb ks))=numb ks:=by
 have ln:(nI (numb ks)).length=ks.length:=by rw [nI,length_map,numb_len]
 rw [numb_iff ln]
 intro i j a b k k' h1 h2 h3 h4
 rw [nI_get] at h1 h2
 obtain ⟨x,hx,rfl⟩:=Option.map_eq_some_iff.mp h1
 obtain ⟨y,hy,rfl⟩:=Option.map_eq_some_iff.mp h2
 rw [←numb_get h3 h4 hx hy]
 exact Int.ofNat_inj
def Finer (a b:List Int):Prop:=∀ (i j:Nat) (l x y:Int),a[i]? = some l→a[j]? = some l→b[i]? = some x→b[j]? = some y→x=y
def Norm (ls:List Int):Prop:=ls=nI (numb ls)
theorem norm_numb {κ:Type} [DecidableEq κ] (ks:List κ):Norm (nI (numb ks)):=by unfold Norm; rw [numb_numb]
theorem norm_eq {a b:List Int} (ha:Norm a) (hb:Norm b) (l:a.length=b.length) (f:Finer a b) (g:Finer b a):a=b:=by
 rw [ha,hb]
 congr 1
 rw [numb_iff l]
 intro i j k k' x x' h1 h2 h3 h4
 constructor
 ·rintro rfl
  exact f i j _ _ _ h1 h2 h3 h4
 ·rintro rfl
  exact g i j _ _ _ h3 h4 h1 h2
def prs (n:Nat):List (Nat × Nat):=(List.range n).flatMap fun i=>(List.range n).map fun j=>(i,j)
theorem prs_mem {n i j:Nat}:(i,j) ∈ prs n↔i < n∧j < n:=by
 unfold prs
 simp
def shar (n:Nat) (ls:List Int):Nat:=(prs n).countP fun p=>decide (ls[p.1]? = ls[p.2]?)
theorem count_lt {α:Type} {p q:α→Bool}:∀ {l:List α},(∀ x ∈ l,p x=true→q x=true)→(∃ x ∈ l,q x=true∧p x=false)→l.countP p < l.countP q
 | [],_,⟨x,hx,_⟩=>by cases hx
 | y :: l,h,⟨x,hx,h1,h2⟩=>by
  have hl:∀ x ∈ l,p x=true→q x=true:=fun x hx=>h x (mem_cons_of_mem _ hx)
  have le:l.countP p≤l.countP q:=List.countP_mono_left hl
  rw [List.countP_cons,List.countP_cons]
  rcases mem_cons.mp hx with rfl | hx
  ·rw [h1,h2]
   simp
   omega
  ·have:=count_lt hl ⟨x,hx,h1,h2⟩
   have hy:=h y mem_cons_self
   by_cases e:p y=true
   ·rw [e,hy e]
    simp
    omega
   ·rw [if_neg e]
    split <;> omega
theorem shar_lt {a b:List Int} {n:Nat} (la:a.length=n) (lb:b.length=n) (na:Norm a) (nb:Norm b) (f:Finer a b) (ne:a≠b):shar n a < shar n b:=by
 unfold shar
 refine count_lt (fun p hp e=>?_) ?_
 ·obtain ⟨i,j⟩:=p
  obtain ⟨hi,hj⟩:=prs_mem.mp hp
  have e':a[i]? = a[j]?:=by simpa using e
  obtain ⟨x,hx⟩:=get_lt (l:=a) (i:=i) (by omega)
  obtain ⟨y,hy⟩:=get_lt (l:=b) (i:=i) (by omega)
  obtain ⟨z,hz⟩:=get_lt (l:=b) (i:=j) (by omega)
  have:b[i]? = b[j]?:=by rw [hy,hz,f i j x y z hx (by rw [←e',hx]) hy hz]
  simpa using this
 ·refine Classical.byContradiction fun no=>ne (norm_eq na nb (by omega) f fun i j l x y e1 e2 e3 e4=>?_)
  refine Classical.byContradiction fun nxy=>no ⟨(i,j),prs_mem.mpr ⟨by rw [←lb]; exact lt_get e1,by rw [←lb]; exact lt_get e2⟩,?_,?_⟩
  ·simp [e1,e2]
  ·simp [e3,e4,nxy]
theorem norm_zeros (n:Nat):Norm (List.replicate n 0):=by
 have g:∀ m,numsFrom [(0:Int)] (List.replicate m 0)=List.replicate m 0:=by
  intro m
  induction m with
  | zero=>rfl
  | succ m ih =>
   rw [replicate_succ]
   show List.idxOf (0:Int) [0] :: numsFrom (seenAdd [0] 0) (List.replicate m 0)=_
   rw [show seenAdd [(0:Int)] 0=[0] from rfl,ih]
   rfl
 unfold Norm
 cases n with
 | zero=>rfl
 | succ n =>
  have:numb (List.replicate (n+1) (0:Int))=List.replicate (n+1) 0:=by
   rw [replicate_succ]
   show List.idxOf (0:Int) [] :: numsFrom (seenAdd [] 0) (List.replicate n 0)=_
   rw [show seenAdd ([]:List Int) 0=[0] from rfl,g]
   rfl
  rw [this,nI,List.map_replicate]
  rfl
theorem finer_zeros {P:List Int} {n:Nat}:Finer P (List.replicate n 0):=by
 intro i j l x y _ _ e1 e2
 rw [getElem?_replicate] at e1 e2
 split at e1
 ·split at e2
  ·cases e1; cases e2; rfl
  ·cases e2
 ·cases e1
theorem nI_V (l:List Nat):(l.map fun (n:Nat)=>V.int (n:Int))=(nI l).map V.int:=by rw [nI,map_map]; rfl
def WbAt (K:Frag) (H:Hp) (v:V) (us:List Int) (M:List (List Int)):Prop :=
 ∃ (p h r:Addr) (rs:List Addr),v=.ref p∧SqT K H p [.ref h,.ref r]∧SqL K H h (us.map V.int)∧SqL K H r (rs.map V.ref)∧rs.length=M.length∧∀ (j:Nat) (t:Addr) (ws:List Int),rs[j]? = some t→M[j]? = some ws→SqL K H t (ws.map V.int)
theorem WbAt.same {H H':Hp} {v:V} {us:List Int} {M:List (List Int)} (h:WbAt K H v us M) (s:Same H H'):WbAt K H' v us M:=by
 obtain ⟨p,h1,r,rs,e,q1,q2,q3,q4,q5⟩:=h
 exact ⟨p,h1,r,rs,e,s.seqT q1,s.seq q2,s.seq q3,q4,fun j t ws e1 e2=>s.seq (q5 j t ws e1 e2)⟩
theorem iKey_same {H H':Hp} {y:V} {k:Int} (_:Same H H') (h:iKey H y k):iKey H' y k:=h
theorem ok_numI {f:Addr} {fd:FuncData} (B:BltP mg) (F:Fun K "numbered" "numbered" sNumbered f fd):FnOk P w K mg base CX0 1 f fd ["marks"] (spNum K iKey):=ok_num (obj:=iObj) (fun _ _ _ _=>kd_int) iKey_same B F
def forBody (s:Stmt) (i:Nat):Stmt:=match s with
 | .For _ _ b _ _=>b.getD i (.Pass ⟨0,0,0,0⟩)
 | _=>.Pass ⟨0,0,0,0⟩
def ifBody (s:Stmt) (i:Nat):Stmt:=match s with
 | .If _ b _ _=>b.getD i (.Pass ⟨0,0,0,0⟩)
 | _=>.Pass ⟨0,0,0,0⟩
theorem for_zip {a b:Addr} {xs ys:List V} {g:TG} {tb:TS} {D:Ends} {σ:L2.St} {H:Hp} (e:ys.length=xs.length) (Pv:Nat→L2.St→Hp→Prop) (h0:Pv 0 σ H) (hl:∀ i σ H,i≤xs.length→Pv i σ H→SqL K H a xs∧SqL K H b ys)
  (hs:∀ (i:Nat) (x y:V) (t:Addr) σ H,xs[i]? = some x→ys[i]? = some y→Pv i σ H→H t=none→g (.ref t) σ (upd H t (.tup [x,y])) fun σ2 H2=>tb { D with nx:=Pv (i+1),ct:=Pv (i+1),bk:=D.nx } σ2 H2) (hd:∀ σ H,Pv xs.length σ H→D.nx σ H) :
  ∃ W:Nat→Nat→L2.St→Hp→Prop,(∃ m,W 0 m σ H)∧∀ i m σ H,W i m σ H →
   ((Itz K a b).stop i H∧D.nx σ H) ∨ ((Itz K a b).go i H∧∃ N:L2.St→Hp→Prop,(∀ σ' H',N σ' H'→∃ m',m' < m∧W (i+1) m' σ' H')∧∀ x H',(Itz K a b).yld i H x H'→g x σ H' fun σ2 H2=>tb { D with nx:=N,ct:=N,bk:=D.nx } σ2 H2):=by
 refine ⟨fun i m σ H=>m=xs.length - i∧i≤xs.length∧Pv i σ H,⟨xs.length,by simp,Nat.zero_le _,h0⟩,?_⟩
 rintro i m σ H ⟨rfl,hi,p⟩
 obtain ⟨q1,q2⟩:=hl i σ H hi p
 by_cases lt:i < xs.length
 ·have lt':i < ys.length:=by omega
  refine .inr ⟨⟨xs,ys,xs[i],ys[i],q1,q2,getElem?_eq_getElem lt,getElem?_eq_getElem lt'⟩,Pv (i+1),fun σ' H' p'=>⟨xs.length - (i+1),by omega,rfl,lt,p'⟩,fun x H' y=>?_⟩
  obtain ⟨t,x1,y1,rfl,ht,rfl,g1,g2⟩:=y
  exact hs i x1 y1 t σ H (g1 xs q1) (g2 ys q2) p ht
 ·have ei:i=xs.length:=by omega
  subst ei
  exact .inl ⟨⟨xs,ys,q1,q2,.inl (Nat.le_refl _)⟩,hd σ H p⟩
theorem boot_tup:bootBuiltins "tuple" = some (.type "tuple"):=by decide +kernel
def valI (l:List (Int × Int)) (k:Int):Int:=((l.find? fun p=>decide (p.1=k)).map (·.2)).getD 0
def putI (l:List (Int × Int)) (k v:Int):List (Int × Int):=if l.any (fun p=>decide (p.1=k)) then l.map (fun p=>if p.1=k then (p.1,v) else p) else l++[(k,v)]
def stepS (l:List (Int × Int)) (p:Int × Int):List (Int × Int):=putI l p.2 (valI l p.2+p.1)
def sumsOf (ws ls:List Int):List (Int × Int):=(ws.zip ls).foldl stepS []
def em (l:List (Int × Int)):List (Key × V):=l.map fun p=>(Sum.inl p.1,V.int p.2)
theorem em_val (k:Int):∀ l,(valV (em l) (Sum.inl k)).getD (.int 0)=.int (valI l k)
 | []=>rfl
 | p :: l=>by
  by_cases e:p.1=k
  ·rw [em,map_cons,valV_pos (by rw [e])]
   simp [valI,e]
  ·rw [em,map_cons,valV_neg (fun q=>e (Sum.inl.inj q))]
   have ih:=em_val k l
   rw [em] at ih
   rw [ih]
   simp [valI,e]
theorem em_any (k:Int) (l:List (Int × Int)):((em l).any fun kv=>decide (kv.1=(Sum.inl k:Key)))=l.any fun p=>decide (p.1=k):=by
 rw [em,List.any_map]
 congr 1
 funext p
 simp
theorem em_put (l:List (Int × Int)) (k v:Int):putK (em l) (Sum.inl k) (.int v)=em (putI l k v):=by
 unfold putK putI
 rw [em_any]
 split
 ·rw [em,em,map_map,map_map]
  refine map_congr_left fun p _=>?_
  by_cases e:p.1=k
  ·simp [e]
  ·simp [e]
 ·simp [em]
theorem putI_len (l:List (Int × Int)) (k v:Int):(putI l k v).length≤l.length+1:=by
 unfold putI
 split
 ·rw [length_map]; omega
 ·simp
theorem sums_len:∀ (ps l:List (Int × Int)),(ps.foldl stepS l).length≤l.length+ps.length
 | [],l=>Nat.le_refl _
 | p :: ps,l=>by
  have h1:=sums_len ps (stepS l p)
  have h2:(stepS l p).length≤l.length+1:=putI_len _ _ _
  rw [foldl_cons,length_cons]
  omega
def spSums (K:Frag):Sp:=fun vs H Q _=>∃ (a b:Addr) (ws ls:List Int),vs=[.ref a,.ref b]∧SqL K H a (ws.map V.int)∧SqL K H b (ls.map V.int)∧ls.length=ws.length∧ws.length≤1000 ∧
 ∀ p H',Same H H'→H p=none→H' p=some (.tup ((sumsOf ws ls).map fun q=>V.int q.2))→Q (.ref p) H'
abbrev nSums:List Str:=["weights","lots","sums","weight","lot"]
theorem scSums:FnScope nSums ["weights","lots"] (defScope sSums):=by constructor<;>first|rfl|decide +kernel
theorem ok_sums {f:Addr} {fd:FuncData} (B:BltP mg) (F:Fun K "sums_to_lots" "sums_to_lots" sSums f fd):FnOk P w K mg base CX0 1 f fd ["weights","lots"] (spSums K):=by
 refine F.ok scSums (fun vs H Q E h=>?_) (fun cdv A outer s H vs Q E hr h=>?_)
 ·obtain ⟨a,b,ws,ls,rfl,_⟩:=h
  rfl
 ·obtain ⟨a,b,ws,ls,rfl,ha,hb,hl,hz,q⟩:=h
  refine ⟨_,pss_cons (ps_set (i:=2) scSums.nd rfl (Or.inl rfl) pe_dnewK)
   (pss_cons (ps_for PassesOwn.never rfl (pi_zip rfl B.zip (pa_cons (pv 0) (pa_cons (pv 1) pa_nil))) (pg_tup rfl (pgs_cons (pg_name (i:=3) scSums.nd rfl (Or.inl rfl)) (pgs_cons (pg_name (i:=4) scSums.nd rfl (Or.inl rfl)) pgs_nil)))
    (pss_one (ps_dput (hu_of hr) (pv 2) (pv 4) (pe_op op_add (pe_dget2 (hu_of hr) (pv 2) (pv 4) pe_int ⟨rfl,rfl,rfl,rfl⟩) (pv 3)) rfl)))
   (pss_one (ps_ret (pe_callTy (call_tupleV rfl) (by rfl) B.tuple boot_tup (pa_cons (pe_bm0 PySem.F.plainAttrs_dict PySem.F.slot_dict_values PySem.F.type_dict_values mt_values (pv 2)) pa_nil))))),?_⟩
  intro N hN
  have sH:Same H (upd H N (.dK [])):=Same.upd hN
  refine ⟨_,rfl,_,rfl,a,b,rfl,⟨_,sH.seq ha⟩,⟨_,sH.seq hb⟩,?_⟩
  refine for_zip (K:=K) (xs:=ws.map V.int) (ys:=ls.map V.int) (by rw [length_map,length_map,hl])
   (fun i σ H'=>∃ (o3 o4:Option V),σ=[some (.ref a),some (.ref b),some (.ref N),o3,o4]∧Same H H'∧H' N=some (.dK (em (((ws.zip ls).take i).foldl stepS [])))) ?_ ?_ ?_ ?_
  ·exact ⟨none,none,rfl,sH,upd_same⟩
  ·rintro i σ H' _ ⟨o3,o4,rfl,s1,_⟩
   exact ⟨s1.seq ha,s1.seq hb⟩
  ·rintro i x y t σ H' hx hy ⟨o3,o4,rfl,s1,eN⟩ ht
   rw [getElem?_map] at hx hy
   obtain ⟨wi,ewi,rfl⟩:=Option.map_eq_some_iff.mp hx
   obtain ⟨li,eli,rfl⟩:=Option.map_eq_some_iff.mp hy
   have nt:N≠t:=ne_of_none eN ht
   have eN':upd H' t (.tup [.int wi,.int li]) N=some (.dK (em (((ws.zip ls).take i).foldl stepS []))):=by rw [upd_ne nt]; exact eN
   have zi:(ws.zip ls)[i]? = some (wi,li):=getElem?_zip_eq_some.mpr ⟨ewi,eli⟩
   have tk:(ws.zip ls).take (i+1)=(ws.zip ls).take i++[(wi,li)]:=by rw [List.take_succ,zi]; rfl
   have sm:(em (((ws.zip ls).take i).foldl stepS [])).length≤1000:=by
    have:=sums_len ((ws.zip ls).take i) []
    rw [em,length_map]
    rw [length_take,length_zip] at this
    simp at this
    omega
   refine ⟨t,_,rfl,SqT.of upd_same,rfl,_,_,rfl,_,_,rfl,rfl,?_⟩
   refine ⟨_,rfl,N,rfl,.inl ⟨_,.inl eN'⟩,_,rfl,_,(show DGet _ N (V.int li) (valV (em (((ws.zip ls).take i).foldl stepS [])) (Sum.inl li)) from DGet.k (k:=Sum.inl li) eN'),_,rfl,_,_,em_val _ _,rfl,?_⟩
   refine ⟨_,rfl,_,rfl,N,_,rfl,(show DPut _ N (V.int li) _ _ from DPut.k (k:=Sum.inl li) eN' (small1000 sm)),?_⟩
   refine ⟨_,_,rfl,fun b' ob e=>?_,?_⟩
   ·rw [upd_ne (ne_of_none e hN),upd_ne (ne_of_none (s1 _ _ e) ht)]
    exact s1 _ _ e
   ·rw [upd_same,em_put,tk,foldl_append]
    rfl
  ·rintro σ H' ⟨o3,o4,rfl,s1,eN⟩
   rw [length_map] at eN
   have tk:(ws.zip ls).take ws.length=ws.zip ls:=by
    rw [take_of_length_le]
    rw [length_zip]
    omega
   rw [tk] at eN
   refine ⟨_,rfl,?_,N,_,rfl,rfl,eN,fun p hp=>?_⟩
   ·exact .inr (.inr (.inl ⟨rfl,.inl ⟨_,eN⟩⟩))
   ·have np:N≠p:=ne_of_none eN hp
    refine ⟨p,N,_,rfl,upd_same,by rw [upd_ne np]; exact eN,fun t ht=>?_⟩
    have hp0:H p=none:=s1.free hp
    have ht0:H t=none:=s1.free ((Same.upd hp).free ht)
    refine q t _ (s1.trans ((Same.upd hp).trans (Same.upd ht))) ht0 ?_
    rw [upd_same,em,map_map]
    rfl
def markOf (ls:List Int) (l u:Int) (ws:List Int):Mark:=(l,u,(sumsOf ws ls).map (·.2))
def marksOf (ls:List Int):List Int→List Int→List (List Int)→List Mark
 | l :: rest,u :: us,ws :: M=>markOf ls l u ws :: marksOf ls rest us M
 | _,_,_=>[]
theorem marksOf_len (ls:List Int):∀ (a us:List Int) (M:List (List Int)),us.length=a.length→M.length=a.length→(marksOf ls a us M).length=a.length
 | [],_,_,_,_=>by simp [marksOf]
 | _ :: _,[],_,h,_=>by simp at h
 | _ :: _,_ :: _,[],_,h=>by simp at h
 | l :: a,u :: us,ws :: M,h,h'=>by
  simp only [length_cons,Nat.add_right_cancel_iff] at h h'
  simp only [marksOf,length_cons,marksOf_len ls a us M h h']
theorem marksOf_get (ls:List Int):∀ (a us:List Int) (M:List (List Int)) (j:Nat) (k:Mark),(marksOf ls a us M)[j]? = some k→∃ l u ws,a[j]? = some l∧us[j]? = some u∧M[j]? = some ws∧k=markOf ls l u ws
 | l :: a,u :: us,ws :: M,0,k,h=>by
  cases h
  exact ⟨l,u,ws,rfl,rfl,rfl,rfl⟩
 | l :: a,u :: us,ws :: M,j+1,k,h=>by
  have h':(marksOf ls a us M)[j]? = some k:=by simpa [marksOf] using h
  simpa using marksOf_get ls a us M j k h'
 | [],_,_,_,_,h=>by simp [marksOf] at h
 | _ :: _,[],_,_,_,h=>by simp [marksOf] at h
 | _ :: _,_ :: _,[],_,_,h=>by simp [marksOf] at h
def spSplit (K:Frag):Sp:=fun vs H Q _=>∃ (v:V) (b:Addr) (us ls:List Int) (M:List (List Int)),vs=[v,.ref b]∧WbAt K H v us M∧SqL K H b (ls.map V.int)∧us.length=ls.length∧M.length=ls.length∧ls.length≤1000∧(∀ ws ∈ M,ws.length=ls.length) ∧
 ∀ p H',Same H H'→H p=none→H' p=some (.lst ((numb (marksOf ls ls us M)).map fun (n:Nat)=>V.int (n:Int)))→Q (.ref p) H'
abbrev nSplit:List Str:=["web","lots","sums"]
theorem scSplit:FnScope nSplit ["web","lots"] (defScope sSplit):=by constructor<;>first|rfl|decide +kernel
theorem lcSplit:LcScope (defScope sSplit) nSplit (lcScope (asgVal (bodyAt sSplit 0))) "weights":=by constructor<;>first|rfl|decide +kernel
theorem ok_split {f fN fS:Addr} {fd fdN fdS:FuncData} (B:BltP mg) (F:Fun K "split_up" "split_up" sSplit f fd) (DN:Dn K mg "numbered" sNumbered ["marks"] fN fdN) (GN:FnOk P w K mg base CX0 1 fN fdN ["marks"] (spNum K mKey))
  (DS:Dn K mg "sums_to_lots" sSums ["weights","lots"] fS fdS) (GS:FnOk P w K mg base CX0 1 fS fdS ["weights","lots"] (spSums K)):FnOk P w K mg base CX0 2 f fd ["web","lots"] (spSplit K):=by
 refine F.ok scSplit (fun vs H Q E h=>?_) (fun cdv A outer s H vs Q E hr h=>?_)
 ·obtain ⟨v,b,us,ls,M,rfl,_⟩:=h
  rfl
 ·obtain ⟨v,b,us,ls,M,rfl,⟨p,hu,r,rs,rfl,hp,hh,hR,lR,hrow⟩,hb,l1,l2,l3,l4,q⟩:=h
  refine ⟨_,pss_cons (ps_setLc (i:=2) scSplit.nd rfl (Or.inl rfl) rfl lcSplit rfl (pi_list (pe_ix ix_tup (pv 0) pe_int (fun _ _=>rfl))) (fun _ _ _=>pe_fn DS GS hr rfl (pa_cons (pv 3) (pa_cons (pv 1) pa_nil))))
   (pss_one (ps_ret (pe_fn DN GN hr rfl (pa_cons (pe_listZip3 rfl rfl B.zip rfl B.list (pa_cons (pv 1) (pa_cons (pe_ix ix_tup (pv 0) pe_int (fun _ _=>rfl)) (pa_cons (pv 2) pa_nil)))) pa_nil)))),?_⟩
  refine ⟨_,rfl,p,_,_,_,rfl,rfl,hp,rfl,r,rfl,⟨_,hR⟩,fun D hD=>?_⟩
  refine lc_list (K:=K) (xs:=rs.map V.ref) (fun i ys H'=>∃ ts:List Addr,ys=ts.map V.ref∧ts.length=i∧Same H H'∧H' D=some (.lst ys) ∧
   ∀ (j:Nat) (t:Addr) (ws:List Int),ts[j]? = some t→M[j]? = some ws→H' t=some (.tup ((sumsOf ws ls).map fun q=>V.int q.2))∧t≠D) ?_ ?_ ?_ ?_ ?_
  ·exact ⟨[],rfl,rfl,Same.upd hD,upd_same,fun j t ws e=>by simp at e⟩
  ·rintro i ys H' _ ⟨ts,rfl,lt,s1,eD,_⟩
   exact ⟨s1.seq hR,eD⟩
  ·rintro i x ys H' hx ⟨ts,rfl,lt,s1,eD,ht⟩
   obtain ⟨ra,hra,rfl⟩:=map_get hx
   have li:i < M.length:=by rw [←lR]; exact (List.getElem?_eq_some_iff.mp hra).1
   have hM:M[i]? = some (M[i]'li):=getElem?_eq_getElem li
   have lw:=l4 _ (mem_of_getElem? hM)
   refine ⟨_,rfl,_,rfl,ra,b,M[i]'li,ls,rfl,s1.seq (hrow i ra _ hra hM),s1.seq hb,by omega,by omega,fun t H3 s3 nt et=>?_⟩
   have eD3:=s3 _ _ eD
   have ntD:t≠D:=fun z=>by subst z; rw [eD] at nt; cases nt
   refine ⟨eD3,small1000 (by rw [length_map]; omega),ts++[t],by rw [map_append]; rfl,by rw [length_append,length_singleton,lt],fun b' o e=>?_,upd_same,?_⟩
   ·rw [upd_ne (ne_of_none e hD)]
    exact s3 _ _ (s1 _ _ e)
   ·intro j t' ws e1 e2
    rcases Nat.lt_or_ge j ts.length with lj | lj
    ·rw [getElem?_append_left lj] at e1
     obtain ⟨g1,g2⟩:=ht j t' ws e1 e2
     rw [upd_ne g2]
     exact ⟨s3 _ _ g1,g2⟩
    ·rw [getElem?_append_right lj] at e1
     obtain rfl:j=ts.length:=by
      have:=(List.getElem?_eq_some_iff.mp e1).1
      rw [length_singleton] at this
      omega
     rw [Nat.sub_self] at e1
     cases e1
     rw [lt,hM] at e2
     cases e2
     rw [upd_ne ntD]
     exact ⟨et,ntD⟩
  ·rintro ys H' ⟨ts,rfl,lt,s1,eD,ht⟩
   rw [length_map] at lt
   refine ⟨_,rfl,_,rfl,p,_,_,_,rfl,rfl,s1.seqT hp,rfl,_,rfl,b,hu,D,_,_,_,rfl,s1.seq hb,s1.seq hh,SqL.of eD,by rw [length_map,length_map,l1],by rw [length_map,length_map]; omega,fun S Ts H2 R3=>?_⟩
   have lts:ts.length=ls.length:=by rw [lt,lR,l2]
   have s2:Same H' H2:=fun b' o e=>(R3.oth b' (ne_of_none e R3.newS) fun m=>by rw [R3.newT b' m] at e; cases e).trans e
   have lr:=rows3_len (ls.map V.int) (us.map V.int) (ts.map V.ref) (by rw [length_map,length_map,l1]) (by rw [length_map,length_map,lts])
   have lm:=marksOf_len ls ls us M l1 l2
   refine ⟨S,Ts.map V.ref,marksOf ls ls us M,rfl,SqL.of R3.s,by rw [length_map,R3.len,lr,length_map,lm],by rw [lm]; exact l3,?_,fun p' H4 s4 n4 e4=>q p' H4 (s1.trans (s2.trans s4)) ((s1.trans s2).free n4) e4⟩
   intro j y k hy hk
   obtain ⟨t,et,rfl⟩:=map_get hy
   obtain ⟨l,u,ws,g1,g2,g3,rfl⟩:=marksOf_get ls ls us M j k hk
   have lj:j < ts.length:=by rw [lts]; exact (List.getElem?_eq_some_iff.mp g1).1
   have g4:ts[j]? = some (ts[j]'lj):=getElem?_eq_getElem lj
   refine ⟨t,rfl,ts[j]'lj,?_,?_⟩
   ·exact R3.row j t _ et (rows3_get _ _ _ j _ _ _ (by rw [getElem?_map,g1]; rfl) (by rw [getElem?_map,g2]; rfl) (by rw [getElem?_map,g4]; rfl))
   ·rw [s2 _ _ (ht j _ ws g4 g3).1]
    show _=some (HO.tup (((sumsOf ws ls).map (·.2)).map V.int))
    rw [map_map]
    rfl
  ·rintro σ H' Q1 Q2 hq ⟨v,e,v',e',a1,a2,a3,a4,a5,a6,a7,a8,a9,g⟩
   exact ⟨v,e,v',e',a1,a2,a3,a4,a5,a6,a7,a8,a9,fun t H3 s3 n3 e3=>hq _ _ (g t H3 s3 n3 e3)⟩
theorem mKey_same {H H':Hp} {y:V} {k:Mark} (s:Same H H') (h:mKey H y k):mKey H' y k:=by
 obtain ⟨a,e,b,h1,h2⟩:=h
 exact ⟨a,e,b,s _ _ h1,s _ _ h2⟩
theorem ok_numM {f:Addr} {fd:FuncData} (B:BltP mg) (F:Fun K "numbered" "numbered" sNumbered f fd):FnOk P w K mg base CX0 1 f fd ["marks"] (spNum K mKey) :=
 ok_num (P:=P) (w:=w) (base:=base) (key:=mKey) (obj:=mObj P w) (fun X e1 e2 e3=>by subst e1 e2; exact kd_mark (by omega)) mKey_same B F
end
section
theorem putI_keys (l:List (Int × Int)) (k v:Int):(putI l k v).map (·.1)=seenAdd (l.map (·.1)) k:=by
 unfold putI seenAdd
 by_cases m:k ∈ l.map (·.1)
 ·rw [if_pos m,if_pos (by
   obtain ⟨p,hp,e⟩:=mem_map.mp m
   exact any_eq_true.mpr ⟨p,hp,by simpa using e⟩),map_map]
  refine map_congr_left fun p _=>?_
  by_cases e:p.1=k
  ·simp [e]
  ·simp [e]
 ·rw [if_neg m,if_neg (fun h=>by
   obtain ⟨p,hp,e⟩:=any_eq_true.mp h
   exact m (mem_map.mpr ⟨p,hp,by simpa using e⟩)),map_append]
  rfl
theorem valI_cons (p:Int × Int) (l:List (Int × Int)) (j:Int):valI (p :: l) j=if p.1=j then p.2 else valI l j:=by
 by_cases e:p.1=j
 ·simp [valI,e]
 ·simp [valI,e]
theorem valI_map (k v j:Int):∀ l:List (Int × Int),k ∈ l.map (·.1)→valI (l.map fun p=>if p.1=k then (p.1,v) else p) j=if j=k then v else valI l j
 | [],h=>by simp at h
 | p :: l,h=>by
  rw [map_cons,valI_cons,valI_cons]
  by_cases e:p.1=k
  ·rw [if_pos e]
   by_cases e':p.1=j
   ·rw [if_pos (by exact e'),if_pos (e'.symm.trans e)]
   ·rw [if_neg (by exact e'),if_neg (fun q=>e' (e.trans q.symm)),if_neg e']
    by_cases m:k ∈ l.map (·.1)
    ·rw [valI_map k v j l m,if_neg (fun q=>e' (e.trans q.symm))]
    ·have:(l.map fun p=>if p.1=k then (p.1,v) else p)=l:=by
      conv=>rhs; rw [←List.map_id l]
      refine map_congr_left fun q hq=>?_
      rw [if_neg (fun z=>m (mem_map.mpr ⟨q,hq,z⟩))]
      rfl
     rw [this]
  ·rw [if_neg e]
   have m:k ∈ l.map (·.1):=by
    rw [map_cons,mem_cons] at h
    exact h.resolve_left fun q=>e q.symm
   rw [valI_map k v j l m]
   by_cases e':p.1=j
   ·rw [if_pos e',if_pos e',if_neg (fun q=>e (e'.trans q))]
   ·rw [if_neg e',if_neg e']
theorem valI_snoc (k v j:Int):∀ l:List (Int × Int),k ∉ l.map (·.1)→valI (l++[(k,v)]) j=if j=k then v else valI l j
 | [],_=>by
  rw [nil_append,valI_cons]
  by_cases e:j=k
  ·rw [if_pos e,if_pos e.symm]
  ·rw [if_neg e,if_neg (fun q=>e q.symm)]
 | p :: l,h=>by
  rw [map_cons,mem_cons,not_or] at h
  rw [List.cons_append,valI_cons,valI_cons,valI_snoc k v j l h.2]
  by_cases e':p.1=j
  ·rw [if_pos e',if_pos e',if_neg (fun q=>h.1 (q.symm.trans e'.symm))]
  ·rw [if_neg e',if_neg e']
theorem putI_val (l:List (Int × Int)) (k v j:Int):valI (putI l k v) j=if j=k then v else valI l j:=by
 unfold putI
 by_cases m:k ∈ l.map (·.1)
 ·rw [if_pos (by
   obtain ⟨p,hp,e⟩:=mem_map.mp m
   exact any_eq_true.mpr ⟨p,hp,by simpa using e⟩)]
  exact valI_map k v j l m
 ·rw [if_neg (fun h=>by
   obtain ⟨p,hp,e⟩:=any_eq_true.mp h
   exact m (mem_map.mpr ⟨p,hp,by simpa using e⟩))]
  exact valI_snoc k v j l m
def sumP (ps:List (Int × Int)) (l:Int):Int:=((ps.filter fun p=>decide (p.2=l)).map (·.1)).sum
theorem fold_keys:∀ (ps l:List (Int × Int)),(ps.foldl stepS l).map (·.1)=(ps.map (·.2)).foldl seenAdd (l.map (·.1))
 | [],_=>rfl
 | p :: ps,l=>by
  rw [foldl_cons,fold_keys ps,map_cons,foldl_cons]
  congr 1
  exact putI_keys _ _ _
theorem fold_val (j:Int):∀ (ps l:List (Int × Int)),valI (ps.foldl stepS l) j=valI l j+sumP ps j
 | [],l=>by simp [sumP]
 | p :: ps,l=>by
  rw [foldl_cons,fold_val j ps]
  show valI (putI l p.2 (valI l p.2+p.1)) j+_=_
  rw [putI_val]
  by_cases e:p.2=j
  ·rw [if_pos e.symm,sumP,sumP,filter_cons_of_pos (by simpa using e),map_cons,sum_cons,e]
   omega
  ·rw [if_neg (fun q=>e q.symm),sumP,sumP,filter_cons_of_neg (by simpa using e)]
theorem seen_nodup {κ:Type} [DecidableEq κ]:∀ (ks s:List κ),s.Nodup→(ks.foldl seenAdd s).Nodup
 | [],_,h=>h
 | k :: ks,s,h=>by
  rw [foldl_cons]
  refine seen_nodup ks _ ?_
  unfold seenAdd
  split
  ·exact h
  ·rename_i m
   rw [List.nodup_append]
   refine ⟨h,by simp,fun x hx y hy e=>?_⟩
   rw [mem_singleton] at hy
   exact m (hy ▸ e ▸ hx)
theorem seen_mem {κ:Type} [DecidableEq κ] {x:κ}:∀ (ks s:List κ),x ∈ ks.foldl seenAdd s↔x ∈ s ∨ x ∈ ks
 | [],s=>by simp
 | k :: ks,s=>by
  rw [foldl_cons,seen_mem ks,mem_cons]
  have:x ∈ seenAdd s k↔x ∈ s ∨ x=k:=by
   unfold seenAdd
   split
   ·rename_i m
    constructor
    ·exact .inl
    ·rintro (q | rfl)
     ·exact q
     ·exact m
   ·rw [mem_append,mem_singleton]
  rw [this,or_assoc]
theorem snd_of:∀ (l:List (Int × Int)),(l.map (·.1)).Nodup→l.map (·.2)=(l.map (·.1)).map (valI l)
 | [],_=>rfl
 | p :: l,h=>by
  rw [map_cons,List.nodup_cons] at h
  rw [map_cons,map_cons,map_cons,valI_cons,if_pos rfl,snd_of l h.2]
  congr 1
  refine map_congr_left fun k hk=>?_
  have n:¬ p.1=k:=fun q=>h.1 (by rw [q]; exact hk)
  rw [valI_cons,if_neg n]
theorem sums_iff {ws ws' ls:List Int} (h:ls.length=ws.length) (h':ls.length=ws'.length):(sumsOf ws ls).map (·.2)=(sumsOf ws' ls).map (·.2)↔∀ l ∈ ls,sumP (ws.zip ls) l=sumP (ws'.zip ls) l:=by
 have key:∀ {vs:List Int},ls.length=vs.length→(sumsOf vs ls).map (·.1)=ls.foldl seenAdd []:=by
  intro vs hv
  unfold sumsOf
  rw [fold_keys,List.map_snd_zip (by omega)]
  rfl
 have val:∀ (vs:List Int) (l:Int),valI (sumsOf vs ls) l=sumP (vs.zip ls) l:=by
  intro vs l
  unfold sumsOf
  rw [fold_val]
  show 0+_=_
  omega
 have nd:(ls.foldl seenAdd []).Nodup:=seen_nodup ls [] nodup_nil
 rw [snd_of _ (by rw [key h]; exact nd),snd_of _ (by rw [key h']; exact nd),key h,key h',map_inj_left]
 constructor
 ·intro q l hl
  rw [←val,←val]
  exact q l ((seen_mem ls []).mpr (.inr hl))
 ·intro q l hl
  rw [val,val]
  exact q l (((seen_mem ls []).mp hl).resolve_left (by simp))
theorem even_iff {us ls:List Int} {M:List (List Int)} (h1:us.length=ls.length) (h2:M.length=ls.length) (h3:∀ ws ∈ M,ws.length=ls.length) :
  numb (marksOf ls ls us M)=numb ls↔∀ (i j:Nat) (l u u':Int) (ws ws':List Int),ls[i]? = some l→ls[j]? = some l→us[i]? = some u→us[j]? = some u'→M[i]? = some ws→M[j]? = some ws'→u=u'∧∀ o ∈ ls,sumP (ws.zip ls) o=sumP (ws'.zip ls) o:=by
 have lm:=marksOf_len ls ls us M h1 h2
 have get:∀ {i:Nat} {l u:Int} {ws:List Int},ls[i]? = some l→us[i]? = some u→M[i]? = some ws→(marksOf ls ls us M)[i]? = some (markOf ls l u ws):=by
  intro i l u ws e1 e2 e3
  have lt:i < (marksOf ls ls us M).length:=by rw [lm]; exact (List.getElem?_eq_some_iff.mp e1).1
  obtain ⟨l',u',ws',g1,g2,g3,g4⟩:=marksOf_get ls ls us M i _ (getElem?_eq_getElem lt)
  rw [e1] at g1
  rw [e2] at g2
  rw [e3] at g3
  cases g1
  cases g2
  cases g3
  rw [getElem?_eq_getElem lt,g4]
 rw [numb_iff lm]
 constructor
 ·intro q i j l u u' ws ws' a1 a2 b1 b2 c1 c2
  have e:=(q i j _ _ l l (get a1 b1 c1) (get a2 b2 c2) a1 a2).mpr rfl
  unfold markOf at e
  injection e with e1 e2
  injection e2 with e2 e3
  exact ⟨e2,(sums_iff (h3 ws (mem_of_getElem? c1)).symm (h3 ws' (mem_of_getElem? c2)).symm).mp e3⟩
 ·intro q i j k k' l l' a1 a2 b1 b2
  obtain ⟨l1,u1,w1,g1,g2,g3,rfl⟩:=marksOf_get ls ls us M i k a1
  obtain ⟨l2,u2,w2,f1,f2,f3,rfl⟩:=marksOf_get ls ls us M j k' a2
  rw [b1] at g1
  rw [b2] at f1
  cases g1
  cases f1
  constructor
  ·intro e
   unfold markOf at e
   injection e
  ·rintro rfl
   obtain ⟨p1,p2⟩:=q i j l u1 u2 w1 w2 b1 b2 g2 f2 g3 f3
   unfold markOf
   rw [p1,(sums_iff (h3 w1 (mem_of_getElem? g3)).symm (h3 w2 (mem_of_getElem? f3)).symm).mpr p2]
end
section
def Pr (us ls:List Int) (M:List (List Int)) (i j:Nat):Prop:=∀ (l u u':Int) (ws ws':List Int),ls[i]? = some l→ls[j]? = some l→us[i]? = some u→us[j]? = some u'→M[i]? = some ws→M[j]? = some ws'→u=u'∧∀ o ∈ ls,sumP (ws.zip ls) o=sumP (ws'.zip ls) o
end
section
theorem sumP_cons (w p:Int) (ps:List (Int × Int)) (l:Int):sumP ((w,p) :: ps) l=(if p=l then w else 0)+sumP ps l:=by
 unfold sumP
 by_cases e:p=l
 ·rw [filter_cons_of_pos (by simpa using e),if_pos e]
  simp
 ·rw [filter_cons_of_neg (by simpa using e),if_neg e]
  simp
theorem sum_add {α:Type} (a b:α→Int):∀ D:List α,(D.map fun q=>a q+b q).sum=(D.map a).sum+(D.map b).sum
 | []=>rfl
 | x :: D=>by
  rw [map_cons,map_cons,map_cons,sum_cons,sum_cons,sum_cons,sum_add a b D]
  omega
theorem sum_one (p w:Int) (g:Int→Bool):∀ D:List Int,D.Nodup→((D.filter g).map fun q=>if p=q then w else 0).sum=if p ∈ D∧g p=true then w else 0
 | [],_=>by simp
 | x :: D,h=>by
  rw [List.nodup_cons] at h
  have ih:=sum_one p w g D h.2
  by_cases gx:g x=true
  ·rw [filter_cons_of_pos gx,map_cons,sum_cons,ih]
   by_cases e:p=x
   ·subst e
    rw [if_pos rfl,if_neg (fun z=>h.1 z.1),if_pos ⟨mem_cons_self,gx⟩]
    omega
   ·rw [if_neg e]
    by_cases m:p ∈ D∧g p=true
    ·rw [if_pos m,if_pos ⟨mem_cons_of_mem _ m.1,m.2⟩]; omega
    ·rw [if_neg m,if_neg (fun z=>m ⟨(mem_cons.mp z.1).resolve_left e,z.2⟩)]; omega
  ·rw [filter_cons_of_neg gx,ih]
   by_cases e:p=x
   ·subst e
    rw [if_neg (fun z=>h.1 z.1),if_neg (fun z=>gx z.2)]
   ·by_cases m:p ∈ D∧g p=true
    ·rw [if_pos m,if_pos ⟨mem_cons_of_mem _ m.1,m.2⟩]
    ·rw [if_neg m,if_neg (fun z=>m ⟨(mem_cons.mp z.1).resolve_left e,z.2⟩)]
theorem sum_lots (f:Int→Int) (o:Int) (D:List Int) (hD:D.Nodup):∀ (ws P:List Int),(∀ p ∈ P,p ∈ D)→sumP (ws.zip (P.map f)) o=((D.filter fun p=>decide (f p=o)).map fun p=>sumP (ws.zip P) p).sum
 | [],P,_=>by
  simp only [List.zip_nil_left,sumP,List.filter_nil,map_nil,List.sum_nil]
  induction (D.filter fun p=>decide (f p=o)) with
  | nil=>rfl
  | cons x l ih=>rw [map_cons,sum_cons,←ih]; rfl
 | _ :: _,[],_=>by
  simp only [map_nil,List.zip_nil_right,sumP,List.filter_nil,map_nil,List.sum_nil]
  induction (D.filter fun p=>decide (f p=o)) with
  | nil=>rfl
  | cons x l ih=>rw [map_cons,sum_cons,←ih]; rfl
 | w :: ws,p :: P,h=>by
  rw [map_cons,zip_cons_cons,zip_cons_cons,sumP_cons,sum_lots f o D hD ws P fun q hq=>h q (mem_cons_of_mem _ hq)]
  have e:(fun q=>sumP ((w,p) :: ws.zip P) q)=fun q=>(if p=q then w else 0)+sumP (ws.zip P) q:=by
   funext q
   exact sumP_cons _ _ _ _
  rw [e,sum_add,sum_one p w _ D hD]
  congr 1
  have pm:=h p mem_cons_self
  by_cases e:f p=o
  ·rw [if_pos e,if_pos ⟨pm,by simpa using e⟩]
  ·rw [if_neg e,if_neg (fun z=>e (by simpa using z.2))]
theorem finer_map {P L:List Int} (l:P.length=L.length) (f:Finer P L):L=P.map fun p=>(L[P.idxOf p]?).getD 0:=by
 apply ext_getElem?
 intro i
 rw [getElem?_map]
 by_cases hi:i < P.length
 ·obtain ⟨p,hp⟩:=get_lt hi
  obtain ⟨x,hx⟩:=get_lt (l:=L) (i:=i) (by omega)
  have hm:p ∈ P:=mem_of_getElem? hp
  have lt:=idxOf_lt_length_iff.mpr hm
  have g1:P[P.idxOf p]? = some p:=by rw [getElem?_eq_getElem lt,getElem_idxOf lt]
  obtain ⟨y,hy⟩:=get_lt (l:=L) (i:=P.idxOf p) (by omega)
  rw [hp,hx,Option.map_some,hy,Option.getD_some,f i (P.idxOf p) p x y hp g1 hx hy]
 ·rw [getElem?_eq_none (by omega),getElem?_eq_none (by omega)]
  rfl
theorem sums_finer {P L ws ws':List Int} (l:P.length=L.length) (f:Finer P L) (h:∀ p ∈ P,sumP (ws.zip P) p=sumP (ws'.zip P) p) (o:Int):sumP (ws.zip L) o=sumP (ws'.zip L) o:=by
 have nd:(P.foldl seenAdd []).Nodup:=seen_nodup P [] nodup_nil
 have mem:∀ p ∈ P,p ∈ P.foldl seenAdd []:=fun p hp=>(seen_mem P []).mpr (.inr hp)
 rw [finer_map l f,sum_lots _ o _ nd ws P mem,sum_lots _ o _ nd ws' P mem]
 congr 1
 refine map_congr_left fun p hp=>h p ?_
 exact ((seen_mem P []).mp (List.mem_filter.mp hp).1).resolve_left (by simp)
def stepL (us:List Int) (M:List (List Int)) (ls:List Int):List Int:=nI (numb (marksOf ls ls us M))
theorem marks_at {us ls:List Int} {M:List (List Int)} (h1:us.length=ls.length) (h2:M.length=ls.length) {i:Nat} {l u:Int} {ws:List Int} (e1:ls[i]? = some l) (e2:us[i]? = some u) (e3:M[i]? = some ws):(marksOf ls ls us M)[i]? = some (markOf ls l u ws):=by
 have lm:=marksOf_len ls ls us M h1 h2
 obtain ⟨k,hk⟩:=get_lt (l:=marksOf ls ls us M) (i:=i) (by rw [lm]; exact lt_get e1)
 obtain ⟨l',u',ws',g1,g2,g3,g4⟩:=marksOf_get ls ls us M i k hk
 rw [e1] at g1
 rw [e2] at g2
 rw [e3] at g3
 cases g1
 cases g2
 cases g3
 rw [hk,g4]
theorem step_len {us ls:List Int} {M:List (List Int)} (h1:us.length=ls.length) (h2:M.length=ls.length):(stepL us M ls).length=ls.length:=by
 rw [stepL,nI,length_map,numb_len,marksOf_len ls ls us M h1 h2]
theorem step_get {us ls:List Int} {M:List (List Int)} (h1:us.length=ls.length) (h2:M.length=ls.length) (h3:∀ ws ∈ M,ws.length=ls.length) {i j:Nat} {l l' u u' a b:Int} {ws ws':List Int}
  (e1:ls[i]? = some l) (e2:us[i]? = some u) (e3:M[i]? = some ws) (f1:ls[j]? = some l') (f2:us[j]? = some u') (f3:M[j]? = some ws') (g1:(stepL us M ls)[i]? = some a) (g2:(stepL us M ls)[j]? = some b) :
  a=b↔l=l'∧u=u'∧∀ o ∈ ls,sumP (ws.zip ls) o=sumP (ws'.zip ls) o:=by
 rw [stepL,nI_get] at g1 g2
 obtain ⟨x,hx,rfl⟩:=Option.map_eq_some_iff.mp g1
 obtain ⟨y,hy,rfl⟩:=Option.map_eq_some_iff.mp g2
 have:=numb_get (marks_at h1 h2 e1 e2 e3) (marks_at h1 h2 f1 f2 f3) hx hy
 rw [Int.ofNat_inj,this,←sums_iff (h3 ws (mem_of_getElem? e3)).symm (h3 ws' (mem_of_getElem? f3)).symm]
 unfold markOf
 constructor
 ·intro q
  injection q with q1 q2
  injection q2 with q2 q3
  exact ⟨q1,q2,q3⟩
 ·rintro ⟨rfl,rfl,q⟩
  rw [q]
theorem step_finer {us ls P:List Int} {M:List (List Int)} (h1:us.length=ls.length) (h2:M.length=ls.length) (h3:∀ ws ∈ M,ws.length=ls.length) (lP:P.length=ls.length) (ev:∀ i j,Pr us P M i j) (f:Finer P ls):Finer P (stepL us M ls):=by
 intro i j p a b e1 e2 g1 g2
 obtain ⟨l,hl⟩:=get_lt (l:=ls) (i:=i) (by rw [←lP]; exact lt_get e1)
 obtain ⟨l',hl'⟩:=get_lt (l:=ls) (i:=j) (by rw [←lP]; exact lt_get e2)
 obtain ⟨u,hu⟩:=get_lt (l:=us) (i:=i) (by rw [h1]; exact lt_get hl)
 obtain ⟨u',hu'⟩:=get_lt (l:=us) (i:=j) (by rw [h1]; exact lt_get hl')
 obtain ⟨ws,hw⟩:=get_lt (l:=M) (i:=i) (by rw [h2]; exact lt_get hl)
 obtain ⟨ws',hw'⟩:=get_lt (l:=M) (i:=j) (by rw [h2]; exact lt_get hl')
 obtain ⟨q1,q2⟩:=ev i j p u u' ws ws' e1 e2 hu hu' hw hw'
 exact (step_get h1 h2 h3 hl hu hw hl' hu' hw' g1 g2).mpr ⟨f i j p l l' e1 e2 hl hl',q1,fun o _=>sums_finer lP f q2 o⟩
theorem step_within {us ls:List Int} {M:List (List Int)} (h1:us.length=ls.length) (h2:M.length=ls.length) (h3:∀ ws ∈ M,ws.length=ls.length):Finer (stepL us M ls) ls:=by
 intro i j a l l' g1 g2 hl hl'
 obtain ⟨u,hu⟩:=get_lt (l:=us) (i:=i) (by rw [h1]; exact lt_get hl)
 obtain ⟨u',hu'⟩:=get_lt (l:=us) (i:=j) (by rw [h1]; exact lt_get hl')
 obtain ⟨ws,hw⟩:=get_lt (l:=M) (i:=i) (by rw [h2]; exact lt_get hl)
 obtain ⟨ws',hw'⟩:=get_lt (l:=M) (i:=j) (by rw [h2]; exact lt_get hl')
 exact ((step_get h1 h2 h3 hl hu hw hl' hu' hw' g1 g2).mp rfl).1
theorem step_even {us ls:List Int} {M:List (List Int)} (h1:us.length=ls.length) (h2:M.length=ls.length) (h3:∀ ws ∈ M,ws.length=ls.length) (nm:Norm ls) (e:stepL us M ls=ls):∀ i j,Pr us ls M i j:=by
 have q:numb (marksOf ls ls us M)=numb ls:=nI_inj (by rw [show nI (numb (marksOf ls ls us M))=ls from e]; exact nm)
 exact (even_iff h1 h2 h3).mp q
structure Coarse (us:List Int) (M:List (List Int)) (ls:List Int):Prop where
 len:us.length=ls.length
 norm:Norm ls
 even:∀ i j,Pr us ls M i j
 top:∀ P:List Int,P.length=ls.length→(∀ i j,Pr us P M i j)→Finer P ls
theorem Coarse.uniq {us:List Int} {M:List (List Int)} {a b:List Int} (A:Coarse us M a) (B:Coarse us M b):a=b:=by
 have l:a.length=b.length:=A.len.symm.trans B.len
 exact norm_eq A.norm B.norm l (B.top a l A.even) (A.top b l.symm B.even)
end
section
variable {P:Program} {w:World} {K:Frag} {mg:Str→Option Value} {base:Heap}
def spCoarsest (K:Frag):Sp:=fun vs H Q _=>∃ (v:V) (us:List Int) (M:List (List Int)),vs=[v]∧WbAt K H v us M∧M.length=us.length∧us.length≤100∧(∀ ws ∈ M,ws.length=us.length) ∧
 ∀ p ls H',Same H H'→H p=none→H' p=some (.lst (ls.map V.int))→Coarse us M ls→Q (.ref p) H'
abbrev nCoarsest:List Str:=["web","lots","finer"]
theorem scCoarsest:FnScope nCoarsest ["web"] (defScope sCoarsest):=by constructor<;>first|rfl|decide +kernel
theorem ok_coarsest {f fS:Addr} {fd fdS:FuncData} (B:BltP mg) (F:Fun K "coarsest_parting" "coarsest_parting" sCoarsest f fd) (DS:Dn K mg "split_up" sSplit ["web","lots"] fS fdS) (GS:FnOk P w K mg base CX0 2 fS fdS ["web","lots"] (spSplit K)):FnOk P w K mg base CX0 3 f fd ["web"] (spCoarsest K):=by
 refine F.ok scCoarsest (fun vs H Q E h=>?_) (fun cdv A outer s H vs Q E hr h=>?_)
 ·obtain ⟨v,us,M,rfl,_⟩:=h
  rfl
 ·obtain ⟨v,us,M,rfl,hW,lM,lu,l3,q⟩:=h
  have hW0:=hW
  obtain ⟨p,hA,rA,rs,rfl,hp,hh,hR,lR,hrow⟩:=hW
  refine ⟨_,pss_cons (ps_set (i:=1) scCoarsest.nd rfl (Or.inl rfl) (pe_op op_rep (pe_lst (pa_cons pe_int pa_nil)) (pe_callB call_len_seq (by rfl) B.len boot_len (pa_cons (pe_ix ix_tup (pv 0) pe_int (fun _ _=>rfl)) pa_nil))))
   (pss_cons (ps_set (i:=2) scCoarsest.nd rfl (Or.inl rfl) (pe_fn DS GS hr rfl (pa_cons (pv 0) (pa_cons (pv 1) pa_nil))))
   (pss_cons (ps_while PassesOwn.never (pt_cmpR (op_neD hr.units) (pv 2) (pv 1) (nomark _))
    (pss_cons (ps_set (i:=1) scCoarsest.nd rfl (Or.inl rfl) (pv 2))
    (pss_one (ps_set (i:=2) scCoarsest.nd rfl (Or.inl rfl) (pe_fn DS GS hr rfl (pa_cons (pv 0) (pa_cons (pv 1) pa_nil)))))))
   (pss_one (ps_ret (pv 1))))),?_⟩
  refine ⟨sz1,fun l1 hl1=>?_⟩
  have s0:Same H (upd H l1 (.lst [.int 0])):=Same.upd hl1
  have e0:upd H l1 (.lst [.int 0]) l1=some (.lst [.int 0]):=upd_same
  generalize upd H l1 (.lst [.int 0])=H0 at s0 e0 ⊢
  refine ⟨_,rfl,p,_,_,_,rfl,rfl,s0.seqT hp,rfl,hA,_,rfl,.inl (s0.seq hh),?_⟩
  rw [length_map]
  refine ⟨l1,(us.length:Int),_,rfl,rfl,e0,by omega,by omega,Nat.le_of_lt (small1000 (by show 1 * (us.length:Int).toNat≤1000; omega)),fun L hL=>?_⟩
  rw [Int.toNat_natCast,zeros_map]
  have s1:Same H (upd H0 L (.lst ((List.replicate us.length (0:Int)).map V.int))):=s0.trans (Same.upd hL)
  have e1:upd H0 L (.lst ((List.replicate us.length (0:Int)).map V.int)) L=some (.lst ((List.replicate us.length (0:Int)).map V.int)):=upd_same
  generalize upd H0 L (.lst ((List.replicate us.length (0:Int)).map V.int))=H1 at s1 e1 ⊢
  have nL:H L=none:=s0.free hL
  have l0:(List.replicate us.length (0:Int)).length=us.length:=length_replicate
  refine ⟨_,rfl,_,rfl,.ref p,L,us,_,M,rfl,hW0.same s1,SqL.of e1,by rw [l0],by rw [l0,lM],by rw [l0]; omega,fun ws hws=>by rw [l3 ws hws,l0],fun F H2 s2 n2 e2=>?_⟩
  rw [nI_V] at e2
  refine ⟨fun m σ H'=>∃ (L F:Addr) (ls:List Int),σ=[some (.ref p),some (.ref L),some (.ref F)]∧Same H H'∧H L=none∧H F=none∧H' L=some (.lst (ls.map V.int))∧H' F=some (.lst ((stepL us M ls).map V.int))∧ls.length=us.length∧Norm ls ∧
   (∀ P:List Int,P.length=us.length→(∀ i j,Pr us P M i j)→Finer P ls)∧m=shar us.length ls,⟨_,L,F,_,rfl,s1.trans s2,nL,s1.free n2,s2 _ _ e1,e2,l0,norm_zeros _,fun P _ _=>finer_zeros,rfl⟩,?_⟩
  rintro m σ H3 ⟨L',F',ls,rfl,s3,nL',nF',eL,eF,ll,nm,tp,rfl⟩
  have h1:us.length=ls.length:=ll.symm
  have h2:M.length=ls.length:=by omega
  have h3:∀ ws ∈ M,ws.length=ls.length:=fun ws hws=>by rw [l3 ws hws,ll]
  refine ⟨_,rfl,_,rfl,_,_,daI (K:=K) (ok:=any) trivial (SqL.of eF),daI (K:=K) (ok:=any) trivial (SqL.of eL),⟨(lay_dI _).1,(lay_dI _).1,Nat.le_trans (lay_dI _).2 (by decide)⟩,_,rfl,?_⟩
  rw [eqv_dI]
  by_cases e:stepL us M ls=ls
  ·refine iteNS e ?_
   refine ⟨_,rfl,q L' ls H3 s3 nL' eL ⟨h1,nm,step_even h1 h2 h3 nm e,fun P lP ev=>tp P (by omega) ev⟩⟩
  ·refine iteNP e ?_
   have ls1:(stepL us M ls).length=us.length:=by rw [step_len h1 h2,ll]
   refine ⟨_,fun σ' H' z=>z,?_⟩
   refine ⟨_,rfl,_,rfl,_,rfl,.ref p,F',us,_,M,rfl,hW0.same s3,SqL.of eF,by rw [ls1],by rw [ls1,lM],by rw [ls1]; omega,fun ws hws=>by rw [l3 ws hws,ls1],fun F2 H4 s4 n4 e4=>?_⟩
   rw [nI_V] at e4
   refine ⟨_,shar_lt ls1 ll (norm_numb _) nm (step_within h1 h2 h3) e,F',F2,_,rfl,s3.trans s4,nF',s3.free n4,s4 _ _ eF,e4,ls1,norm_numb _,fun P lP ev=>step_finer h1 h2 h3 (by omega) ev (tp P lP ev),rfl⟩
def rI (k:Nat):List Int:=(List.range k).map fun (i:Nat)=>(i:Int)
theorem rI_len (k:Nat):(rI k).length=k:=by unfold rI; rw [length_map,length_range]
structure WR (H:Hp) (p:Addr) (hs:List Int) (M:List (List Int)):Prop where
 ex:∃ hA rA rs,H p=some (.tup [.ref hA,.ref rA])∧H hA=some (.lst (hs.map V.int))∧H rA=some (.lst (rs.map V.ref))∧RowsAt H rs M
theorem WR.mono {H H':Hp} {p:Addr} {hs:List Int} {M:List (List Int)} (W:WR H p hs M) (e:Same H H'):WR H' p hs M:=by
 obtain ⟨hA,rA,rs,h1,h2,h3,R⟩:=W.ex
 exact ⟨hA,rA,rs,e _ _ h1,e _ _ h2,e _ _ h3,R.keep fun r _ o z=>e r o z⟩
def renH (hs:List Int) (os:List Int):List Int:=os.map fun o=>hs.getD o.toNat 0
def renM (M:List (List Int)) (os:List Int):List (List Int):=os.map fun u=>renH (M.getD u.toNat []) os
theorem at_int {xs:List Int} {o:Int} (h0:0≤o) (h1:o < (xs.length:Int)):atI (xs.map V.int) o=some (.int (xs.getD o.toNat 0)):=by
 obtain ⟨j,rfl⟩:=Int.eq_ofNat_of_zero_le h0
 have hj:j < xs.length:=by omega
 refine atI_nat ?_
 rw [getElem?_map,getElem?_eq_getElem hj]
 show some (V.int xs[j])=some (V.int (xs.getD (Int.toNat (j:Int)) 0))
 rw [Int.toNat_natCast,getD_eq_getElem?_getD,getElem?_eq_getElem hj]
 rfl
theorem rI_mem {k:Nat} {o:Int} (h:o ∈ rI k):0≤o∧o < (k:Int):=by
 unfold rI at h
 obtain ⟨i,hi,rfl⟩:=mem_map.mp h
 have:=mem_range.mp hi
 omega
def ordN (ds:List Int) (i:Nat) (os:List Int):List Int:=os.take ((ds.getD i 0 % ((i:Int)+1)).toNat)++(i:Int) :: os.drop ((ds.getD i 0 % ((i:Int)+1)).toNat)
def ordS (ds:List Int):Nat→List Int
 | 0=>[]
 | i+1=>ordN ds i (ordS ds i)
def ordF (c:Int) (n:Nat) (fr:Bool):List Int:=ordS (drwS c 5040 fr n).1 n
def spOrder:Sp:=fun vs H Q _=>∃ (c:Int) (n:Nat) (fr:Bool),vs=[.int c,.int (n:Int),.bl fr]∧n≤8∧∀ (p:Addr) (os:List Int) (H':Hp),Same H H'→H p=none→H' p=some (.lst (os.map V.int))→os.Perm (rI n)→os=ordF c n fr→Q (.ref p) H'
abbrev nOrder:List Str:=["_law_cell","_law_many","_law_free","_law_draws_here","_law_found","_law_k"]
abbrev aOrder:List Str:=["_law_cell","_law_many","_law_free"]
theorem scOrder:FnScope nOrder aOrder (defScope sOrder):=by constructor<;>first|rfl|decide +kernel
theorem rI_succ (i:Nat):rI (i+1)=rI i++[(i:Int)]:=by unfold rI; rw [range_succ,map_append]; rfl
theorem ok_order {f fD:Addr} {fd fdD:FuncData} (B:BltL mg) (F:Fun K "_law_order" "_law_order" sOrder f fd) (DD:Dn K mg "_law_draws" sDraws ["_law_cell","_law_many","_law_base","_law_free"] fD fdD) (GD:FnOk P w K mg base CX0 1 fD fdD ["_law_cell","_law_many","_law_base","_law_free"] spDraws):FnOk P w K mg base CX0 2 f fd aOrder spOrder:=by
 refine F.ok scOrder (fun vs H Q E h=>?_) (fun cdv A outer s H vs Q E hr h=>?_)
 ·obtain ⟨c,n,fr,rfl,_⟩:=h
  rfl
 ·obtain ⟨c,n,fr,rfl,hn,q⟩:=h
  refine ⟨_,pss_cons (ps_set (i:=3) scOrder.nd rfl (Or.inl rfl) (pe_fn DD GD hr rfl (pa_cons (pv 0) (pa_cons (pv 1) (pa_cons pe_int (pa_cons (pv 2) pa_nil))))))
   (pss_cons (ps_set (i:=4) scOrder.nd rfl (Or.inl rfl) (pe_lst pa_nil))
   (pss_cons (ps_for PassesOwn.never rfl (pi_range1 rfl B.range (pa_cons (pv 1) pa_nil)) (pg_name (i:=5) scOrder.nd rfl (Or.inl rfl))
    (pss_one (ps_expr (pe_bm plainAttrs_list slot_list_insert type_list_insert mt_insert (pv 4) (pa_cons (pe_op op_mod (pe_ix ix_list (pv 3) (pv 5) (fun _ _=>rfl)) (pe_op op_add (pv 5) pe_int)) (pa_cons (pv 5) pa_nil))))))
   (pss_one (ps_ret (pv 4))))),?_⟩
  refine ⟨_,rfl,_,rfl,_,rfl,c,n,5040,fr,rfl,by omega,by decide,.inl (by decide),fun d ds H1 hd eds s1 nd ed=>?_⟩
  obtain ⟨ld,bd⟩:=hd
  refine ⟨Nat.zero_le _,fun R hR=>?_⟩
  have nR:H R=none:=s1.free hR
  refine ⟨_,rfl,(n:Int),rfl,by omega,by omega,for_range (n:=n) (fun i σ H'=>∃ (o5:Option V) (os:List Int),σ=[some (.int c),some (.int (n:Int)),some (.bl fr),some (.ref d),some (.ref R),o5]∧Same H1 H'∧H' R=some (.lst (os.map V.int))∧os.Perm (rI i)∧os=ordS ds i) ⟨none,[],rfl,Same.upd hR,upd_same,List.Perm.refl _,rfl⟩ ?_ ?_⟩
  ·rintro i σ H2 hi ⟨o5,os,rfl,s2,eR,pm,eos⟩
   have li:i < ds.length:=by omega
   have hat:atI (ds.map V.int) (0+(i:Nat):Int)=some (.int (ds[i]'li)):=by rw [Int.zero_add]; exact atI_nat (by rw [getElem?_map,getElem?_eq_getElem li]; rfl)
   have lo:os.length=i:=by rw [pm.length_eq,rI_len]
   have exi:ds.getD i 0=ds[i]'li:=by rw [getD_eq_getElem?_getD,getElem?_eq_getElem li]; rfl
   generalize ds[i]'li=x at hat exi
   obtain ⟨k,ek⟩:=Int.eq_ofNat_of_zero_le (Int.emod_nonneg x (by omega:(0+(i:Nat)+1:Int)≠0))
   have hk:k≤i:=by
    have:=Int.emod_lt_of_pos x (by omega:(0:Int) < (0+(i:Nat)+1:Int))
    omega
   refine ⟨_,rfl,.inl ⟨rfl,_,SqL.of eR⟩,_,rfl,_,rfl,d,_,_,_,rfl,rfl,SqL.of (s2 _ _ ed),hat,_,rfl,_,_,rfl,rfl,_,_,rfl,rfl,(by show (0:Int) < 0+(i:Nat)+1; omega),_,rfl,?_⟩
   refine ⟨R,_,k,.int (0+(i:Nat):Int),rfl,?_,eR,by rw [length_map]; omega,small1000 (by rw [length_map]; omega),?_⟩
   ·show [V.int (x % (0+(i:Nat)+1)),V.int _]=_
    rw [ek]
   ·refine ⟨_,os.take k++(i:Int) :: os.drop k,rfl,fun b o e=>by rw [upd_ne (ne_of_none e hR)]; exact s2 _ _ e,?_,?_,?_⟩
    ·rw [upd_same,map_append,map_cons,List.map_take,List.map_drop,Int.zero_add]
    ·rw [rI_succ]
     refine List.perm_middle.trans ?_
     rw [take_append_drop]
     exact (List.Perm.cons _ pm).trans (List.perm_append_singleton _ _).symm
    ·show _=ordN ds i (ordS ds i)
     unfold ordN
     have ek':(x % ((i:Int)+1)).toNat=k:=by
      rw [show ((i:Int)+1)=(0+(i:Nat)+1:Int) by omega,ek]
      rfl
     rw [←eos,exi,ek']
  ·rintro σ H2 ⟨o5,os,rfl,s2,eR,pm,eos⟩
   exact ⟨_,rfl,q R os H2 (s1.trans s2) nR eR pm (by rw [eos,eds]; rfl)⟩
end
section
theorem rI_nodup (n:Nat):(rI n).Nodup:=by
 unfold rI
 rw [List.nodup_iff_pairwise_ne,List.pairwise_map]
 exact List.Pairwise.imp (fun h=>by intro z; have:=Int.ofNat.inj z; omega) List.pairwise_lt_range
theorem rI_get {n k:Nat} (h:k < n):(rI n)[k]? = some (k:Int):=by
 unfold rI
 rw [getElem?_map,getElem?_range h]
 rfl
theorem map_rI {α:Type} (xs:List α) (d:α):(rI xs.length).map (fun o=>xs.getD o.toNat d)=xs:=by
 apply ext_getElem?
 intro i
 rw [getElem?_map]
 by_cases hi:i < xs.length
 ·rw [rI_get hi,Option.map_some,Int.toNat_natCast,getD_eq_getElem?_getD,getElem?_eq_getElem hi]
  rfl
 ·rw [getElem?_eq_none (by rw [rI_len]; omega),getElem?_eq_none (by omega)]
  rfl
end
section
variable {n:Nat} {os:List Int} (hp:os.Perm (rI n))
theorem ren_len (xs os:List Int):(renH xs os).length=os.length:=by unfold renH; rw [length_map]
theorem renM_at {M:List (List Int)} {i a:Nat} (e:os[i]? = some (a:Int)) {W:List Int} (hW:M[a]? = some W):(renM M os)[i]? = some (renH W os):=by
 unfold renM
 rw [getElem?_map,e,Option.map_some,Int.toNat_natCast,getD_eq_getElem?_getD,hW]
 rfl
include hp
theorem os_at {i:Nat} {o:Int} (e:os[i]? = some o):∃ a:Nat,o=(a:Int)∧a < n:=by
 have:=rI_mem (hp.mem_iff.mp (mem_of_getElem? e))
 obtain ⟨a,rfl⟩:=Int.eq_ofNat_of_zero_le this.1
 exact ⟨a,rfl,by omega⟩
theorem os_len:os.length=n:=by rw [hp.length_eq,rI_len]
theorem ren_perm {xs:List Int} (h:xs.length=n):(renH xs os).Perm xs:=by
 subst h
 have:=hp.map fun o=>xs.getD o.toNat 0
 rw [map_rI] at this
 exact this
end
section
variable {P:Program} {w:World} {K:Frag} {mg:Str→Option Value} {base:Heap}
theorem rows_some {H:Hp} {rs:List Addr} {M:List (List Int)} (R:RowsAt H rs M) {r:Addr} (h:r ∈ rs):∃ o,H r=some o:=by
 obtain ⟨j,hj,e⟩:=List.getElem_of_mem h
 obtain ⟨r',x',h1,h2,h3⟩:=R.get hj
 have:rs[j]? = some r:=by rw [getElem?_eq_getElem hj,e]
 rw [h1] at this
 cases this
 exact ⟨_,h3⟩
theorem rows_out {H:Hp} {rs:List Addr} {M:List (List Int)} (R:RowsAt H rs M) {a:Addr} (h:H a=none):a ∉ rs:=fun hm=>by
 obtain ⟨o,e⟩:=rows_some R hm
 rw [h] at e
 cases e
theorem lc_rows {a:Addr} {xs:List V} {te:TE} {Q:Hp→Prop} {σ:L2.St} {H1:Hp} {D:Addr} (M:List (List Int)) (hlen:M.length=xs.length) (hm:xs.length≤900) (hD:H1 D=none) (hxs:SqL K H1 a xs)
  (hs:∀ (i:Nat) (x:V) (row:List Int) (H':Hp),xs[i]? = some x→M[i]? = some row→Same H1 H'→te (σ++[some x]) H' fun v H3=>∃ r,v=.ref r∧Same H' H3∧H' r=none∧H3 r=some (.lst (row.map V.int)))
  (hd:∀ rs H',Same H1 H'→H' D=some (.lst (rs.map V.ref))→RowsAt H' rs M→(∀ r ∈ rs,H1 r=none∧r≠D)→Q H')
  (mono:∀ σ H Q Q',(∀ v H1,Q v H1→Q' v H1)→te σ H Q→te σ H Q') :
  ∃ W:Nat→Nat→List V→Hp→Prop,(∃ m,W 0 m [] (upd H1 D (.lst []))) ∧
   ∀ i m ys H',W i m ys H'→H' D=some (.lst ys)∧(((Itl K a).stop i H'∧Q H') ∨ ((Itl K a).go i H'∧∀ z H2,(Itl K a).yld i H' z H2→te (σ++[some z]) H2 fun v H3=>H3 D=some (.lst ys)∧ys.length < sizeLine∧∃ m',m' < m∧W (i+1) m' (ys++[v]) (upd H3 D (.lst (ys++[v]))))):=by
 refine lc_list (xs:=xs) (fun i ys H'=>∃ rs':List Addr,ys=rs'.map V.ref∧rs'.length=i∧Same H1 H'∧H' D=some (.lst ys)∧RowsAt H' rs' (M.take i)∧∀ r ∈ rs',H1 r=none∧r≠D) ⟨[],rfl,rfl,Same.upd hD,upd_same,⟨rfl,(fun i r x h _=>by cases h),nodup_nil⟩,(fun r hr=>by cases hr)⟩ (fun i ys H' _ ⟨_,_,_,sm,eD,_⟩=>⟨Same.sq sm hxs,eD⟩) ?_ ?_ mono
 ·rintro i x ys H4 hx ⟨rs',rfl,l4,s4,eD,R4,o4⟩
  have hi:i < M.length:=by rw [hlen]; exact (List.getElem?_eq_some_iff.mp hx).1
  have hrow:M[i]? = some M[i]:=getElem?_eq_getElem hi
  refine mono _ _ _ _ ?_ (hs i x M[i] H4 hx hrow s4)
  rintro v H5 ⟨r,rfl,s5,hr,er⟩
  have nDr:r≠D:=(ne_of_none eD hr).symm
  have nR:=rows_out R4 hr
  have R5:RowsAt H5 (rs'++[r]) (M.take i++[M[i]]):=R4.snoc (fun r' _ o' z=>s5 r' o' z) er nR
  refine ⟨s5 _ _ eD,small1000 (by rw [length_map]; omega),rs'++[r],by rw [map_append]; rfl,by rw [length_append,l4]; rfl,fun b u e=>?_,upd_same,?_,?_⟩
  ·have:b≠D:=fun z=>by subst z; rw [hD] at e; cases e
   rw [upd_ne this]
   exact s5 _ _ (s4 _ _ e)
  ·rw [take_snoc hrow]
   refine R5.keep fun r' hr' o' e=>?_
   have:r'≠D:=by
    rcases mem_append.mp hr' with z | z
    ·exact (o4 r' z).2
    ·rw [mem_singleton.mp z]; exact nDr
   rw [upd_ne this]
   exact e
  ·intro r' hr'
   rcases mem_append.mp hr' with z | z
   ·exact o4 r' z
   ·rw [mem_singleton.mp z]
    exact ⟨s4.free hr,nDr⟩
 ·rintro ys H4 ⟨rs',rfl,l4,s4,eD,R4,o4⟩
  rw [←hlen,take_length] at R4
  exact hd rs' H4 s4 eD R4 o4
def rLO (K:Frag):List V→Hp→VK→Prop:=fun xs H Q=>∃ p ys,xs=[.ref p]∧(SqL K H p ys ∨ SqT K H p ys)∧∀ l,H l=none→Q (.ref l) (upd H l (.lst ys))
theorem call_list_ofK {X:Cx} (h:X.K=K:=by rfl):CallR X (.type "list") (rLO K):=by subst h; exact call_list_of
def dW (hs:List Int) (M:List (List Int)):PyData:=.tuple [dI hs,.list (M.map dI)]
theorem lay_rows:∀ M:List (List Int),PyData.canLayAll0 (M.map dI)=true∧PyData.depthAll (M.map dI)≤1
 | []=>⟨rfl,Nat.zero_le _⟩
 | x :: M=>by
  obtain ⟨h1,h2⟩:=lay_rows M
  obtain ⟨a1,a2⟩:=lay_dI x
  rw [map_cons]
  simp only [PyData.canLayAll0,PyData.depthAll,h1,a1,Bool.and_self,true_and]
  omega
theorem lay_dW (hs:List Int) (M:List (List Int)):(dW hs M).canLay0=true∧(dW hs M).depth≤3:=by
 obtain ⟨h1,h2⟩:=lay_rows M
 obtain ⟨a1,a2⟩:=lay_dI hs
 unfold dW
 simp only [PyData.canLay0,PyData.canLayAll0,PyData.depth,PyData.depthAll,h1,a1,Bool.and_self,true_and]
 omega
theorem das_rows {H:Hp}:∀ {rs:List Addr} {M:List (List Int)},rs.length=M.length→(∀ (i:Nat) (r:Addr) (x:List Int),rs[i]? = some r→M[i]? = some x→H r=some (.lst (x.map V.int)))→DAs K any H (rs.map V.ref) (M.map dI)
 | [],[],_,_=>.nil
 | r :: rs,x :: M,l,h=>.cons (daI trivial (SqL.of (h 0 r x rfl rfl))) (das_rows (by simpa using l) fun i r' x' h1 h2=>h (i+1) r' x' h1 h2)
structure SqN (n:Nat) (M:List (List Int)):Prop where
 len:M.length=n
 row:∀ (i:Nat) (x:List Int),M[i]? = some x→x.length=n∧∀ z ∈ x,z.natAbs≤2 * wMax
theorem Sq.n {n:Nat} {M:List (List Int)} (S:Sq n M):SqN n M:=⟨S.len,fun i x h=>⟨(S.row i x h).1,fun z hz=>Nat.le_trans ((S.row i x h).2 z hz) (by omega)⟩⟩
structure Wz (H:Hp) (p:Addr) (n:Nat) (hs:List Int) (M:List (List Int)):Prop where
 wr:WR H p hs M
 len:hs.length=n
 sq:SqN n M
 hb:∀ z ∈ hs,z.natAbs≤100
theorem Wz.same {H H':Hp} {p:Addr} {n:Nat} {hs:List Int} {M:List (List Int)} (W:Wz H p n hs M) (s:Same H H'):Wz H' p n hs M:=⟨W.wr.mono s,W.len,W.sq,W.hb⟩
structure WN (H H':Hp) (p:Addr) (hs:List Int) (M:List (List Int)):Prop where
 ex:∃ hA rA rs,H' p=some (.tup [.ref hA,.ref rA])∧H' hA=some (.lst (hs.map V.int))∧H' rA=some (.lst (rs.map V.ref))∧RowsAt H' rs M∧(∀ a ∈ p :: hA :: rA :: rs,H a=none)∧hA≠rA∧hA ∉ rs∧rA ∉ rs
theorem lc_ints {a:Addr} {xs:List V} {te:TE} {Q:Hp→Prop} {σ:L2.St} {H1:Hp} {D:Addr} (zs:List Int) (hlen:zs.length=xs.length) (hm:xs.length≤900) (hD:H1 D=none) (hxs:SqL K H1 a xs)
  (hs:∀ (i:Nat) (x:V) (z:Int) (H':Hp),xs[i]? = some x→zs[i]? = some z→Same H1 H'→te (σ++[some x]) H' fun v H3=>v=.int z∧H3=H')
  (hd:Q (upd H1 D (.lst (zs.map V.int)))) (mono:∀ σ H Q Q',(∀ v H1,Q v H1→Q' v H1)→te σ H Q→te σ H Q') :
  ∃ W:Nat→Nat→List V→Hp→Prop,(∃ m,W 0 m [] (upd H1 D (.lst []))) ∧
   ∀ i m ys H',W i m ys H'→H' D=some (.lst ys)∧(((Itl K a).stop i H'∧Q H') ∨ ((Itl K a).go i H'∧∀ z H2,(Itl K a).yld i H' z H2→te (σ++[some z]) H2 fun v H3=>H3 D=some (.lst ys)∧ys.length < sizeLine∧∃ m',m' < m∧W (i+1) m' (ys++[v]) (upd H3 D (.lst (ys++[v]))))):=by
 refine lc_list (xs:=xs) (fun i ys H'=>ys=(zs.take i).map V.int∧H'=upd H1 D (.lst ys)) ⟨rfl,rfl⟩ (fun i ys H' _ ⟨_,e⟩=>?_) ?_ ?_ mono
 ·subst e
  exact ⟨Same.sq (Same.upd hD) hxs,upd_same⟩
 ·rintro i x ys H4 hx ⟨rfl,rfl⟩
  have hi:i < zs.length:=by rw [hlen]; exact (List.getElem?_eq_some_iff.mp hx).1
  have hz:zs[i]? = some zs[i]:=getElem?_eq_getElem hi
  refine mono _ _ _ _ ?_ (hs i x zs[i] _ hx hz (Same.upd hD))
  rintro v H5 ⟨rfl,rfl⟩
  refine ⟨upd_same,small1000 (by rw [length_map,length_take]; omega),?_,by rw [upd_upd]⟩
  rw [take_snoc hz,map_append]
  rfl
 ·rintro ys H4 ⟨rfl,rfl⟩
  rw [←hlen,take_length]
  exact hd
theorem RowsAt.append {H:Hp} {rs ss:List Addr} {M N:List (List Int)} (R:RowsAt H rs M) (S:RowsAt H ss N) (d:∀ r ∈ ss,r ∉ rs):RowsAt H (rs++ss) (M++N):=by
 refine ⟨by rw [length_append,length_append,R.len,S.len],fun i r y h1 h2=>?_,?_⟩
 ·by_cases hi:i < rs.length
  ·rw [getElem?_append_left hi] at h1
   rw [getElem?_append_left (by rw [←R.len]; exact hi)] at h2
   exact R.row i r y h1 h2
  ·rw [getElem?_append_right (by omega)] at h1
   rw [getElem?_append_right (by rw [←R.len]; omega),←R.len] at h2
   exact S.row _ r y h1 h2
 ·rw [List.nodup_append]
  refine ⟨R.nd,S.nd,fun a ha b hb e=>?_⟩
  subst e
  exact d a hb ha
def besM (n m:Nat) (M M':List (List Int)):List (List Int):=M.map (fun x=>x++List.replicate m 0)++M'.map (fun x=>List.replicate n 0++x)
def spSide:Sp:=fun vs H Q _=>∃ (wA oA:Addr) (n m:Nat) (hs hs':List Int) (M M':List (List Int)),vs=[.ref wA,.ref oA]∧WR H wA hs M∧WR H oA hs' M'∧hs.length=n∧hs'.length=m∧SqN n M∧SqN m M'∧n≤8∧m≤8 ∧
 ∀ p H',Same H H'→WN H H' p (hs++hs') (besM n m M M')→Q (.ref p) H'
abbrev nSide:List Str:=["web","other","ahead","behind","rows","rows_there"]
theorem scSide:FnScope nSide ["web","other"] (defScope sSide):=by constructor<;>first|rfl|decide +kernel
theorem lcSide1:LcScope (defScope sSide) nSide (lcScope (asgVal (bodyAt sSide 2))) "row":=by constructor<;>first|rfl|decide +kernel
theorem lcSide2:LcScope (defScope sSide) nSide (lcScope (asgVal (bodyAt sSide 3))) "row":=by constructor<;>first|rfl|decide +kernel
theorem ok_side {f:Addr} {fd:FuncData} (B:BltL mg) (F:Fun K "side_by_side" "side_by_side" sSide f fd):FnOk P w K mg base CX0 1 f fd ["web","other"] spSide:=by
 refine F.ok scSide (fun vs H Q E h=>?_) (fun cdv A outer s H vs Q E hr h=>?_)
 ·obtain ⟨wA,oA,n,m,hs,hs',M,M',rfl,_⟩:=h
  rfl
 ·obtain ⟨wA,oA,n,m,hs,hs',M,M',rfl,hW,hO,hl,hl',hS,hS',hn,hm,q⟩:=h
  obtain ⟨hA,rA,rs,w1,w2,w3,R⟩:=hW.ex
  obtain ⟨hB,rB,ss,o1,o2,o3,S⟩:=hO.ex
  refine ⟨_,pss_cons (ps_set (i:=2) scSide.nd rfl (Or.inr rfl) (pe_callB call_len_seq (by rfl) B.len boot_len (pa_cons (pe_ix ix_tup (pv 0) pe_int (fun _ _=>rfl)) pa_nil)))
   (pss_cons (ps_set (i:=3) scSide.nd rfl (Or.inr rfl) (pe_callB call_len_seq (by rfl) B.len boot_len (pa_cons (pe_ix ix_tup (pv 1) pe_int (fun _ _=>rfl)) pa_nil)))
   (pss_cons (ps_setLc (i:=4) scSide.nd rfl (Or.inl rfl) rfl lcSide1 rfl (pi_list (pe_ix ix_tup (pv 0) pe_int (fun _ _=>rfl))) (fun _ _ _=>pe_op op_cat (pv 6) (pe_op op_rep (pe_lst (pa_cons pe_int pa_nil)) (pv 3))))
   (pss_cons (ps_setLc (i:=5) scSide.nd rfl (Or.inl rfl) rfl lcSide2 rfl (pi_list (pe_ix ix_tup (pv 1) pe_int (fun _ _=>rfl))) (fun _ _ _=>pe_op op_cat (pe_op op_rep (pe_lst (pa_cons pe_int pa_nil)) (pv 2)) (pv 6)))
   (pss_one (ps_ret (pe_tup (pa_cons (pe_op op_cat (pe_ix ix_tup (pv 0) pe_int (fun _ _=>rfl)) (pe_ix ix_tup (pv 1) pe_int (fun _ _=>rfl))) (pa_cons (pe_op op_cat (pv 4) (pv 5)) pa_nil)))))))),?_⟩
  refine ⟨_,rfl,wA,_,_,_,rfl,rfl,SqT.of w1,rfl,hA,_,rfl,.inl (SqL.of w2),?_⟩
  refine ⟨_,rfl,oA,_,_,_,rfl,rfl,SqT.of o1,rfl,hB,_,rfl,.inl (SqL.of o2),?_⟩
  rw [length_map,length_map,hl,hl']
  refine ⟨_,rfl,wA,_,_,_,rfl,rfl,SqT.of w1,rfl,rA,rfl,⟨_,SqL.of w3⟩,fun D hD=>?_⟩
  refine lc_rows (xs:=rs.map V.ref) (M.map fun x=>x++List.replicate m 0) (by rw [length_map,length_map,R.len]) (by rw [length_map,R.len,hS.len]; omega) hD (SqL.of w3) ?_ ?_ ?_
  ·intro i x row H1 hx hrow s1
   obtain ⟨r,hr1,rfl⟩:=map_get hx
   obtain ⟨y,hy,rfl⟩:=map_get hrow
   have er:=s1 _ _ (R.row i r y hr1 hy)
   have ly:=(hS.row i y hy).1
   refine ⟨_,rfl,sz1,fun l1 hl1=>?_⟩
   refine ⟨_,rfl,l1,(m:Int),_,rfl,rfl,upd_same,by omega,by omega,Nat.le_of_lt (small1000 (by show 1 * (m:Int).toNat≤1000; omega)),fun l2 hl2=>?_⟩
   have sm:Same H1 (upd (upd H1 l1 (.lst [.int 0])) l2 (.lst (List.replicate (m:Int).toNat [V.int 0]).flatten)):=(Same.upd hl1).trans (Same.upd hl2)
   have el:upd (upd H1 l1 (.lst [.int 0])) l2 (.lst (List.replicate (m:Int).toNat [V.int 0]).flatten) l2=some (.lst ((List.replicate m (0:Int)).map V.int)):=by rw [upd_same,Int.toNat_natCast,zeros_map]
   generalize upd (upd H1 l1 (.lst [.int 0])) l2 (.lst (List.replicate (m:Int).toNat [V.int 0]).flatten)=H2 at sm el ⊢
   refine ⟨r,l2,_,_,rfl,rfl,sm _ _ er,el,Nat.le_of_lt (small1000 (by rw [length_map,length_map,length_replicate]; omega)),fun l3 hl3=>?_⟩
   exact ⟨l3,rfl,sm.trans (Same.upd hl3),sm.free hl3,by rw [upd_same,map_append]⟩
  ·intro rs1 H1 s1 eD1 R1 f1
   refine ⟨_,rfl,oA,_,_,_,rfl,rfl,SqT.of (s1 _ _ o1),rfl,rB,rfl,⟨_,SqL.of (s1 _ _ o3)⟩,fun D2 hD2=>?_⟩
   refine lc_rows (xs:=ss.map V.ref) (M'.map fun x=>List.replicate n 0++x) (by rw [length_map,length_map,S.len]) (by rw [length_map,S.len,hS'.len]; omega) hD2 (SqL.of (s1 _ _ o3)) ?_ ?_ ?_
   ·intro i x row H2 hx hrow s2
    obtain ⟨r,hr1,rfl⟩:=map_get hx
    obtain ⟨y,hy,rfl⟩:=map_get hrow
    have er:=s2 _ _ (s1 _ _ (S.row i r y hr1 hy))
    have ly:=(hS'.row i y hy).1
    refine ⟨sz1,fun l1 hl1=>?_⟩
    refine ⟨_,rfl,l1,(n:Int),_,rfl,rfl,upd_same,by omega,by omega,Nat.le_of_lt (small1000 (by show 1 * (n:Int).toNat≤1000; omega)),fun l2 hl2=>?_⟩
    have sm:Same H2 (upd (upd H2 l1 (.lst [.int 0])) l2 (.lst (List.replicate (n:Int).toNat [V.int 0]).flatten)):=(Same.upd hl1).trans (Same.upd hl2)
    have el:upd (upd H2 l1 (.lst [.int 0])) l2 (.lst (List.replicate (n:Int).toNat [V.int 0]).flatten) l2=some (.lst ((List.replicate n (0:Int)).map V.int)):=by rw [upd_same,Int.toNat_natCast,zeros_map]
    generalize upd (upd H2 l1 (.lst [.int 0])) l2 (.lst (List.replicate (n:Int).toNat [V.int 0]).flatten)=H3 at sm el ⊢
    refine ⟨_,rfl,l2,r,_,_,rfl,rfl,el,sm _ _ er,Nat.le_of_lt (small1000 (by rw [length_map,length_map,length_replicate]; omega)),fun l3 hl3=>?_⟩
    exact ⟨l3,rfl,sm.trans (Same.upd hl3),sm.free hl3,by rw [upd_same,map_append]⟩
   ·intro rs2 H2 s2 eD2 R2 f2
    have t2:=s1.trans s2
    refine ⟨_,rfl,wA,_,_,_,rfl,rfl,SqT.of (t2 _ _ w1),rfl,_,rfl,oA,_,_,_,rfl,rfl,SqT.of (t2 _ _ o1),rfl,hA,hB,_,_,rfl,rfl,t2 _ _ w2,t2 _ _ o2,Nat.le_of_lt (small1000 (by rw [length_map,length_map]; omega)),fun pA hpA=>?_⟩
    have s3:Same H2 (upd H2 pA (.lst (hs.map V.int++hs'.map V.int))):=Same.upd hpA
    have e3:upd H2 pA (.lst (hs.map V.int++hs'.map V.int)) pA=some (.lst ((hs++hs').map V.int)):=by rw [upd_same,map_append]
    generalize upd H2 pA (.lst (hs.map V.int++hs'.map V.int))=H3 at s3 e3 ⊢
    have l1:rs1.length=n:=by rw [R1.len,length_map,hS.len]
    have l2:rs2.length=m:=by rw [R2.len,length_map,hS'.len]
    refine ⟨_,rfl,_,rfl,D,D2,_,_,rfl,rfl,s3 _ _ (s2 _ _ eD1),s3 _ _ eD2,Nat.le_of_lt (small1000 (by rw [length_map,length_map]; omega)),fun rN hrN=>?_⟩
    have s4:Same H3 (upd H3 rN (.lst (rs1.map V.ref++rs2.map V.ref))):=Same.upd hrN
    have e4:upd H3 rN (.lst (rs1.map V.ref++rs2.map V.ref)) rN=some (.lst ((rs1++rs2).map V.ref)):=by rw [upd_same,map_append]
    have nrp:pA≠rN:=ne_of_none e3 hrN
    generalize upd H3 rN (.lst (rs1.map V.ref++rs2.map V.ref))=H4 at s4 e4 ⊢
    refine ⟨sz2,fun tA htA=>?_⟩
    have s5:Same H4 (upd H4 tA (.tup [.ref pA,.ref rN])):=Same.upd htA
    have u2:Same H2 (upd H4 tA (.tup [.ref pA,.ref rN])):=(s3.trans s4).trans s5
    have R6:RowsAt H2 (rs1++rs2) (besM n m M M'):=(R1.keep fun r _ o z=>s2 r o z).append R2 fun r hr2 hr1=>by
     obtain ⟨o,z⟩:=rows_some R1 hr1
     rw [(f2 r hr2).1] at z
     cases z
    have fr:∀ r ∈ rs1++rs2,H r=none∧r≠pA∧r≠rN:=fun r hr=>by
     obtain ⟨o,z⟩:=rows_some R6 hr
     refine ⟨?_,ne_of_none z hpA,ne_of_none (s3 _ _ z) hrN⟩
     rcases mem_append.mp hr with y | y
     ·exact (f1 r y).1
     ·exact s1.free (f2 r y).1
    refine q tA _ (t2.trans u2) ⟨pA,rN,rs1++rs2,upd_same,s5 _ _ (s4 _ _ e3),s5 _ _ e4,R6.keep fun r _ o z=>u2 r o z,?_,nrp,fun z=>(fr _ z).2.1 rfl,fun z=>(fr _ z).2.2 rfl⟩
    intro a ha
    rcases mem_cons.mp ha with rfl | ha
    ·exact ((t2.trans s3).trans s4).free htA
    ·rcases mem_cons.mp ha with rfl | ha
     ·exact t2.free hpA
     ·rcases mem_cons.mp ha with rfl | ha
      ·exact (t2.trans s3).free hrN
      ·exact (fr a ha).1
   ·rintro σ H' Q1 Q2 hq ⟨z,fn⟩
    exact ⟨z,fun l1 h1=>let ⟨v,e,l,k,xs,a1,a2,a3,a4,a5,a6,g⟩:=fn l1 h1; ⟨v,e,l,k,xs,a1,a2,a3,a4,a5,a6,fun p hp=>let ⟨v',e',l',b',xs',zs',c1,c2,c3,c4,c5,g'⟩:=g p hp; ⟨v',e',l',b',xs',zs',c1,c2,c3,c4,c5,fun p' hp'=>hq _ _ (g' p' hp')⟩⟩⟩
  ·rintro σ H' Q1 Q2 hq ⟨v',e',z,fn⟩
   exact ⟨v',e',z,fun l1 h1=>let ⟨v,e,l,k,xs,a1,a2,a3,a4,a5,a6,g⟩:=fn l1 h1; ⟨v,e,l,k,xs,a1,a2,a3,a4,a5,a6,fun p hp=>let ⟨l',b',xs',zs',c1,c2,c3,c4,c5,g'⟩:=g p hp; ⟨l',b',xs',zs',c1,c2,c3,c4,c5,fun p' hp'=>hq _ _ (g' p' hp')⟩⟩⟩
end
section
theorem sumP_app (a b:List (Int × Int)) (l:Int):sumP (a++b) l=sumP a l+sumP b l:=by
 induction a with
 | nil=>simp [sumP]
 | cons x a ih =>
  obtain ⟨u,v⟩:=x
  rw [List.cons_append,sumP_cons,sumP_cons,ih]
  omega
theorem sumP_zero (l:Int):∀ (m:Nat) (ls:List Int),sumP ((List.replicate m 0).zip ls) l=0
 | 0,_=>by simp [sumP]
 | _+1,[]=>by simp [sumP]
 | m+1,x :: ls=>by
  rw [replicate_succ,zip_cons_cons,sumP_cons,sumP_zero l m ls]
  split <;> rfl
theorem row_here {x ls ls':List Int} {m:Nat} (h:x.length=ls.length) (o:Int):sumP ((x++List.replicate m 0).zip (ls++ls')) o=sumP (x.zip ls) o:=by
 rw [zip_append h,sumP_app,sumP_zero]
 omega
theorem row_there {x ls ls':List Int} {n:Nat} (h:ls.length=n) (o:Int):sumP ((List.replicate n 0++x).zip (ls++ls')) o=sumP (x.zip ls') o:=by
 rw [zip_append (by rw [length_replicate,h]),sumP_app,sumP_zero]
 omega
variable {n m:Nat} {M M':List (List Int)}
theorem bes_len (h1:M.length=n) (h2:M'.length=m):(besM n m M M').length=n+m:=by unfold besM; rw [length_append,length_map,length_map,h1,h2]
theorem bes_here (h1:M.length=n) {i:Nat} (hi:i < n) {ws:List Int} (h:(besM n m M M')[i]? = some ws):∃ x,M[i]? = some x∧ws=x++List.replicate m 0:=by
 unfold besM at h
 rw [getElem?_append_left (by rw [length_map,h1]; exact hi)] at h
 exact map_get h
theorem bes_there (h1:M.length=n) {i:Nat} (hi:n≤i) {ws:List Int} (h:(besM n m M M')[i]? = some ws):∃ x,M'[i - n]? = some x∧ws=List.replicate n 0++x:=by
 unfold besM at h
 rw [getElem?_append_right (by rw [length_map,h1]; exact hi),length_map,h1] at h
 exact map_get h
theorem bes_rows (h1:SqN n M) (h2:SqN m M'):∀ ws ∈ besM n m M M',ws.length=n+m:=by
 intro ws hws
 obtain ⟨i,hi⟩:=mem_iff_getElem?.mp hws
 by_cases c:i < n
 ·obtain ⟨x,hx,rfl⟩:=bes_here h1.len c hi
  rw [length_append,length_replicate,(h1.row i x hx).1]
 ·obtain ⟨x,hx,rfl⟩:=bes_there h1.len (by omega) hi
  rw [length_append,length_replicate,(h2.row _ x hx).1]
end
section
variable {P:Program} {w:World} {K:Frag} {mg:Str→Option Value} {base:Heap}
theorem cut_drop (ns:List Int) (n:Nat) (h:n≤ns.length):cutV (ns.map V.int) (some (n:Int)) none=(ns.drop n).map V.int:=by
 unfold cutV
 rw [HT.sIx_none,HT.sIx_nat,length_map,Nat.min_eq_left h,←List.map_drop,take_of_length_le (by rw [length_map,length_drop]; exact Nat.le_refl _)]
def spTogether:Sp:=fun vs H Q _=>∃ (wA oA:Addr) (n m:Nat) (hs hs':List Int) (M M':List (List Int)),vs=[.ref wA,.ref oA]∧Wz H wA n hs M∧Wz H oA m hs' M'∧n≤8∧m≤8 ∧
 ∀ (p a b:Addr) (ls:List Int) (H':Hp),Same H H'→H' p=some (.tup [.ref a,.ref b])→H' a=some (.lst ((ls.take n).map V.int))→H' b=some (.lst ((ls.drop n).map V.int))→Coarse (hs++hs') (besM n m M M') ls→Q (.ref p) H'
abbrev nTog:List Str:=["web","other","lots","ahead"]
theorem scTog:FnScope nTog ["web","other"] (defScope sTogether):=by constructor<;>first|rfl|decide +kernel
theorem ok_together {f fC fS:Addr} {fd fdC fdS:FuncData} (B:BltL mg) (F:Fun K "coarsest_together" "coarsest_together" sTogether f fd) (DC:Dn K mg "coarsest_parting" sCoarsest ["web"] fC fdC) (GC:FnOk P w K mg base CX0 3 fC fdC ["web"] (spCoarsest K))
  (DS:Dn K mg "side_by_side" sSide ["web","other"] fS fdS) (GS:FnOk P w K mg base CX0 1 fS fdS ["web","other"] spSide):FnOk P w K mg base CX0 4 f fd ["web","other"] spTogether:=by
 refine F.ok scTog (fun vs H Q E h=>?_) (fun cdv A outer s H vs Q E hr h=>?_)
 ·obtain ⟨wA,oA,n,m,hs,hs',M,M',rfl,_⟩:=h
  rfl
 ·obtain ⟨wA,oA,n,m,hs,hs',M,M',rfl,W,O,hn,hm,q⟩:=h
  refine ⟨_,pss_cons (ps_set (i:=2) scTog.nd rfl (Or.inl rfl) (pe_fn DC GC hr rfl (pa_cons (pe_fn DS GS (hr.mono (by decide)) rfl (pa_cons (pv 0) (pa_cons (pv 1) pa_nil))) pa_nil)))
   (pss_cons (ps_set (i:=3) scTog.nd rfl (Or.inl rfl) (pe_callB call_len_seq (by rfl) B.len boot_len (pa_cons (pe_ix ix_tup (pv 0) pe_int (fun _ _=>rfl)) pa_nil)))
   (pss_one (ps_ret (pe_tup (pa_cons (pe_slice sl_list (pv 2) po_none (po_some (pv 3))) (pa_cons (pe_slice sl_list (pv 2) (po_some (pv 3)) po_none) pa_nil)))))),?_⟩
  refine ⟨_,rfl,_,rfl,wA,oA,n,m,hs,hs',M,M',rfl,W.wr,O.wr,W.len,O.len,W.sq,O.sq,hn,hm,fun pS H1 s1 WN1=>?_⟩
  obtain ⟨hR,rR,rsR,g1,g2,g3,RR,_⟩:=WN1.ex
  have lu:(hs++hs').length=n+m:=by rw [length_append,W.len,O.len]
  have lM:=bes_len (n:=n) (m:=m) W.sq.len O.sq.len
  have wbR:WbAt K H1 (.ref pS) (hs++hs') (besM n m M M'):=⟨pS,hR,rR,rsR,rfl,SqT.of g1,SqL.of g2,SqL.of g3,RR.len,fun j t ws e1 e2=>SqL.of (RR.row j t ws e1 e2)⟩
  refine ⟨.ref pS,_,_,rfl,wbR,by rw [lM,lu],by omega,fun ws hws=>by rw [bes_rows W.sq O.sq ws hws,lu],fun T ls H2 s2 nT eT C=>?_⟩
  have ll:ls.length=n+m:=by rw [←C.len,lu]
  have s12:=s1.trans s2
  obtain ⟨hA,rA,rs,w1,w2,w3,R⟩:=(W.same s12).wr.ex
  refine ⟨_,rfl,wA,_,_,_,rfl,rfl,SqT.of w1,rfl,hA,_,rfl,.inl (SqL.of w2),?_⟩
  rw [length_map,W.len]
  refine ⟨_,rfl,_,rfl,_,rfl,T,_,rfl,SqL.of eT,fun a ha=>?_⟩
  rw [cut_take ls n (by omega)]
  have s3:Same H2 (upd H2 a (.lst ((ls.take n).map V.int))):=Same.upd ha
  have e3:upd H2 a (.lst ((ls.take n).map V.int)) a=some (.lst ((ls.take n).map V.int)):=upd_same
  generalize upd H2 a (.lst ((ls.take n).map V.int))=H3 at s3 e3 ⊢
  refine ⟨_,rfl,_,rfl,(n:Int),rfl,T,_,rfl,SqL.of (s3 _ _ eT),fun b hb=>?_⟩
  rw [cut_drop ls n (by omega)]
  have s4:Same H3 (upd H3 b (.lst ((ls.drop n).map V.int))):=Same.upd hb
  have e4:upd H3 b (.lst ((ls.drop n).map V.int)) b=some (.lst ((ls.drop n).map V.int)):=upd_same
  generalize upd H3 b (.lst ((ls.drop n).map V.int))=H4 at s4 e4 ⊢
  refine ⟨sz2,fun p hp=>?_⟩
  have s5:Same H4 (upd H4 p (.tup [.ref a,.ref b])):=Same.upd hp
  exact q p a b ls _ (((s12.trans s3).trans s4).trans s5) upd_same (s5 _ _ (s4 _ _ e3)) (s5 _ _ e4) C
def spAlike:Sp:=fun vs H Q _=>∃ (wA oA:Addr) (n m:Nat) (hs hs':List Int) (M M':List (List Int)),vs=[.ref wA,.ref oA]∧Wz H wA n hs M∧Wz H oA m hs' M'∧n≤8∧m≤8 ∧
 ∀ (r:Bool) (ls:List Int) (H':Hp),Same H H'→Coarse (hs++hs') (besM n m M M') ls→(r=true↔(ls.take n).Perm (ls.drop n))→Q (.bl r) H'
abbrev nAlike:List Str:=["web","other","together"]
theorem scAlike:FnScope nAlike ["web","other"] (defScope sAlike):=by constructor<;>first|rfl|decide +kernel
theorem sort_iff {a b a' b':List Int} (pa:a'.Perm a) (sa:a'.Pairwise (·≤·)) (pb:b'.Perm b) (sb:b'.Pairwise (·≤·)):a'=b'↔a.Perm b:=by
 constructor
 ·rintro rfl
  exact pa.symm.trans pb
 ·intro h
  exact PySem.W.ksm_same ((pa.trans h).trans pb.symm) sa sb
theorem ok_alike {f fT:Addr} {fd fdT:FuncData} (B:BltL mg) (F:Fun K "part_alike" "part_alike" sAlike f fd) (DT:Dn K mg "coarsest_together" sTogether ["web","other"] fT fdT) (GT:FnOk P w K mg base CX0 4 fT fdT ["web","other"] spTogether):FnOk P w K mg base CX0 5 f fd ["web","other"] spAlike:=by
 refine F.ok scAlike (fun vs H Q E h=>?_) (fun cdv A outer s H vs Q E hr h=>?_)
 ·obtain ⟨wA,oA,n,m,hs,hs',M,M',rfl,_⟩:=h
  rfl
 ·obtain ⟨wA,oA,n,m,hs,hs',M,M',rfl,W,O,hn,hm,q⟩:=h
  refine ⟨_,pss_cons (ps_set (i:=2) scAlike.nd rfl (Or.inl rfl) (pe_fn DT GT hr rfl (pa_cons (pv 0) (pa_cons (pv 1) pa_nil))))
   (pss_one (ps_ret (pe_cmpR (op_eqD hr.units) (pe_callB call_sorted (by rfl) B.sorted boot_sorted (pa_cons (pe_ix ix_tup (pv 2) pe_int (fun _ _=>rfl)) pa_nil)) (pe_callB call_sorted (by rfl) B.sorted boot_sorted (pa_cons (pe_ix ix_tup (pv 2) pe_int (fun _ _=>rfl)) pa_nil)) (nomark _)))),?_⟩
  refine ⟨_,rfl,_,rfl,wA,oA,n,m,hs,hs',M,M',rfl,W,O,hn,hm,fun p a b ls H1 s1 ep ea eb C=>?_⟩
  have ll:ls.length=n+m:=by rw [←C.len,length_append,W.len,O.len]
  refine ⟨_,rfl,p,_,_,_,rfl,rfl,SqT.of ep,rfl,a,_,rfl,SqL.of ea,by rw [length_take]; omega,fun l1 ns1 hl1 pm1 so1=>?_⟩
  have s2:Same H1 (upd H1 l1 (.lst (ns1.map V.int))):=Same.upd hl1
  have e2:upd H1 l1 (.lst (ns1.map V.int)) l1=some (.lst (ns1.map V.int)):=upd_same
  generalize upd H1 l1 (.lst (ns1.map V.int))=H2 at s2 e2 ⊢
  refine ⟨_,rfl,p,_,_,_,rfl,rfl,SqT.of (s2 _ _ ep),rfl,b,_,rfl,SqL.of (s2 _ _ eb),by rw [length_drop]; omega,fun l2 ns2 hl2 pm2 so2=>?_⟩
  have s3:Same H2 (upd H2 l2 (.lst (ns2.map V.int))):=Same.upd hl2
  have e3:upd H2 l2 (.lst (ns2.map V.int)) l2=some (.lst (ns2.map V.int)):=upd_same
  generalize upd H2 l2 (.lst (ns2.map V.int))=H3 at s3 e3 ⊢
  refine ⟨dI ns1,dI ns2,daI trivial (SqL.of (s3 _ _ e2)),daI trivial (SqL.of e3),⟨(lay_dI _).1,(lay_dI _).1,Nat.le_trans (lay_dI _).2 (by decide)⟩,?_⟩
  rw [eqv_dI]
  refine q _ ls H3 ((s1.trans s2).trans s3) C ?_
  rw [decide_eq_true_iff]
  exact sort_iff pm1 so1 pm2 so2
def spLRen:Sp:=fun vs H Q _=>∃ (wA oA:Addr) (n:Nat) (hs:List Int) (M:List (List Int)) (os:List Int),vs=[.ref wA,.ref oA]∧WR H wA hs M∧hs.length=n∧SqN n M∧n≤8∧H oA=some (.lst (os.map V.int))∧os.Perm (rI n) ∧
 ∀ p H',Same H H'→WN H H' p (renH hs os) (renM M os)→Q (.ref p) H'
abbrev nLRen:List Str:=["_law_web_here","_law_order_here","_law_hues","_law_rows"]
def lcElt (e:Expr):Expr:=match e with
 | .ListComp x _ _ _=>x
 | _=>.Constant .none 0 ⟨0,0,0,0⟩
theorem scLRen:FnScope nLRen ["_law_web_here","_law_order_here"] (defScope sLRen):=by constructor<;>first|rfl|decide +kernel
theorem lcLRen0:LcScope (defScope sLRen) nLRen (lcScope (tupAt (asgVal (bodyAt sLRen 1)) 0)) "_law_k":=by constructor<;>first|rfl|decide +kernel
theorem lcLRen1:LcScope (defScope sLRen) nLRen (lcScope (tupAt (asgVal (bodyAt sLRen 1)) 1)) "_law_k":=by constructor<;>first|rfl|decide +kernel
def blkLRen:Scope:=relabel (lcScope (tupAt (asgVal (bodyAt sLRen 1)) 1)) (envOfC "" (defScope sLRen) 0 0 .none)
theorem lcLRen2:LcScope blkLRen (blkN nLRen "_law_k") (lcScope (lcElt (tupAt (asgVal (bodyAt sLRen 1)) 1))) "_law_j":=by constructor<;>first|rfl|decide +kernel
theorem ok_lren {f:Addr} {fd:FuncData} (F:Fun K "_law_renamed" "_law_renamed" sLRen f fd):FnOk P w K mg base CX0 1 f fd ["_law_web_here","_law_order_here"] spLRen:=by
 refine F.ok scLRen (fun vs H Q E h=>?_) (fun cdv A outer s H vs Q E hr h=>?_)
 ·obtain ⟨wA,oA,n,hs,M,os,rfl,_⟩:=h
  rfl
 ·obtain ⟨wA,oA,n,hs,M,os,rfl,hW,hl,hS,hn,ho,hp,q⟩:=h
  obtain ⟨hA,rA,rs,w1,w2,w3,R⟩:=hW.ex
  have hmem:∀ o ∈ os,0≤o∧o < (n:Int):=fun o h=>rI_mem (hp.mem_iff.mp h)
  have hlos:os.length=n:=by rw [hp.length_eq,rI_len]
  refine ⟨_,pss_cons (ps_asg (pv 0) (pg_tup rfl (pgs_cons (pg_name (i:=2) scLRen.nd rfl (Or.inr rfl)) (pgs_cons (pg_name (i:=3) scLRen.nd rfl (Or.inr rfl)) pgs_nil))))
   (pss_one (ps_ret (pe_tup (pa_cons (pe_lc rfl lcLRen0 rfl (pi_list (pv 1)) (fun _ _ _=>pe_ix (ix_listK (K:=K)) (pv 2) (pv 4) (fun _ _=>rfl))) (pa_cons (pe_lc rfl lcLRen1 rfl (pi_list (pv 1))
    (fun _ _ _=>pe_lc rfl lcLRen2 rfl (pi_listK (K:=K) (pv 1)) (fun _ _ _=>pe_ix (ix_listK (K:=K)) (pe_ix (ix_listK (K:=K)) (pv 3) (pv 4) (fun _ _=>rfl)) (pv 5) (fun _ _=>rfl)))) pa_nil))))),?_⟩
  refine ⟨_,rfl,wA,_,rfl,SqT.of w1,rfl,_,_,rfl,_,_,rfl,rfl,?_⟩
  refine ⟨_,rfl,oA,rfl,⟨_,SqL.of ho⟩,fun D hD=>?_⟩
  refine lc_ints (xs:=os.map V.int) (renH hs os) (by unfold renH; rw [length_map,length_map]) (by rw [length_map]; omega) hD (SqL.of ho) ?_ ?_ ?_
  ·intro i x z H1 hx hz s1
   obtain ⟨o,ho',rfl⟩:=map_get hx
   obtain ⟨o2,ho2,rfl⟩:=map_get (show (os.map fun o=>hs.getD o.toNat 0)[i]? = some z from hz)
   rw [ho'] at ho2
   cases ho2
   have hm:=hmem o (mem_of_getElem? ho')
   exact ⟨_,rfl,_,rfl,hA,_,_,_,rfl,rfl,SqL.of (s1 _ _ w2),at_int hm.1 (by rw [hl]; exact hm.2),rfl,rfl⟩
  ·have s1:Same H (upd H D (.lst ((renH hs os).map V.int))):=Same.upd hD
   have e1:upd H D (.lst ((renH hs os).map V.int)) D=some (.lst ((renH hs os).map V.int)):=upd_same
   generalize upd H D (.lst ((renH hs os).map V.int))=H1 at s1 e1 ⊢
   refine ⟨_,rfl,oA,rfl,⟨_,SqL.of (s1 _ _ ho)⟩,fun D2 hD2=>?_⟩
   have nDD:D≠D2:=ne_of_none e1 hD2
   refine lc_rows (xs:=os.map V.int) (renM M os) (by unfold renM; rw [length_map,length_map]) (by rw [length_map]; omega) hD2 (SqL.of (s1 _ _ ho)) ?_ ?_ ?_
   ·intro i x row H2 hx hrow s2
    obtain ⟨o,ho',rfl⟩:=map_get hx
    obtain ⟨o2,ho2,rfl⟩:=map_get (show (os.map fun o=>renH (M.getD o.toNat []) os)[i]? = some row from hrow)
    rw [ho'] at ho2
    cases ho2
    have hm:=hmem o (mem_of_getElem? ho')
    obtain ⟨j,rfl⟩:=Int.eq_ofNat_of_zero_le hm.1
    have hj:j < rs.length:=by rw [R.len,hS.len]; omega
    obtain ⟨r,xr,g1,g2,g3⟩:=R.get hj
    have t2:=s1.trans s2
    have hlr:=(hS.row j xr g2).1
    have er:M.getD (Int.toNat (j:Int)) []=xr:=by rw [Int.toNat_natCast,getD_some g2]
    rw [er]
    refine ⟨_,rfl,oA,rfl,⟨_,SqL.of (t2 _ _ ho)⟩,fun D3 hD3=>?_⟩
    refine lc_ints (xs:=os.map V.int) (renH xr os) (by unfold renH; rw [length_map,length_map]) (by rw [length_map]; omega) hD3 (SqL.of (t2 _ _ ho)) ?_ ?_ ?_
    ·intro i' x' z H3 hx' hz' s3
     obtain ⟨o',ho1,rfl⟩:=map_get hx'
     obtain ⟨o2,ho2,rfl⟩:=map_get (show (os.map fun o=>xr.getD o.toNat 0)[i']? = some z from hz')
     rw [ho1] at ho2
     cases ho2
     have hm':=hmem o' (mem_of_getElem? ho1)
     have t3:=t2.trans s3
     exact ⟨_,rfl,_,rfl,rA,_,_,_,rfl,rfl,SqL.of (t3 _ _ w3),at_ref g1,_,rfl,r,_,_,_,rfl,rfl,SqL.of (t3 _ _ g3),at_int hm'.1 (by rw [hlr]; exact hm'.2),rfl,rfl⟩
    ·exact ⟨D3,rfl,Same.upd hD3,hD3,upd_same⟩
    ·rintro σ H' Q1 Q2 hq ⟨v,x1,v2,x2,p2,y3,i2,z2,y4,y5,y6,y7,v4,y8,p3,u3,i3,z3,u4,u5,u6,u7,u8⟩
     exact ⟨v,x1,v2,x2,p2,y3,i2,z2,y4,y5,y6,y7,v4,y8,p3,u3,i3,z3,u4,u5,u6,u7,hq _ _ u8⟩
   ·intro rs1 H2 s2 eD R2 f2
    refine ⟨sz2,fun tA htA=>?_⟩
    have s3:Same H2 (upd H2 tA (.tup [.ref D,.ref D2])):=Same.upd htA
    refine q tA _ ((s1.trans s2).trans s3) ⟨D,D2,rs1,upd_same,s3 _ _ (s2 _ _ e1),s3 _ _ eD,R2.keep fun r _ o z=>s3 r o z,?_,nDD,fun z=>?_,fun z=>(f2 _ z).2 rfl⟩
    ·intro a ha
     rcases mem_cons.mp ha with rfl | ha
     ·exact (s1.trans s2).free htA
     ·rcases mem_cons.mp ha with rfl | ha
      ·exact hD
      ·rcases mem_cons.mp ha with rfl | ha
       ·exact s1.free hD2
       ·exact s1.free (f2 a ha).1
    ·have:=(f2 _ z).1
     rw [e1] at this
     cases this
   ·rintro σ H' Q1 Q2 hq ⟨v,e,a,e2,e3,g⟩
    exact ⟨v,e,a,e2,e3,fun D hD=>let ⟨W,m0,st⟩:=g D hD; ⟨W,m0,fun i m ys H' hw=>let ⟨a1,a2⟩:=st i m ys H' hw; ⟨a1,a2.imp (fun ⟨b1,b2⟩=>⟨b1,hq _ _ b2⟩) id⟩⟩⟩
  ·rintro σ H' Q1 Q2 hq ⟨v,x1,v2,x2,p2,y3,i2,z2,y4,y5,y6,y7,y8⟩
   exact ⟨v,x1,v2,x2,p2,y3,i2,z2,y4,y5,y6,y7,hq _ _ y8⟩
end
section
theorem put_gen {M:List (List Int)} {n i j:Nat} {z:Int} {Pz:Int→Prop} (hl:M.length=n) (hz:Pz z) (hr:∀ (i:Nat) (x:List Int),M[i]? = some x→x.length=n∧∀ z ∈ x,Pz z) :
  (put M i j z).length=n∧∀ (k:Nat) (x:List Int),(put M i j z)[k]? = some x→x.length=n∧∀ z ∈ x,Pz z:=by
 unfold put
 refine ⟨by rw [length_set]; exact hl,fun k x hx=>?_⟩
 by_cases hk:k=i
 ·subst hk
  by_cases hlt:k < M.length
  ·rw [getElem?_set_self hlt] at hx
   have hx:=Option.some.inj hx
   have hy:M[k]? = some M[k]:=by simp [hlt]
   have hh:=hr k _ hy
   subst hx
   rw [hy]
   simp only [Option.getD_some,length_set]
   refine ⟨hh.1,fun y hy'=>?_⟩
   rcases List.mem_or_eq_of_mem_set hy' with q | q
   ·exact hh.2 y q
   ·rw [q]; exact hz
  ·rw [getElem?_eq_none (by rw [length_set]; omega)] at hx
   cases hx
 ·rw [getElem?_set_ne (Ne.symm hk)] at hx
  exact hr k x hx
theorem SqN.put {n:Nat} {M:List (List Int)} (S:SqN n M) (i j:Nat) {z:Int} (hz:z.natAbs≤2 * wMax):SqN n (put M i j z):=by
 obtain ⟨a,b⟩:=put_gen (i:=i) (j:=j) (Pz:=fun z=>z.natAbs≤2 * wMax) S.len hz S.row
 exact ⟨a,b⟩
theorem SqN.ent {n:Nat} {M:List (List Int)} (S:SqN n M) {i j a b:Nat} {z:Int} (hi:i < n) (hj:j < n):ent (My.put M i j z) a b=if a=i∧b=j then z else My.ent M a b :=
 ent_put M n i j a b z S.len (fun i x h=>(S.row i x h).1) hi hj
theorem cell_eq {m a u s s':Nat} (ha:a < m) (hu:u < m) (hs:s < 2) (hs':s' < 2):a+s * m=u+s' * m↔a=u∧s=s':=by
 have h1:s=0 ∨ s=1:=by omega
 have h2:s'=0 ∨ s'=1:=by omega
 constructor
 ·intro h
  rcases h1 with q | q <;> rcases h2 with q' | q' <;> rw [q,q'] at h ⊢ <;> omega
 ·rintro ⟨rfl,rfl⟩
  rfl
theorem cell_lt {m a s:Nat} (ha:a < m) (hs:s < 2):a+s * m < 2 * m:=by
 have h1:s=0 ∨ s=1:=by omega
 rcases h1 with rfl | rfl <;> simp only [Nat.zero_mul,Nat.one_mul] <;> omega
def liftS (m:Nat) (tw:Nat→Nat→Nat) (R:Nat→Nat→Int) (N:List (List Int)) (u v s:Nat):List (List Int):=put (put N (u+s * m) (v+(s+tw u v) % 2 * m) (R u v)) (v+(s+tw u v) % 2 * m) (u+s * m) (R u v)
def LfD (m:Nat) (tw:Nat→Nat→Nat) (R:Nat→Nat→Int) (dn:Nat→Nat→Prop) (N:List (List Int)):Prop :=
 ∀ a b s t:Nat,a < m→b < m→s < 2→t < 2→(dn (min a b) (max a b)→ent N (a+s * m) (b+t * m)=if (s+t) % 2=tw (min a b) (max a b) then R (min a b) (max a b) else 0)∧(¬ dn (min a b) (max a b)→ent N (a+s * m) (b+t * m)=0)
theorem lift_pair {m:Nat} {tw:Nat→Nat→Nat} {R:Nat→Nat→Int} {dn:Nat→Nat→Prop} {N:List (List Int)} {u v:Nat} (ht:tw u v < 2) (uv:u≤v) (hv:v < m) (S:SqN (2 * m) N) (hR:(R u v).natAbs≤2 * wMax) (nd:¬ dn u v) (L:LfD m tw R dn N) :
  LfD m tw R (fun x y=>dn x y ∨ (x=u∧y=v)) (liftS m tw R (liftS m tw R N u v 0) u v 1):=by
 intro a b s t ha hb hs ht'
 have hu:u < m:=by omega
 have m0:(0+tw u v) % 2 < 2:=Nat.mod_lt _ (by decide)
 have m1:(1+tw u v) % 2 < 2:=Nat.mod_lt _ (by decide)
 have c1:=cell_lt (m:=m) hu (show 0 < 2 by decide)
 have c2:=cell_lt (m:=m) hv m0
 have c3:=cell_lt (m:=m) hu (show 1 < 2 by decide)
 have c4:=cell_lt (m:=m) hv m1
 have S1:=S.put (u+0 * m) (v+(0+tw u v) % 2 * m) hR
 have S2:=S1.put (v+(0+tw u v) % 2 * m) (u+0 * m) hR
 have S3:=S2.put (u+1 * m) (v+(1+tw u v) % 2 * m) hR
 have e:ent (liftS m tw R (liftS m tw R N u v 0) u v 1) (a+s * m) (b+t * m) =
   if (a=v∧s=(1+tw u v) % 2)∧b=u∧t=1 then R u v else if (a=u∧s=1)∧b=v∧t=(1+tw u v) % 2 then R u v else
   if (a=v∧s=(0+tw u v) % 2)∧b=u∧t=0 then R u v else if (a=u∧s=0)∧b=v∧t=(0+tw u v) % 2 then R u v else ent N (a+s * m) (b+t * m):=by
  unfold liftS
  rw [S3.ent c4 c3,S2.ent c3 c4,S1.ent c2 c1,S.ent c1 c2]
  simp only [cell_eq ha hv hs m1,cell_eq hb hu ht' (show 1 < 2 by decide),cell_eq ha hu hs (show 1 < 2 by decide),cell_eq hb hv ht' m1,cell_eq ha hv hs m0,cell_eq hb hu ht' (show 0 < 2 by decide),cell_eq ha hu hs (show 0 < 2 by decide),cell_eq hb hv ht' m0]
 rw [e]
 obtain ⟨l1,l2⟩:=L a b s t ha hb hs ht'
 have hs2:s=0 ∨ s=1:=by omega
 have ht2:t=0 ∨ t=1:=by omega
 have hw2:tw u v=0 ∨ tw u v=1:=by omega
 by_cases cur:min a b=u∧max a b=v
 ·have mm:(a=u∧b=v) ∨ (a=v∧b=u):=by omega
  rw [cur.1,cur.2] at l2 ⊢
  have e0:=l2 nd
  refine ⟨fun _=>?_,fun z=>absurd (Or.inr ⟨rfl,rfl⟩) z⟩
  rw [e0]
  rcases mm with ⟨ra,rb⟩ | ⟨ra,rb⟩ <;> rcases hs2 with rfl | rfl <;> rcases ht2 with rfl | rfl <;> rcases hw2 with hw | hw <;> rw [hw] <;> simp [ra,rb]
 ·have n1:¬ (a=v∧b=u):=fun z=>cur (by omega)
  have n2:¬ (a=u∧b=v):=fun z=>cur (by omega)
  rw [if_neg (fun z=>n1 ⟨z.1.1,z.2.1⟩),if_neg (fun z=>n2 ⟨z.1.1,z.2.1⟩),if_neg (fun z=>n1 ⟨z.1.1,z.2.1⟩),if_neg (fun z=>n2 ⟨z.1.1,z.2.1⟩)]
  exact ⟨fun z=>l1 (z.resolve_right cur),fun z=>l2 fun y=>z (.inl y)⟩
theorem ent_row {M:List (List Int)} {i j:Nat} {W:List Int} (h:M[i]? = some W):ent M i j=W.getD j 0:=by
 unfold ent
 rw [h,getD_eq_getElem?_getD]
 rfl
def SymF (n:Nat) (M:Nat→Nat→Int):Prop:=∀ u < n,∀ v < n,M u v=M v u
theorem lf_sym {m:Nat} {tw:Nat→Nat→Nat} {R:Nat→Nat→Int} {dn:Nat→Nat→Prop} {N:List (List Int)} (L:LfD m tw R dn N) (h:∀ x y,x≤y→y < m→dn x y):SymF (2 * m) (ent N):=by
 have key:∀ u,u < 2 * m→∃ a s,a < m∧s < 2∧u=a+s * m:=fun u hu=>by
  by_cases c:u < m
  ·exact ⟨u,0,c,by decide,by omega⟩
  ·exact ⟨u - m,1,by omega,by decide,by omega⟩
 intro u hu v hv
 obtain ⟨a,s,ha,hs,rfl⟩:=key u hu
 obtain ⟨b,t,hb,ht,rfl⟩:=key v hv
 rw [(L a b s t ha hb hs ht).1 (h _ _ (by omega) (by omega)),(L b a t s hb ha ht hs).1 (h _ _ (by omega) (by omega)),Nat.add_comm t s,Nat.min_comm b a,Nat.max_comm b a]
theorem sq_symF {n:Nat} {M:List (List Int)} (S:Sq n M):SymF n (ent M):=fun u hu v hv=>S.sym u v hu hv
def sg (os:List Int) (u:Nat):Nat:=(os[u]?.getD 0).toNat
theorem sg_at {n:Nat} {os:List Int} (h:os.Perm (My.rI n)) {u:Nat} (hu:u < n):os[u]? = some ((sg os u:Nat):Int)∧sg os u < n:=by
 have lo:os.length=n:=by rw [h.length_eq,rI_len]
 obtain ⟨o,ho⟩:=get_lt (l:=os) (i:=u) (by omega)
 have:=rI_mem (h.mem_iff.mp (mem_of_getElem? ho))
 unfold sg
 rw [ho]
 show some o=some ((o.toNat:Nat):Int)∧o.toNat < n
 rw [Int.toNat_of_nonneg this.1]
 exact ⟨rfl,by omega⟩
theorem ent_ren {n:Nat} {M:List (List Int)} {os:List Int} (h:os.Perm (My.rI n)) {u v:Nat} (hu:u < n) (hv:v < n):ent (renM M os) u v=ent M (sg os u) (sg os v):=by
 unfold ent renM
 rw [getElem?_map,(sg_at h hu).1]
 show ((renH (M.getD (Int.toNat ((sg os u:Nat):Int)) []) os)[v]?).getD 0=_
 unfold renH
 rw [Int.toNat_natCast,getD_eq_getElem?_getD,getElem?_map,(sg_at h hv).1]
 show List.getD _ (Int.toNat ((sg os v:Nat):Int)) 0=_
 rw [Int.toNat_natCast,getD_eq_getElem?_getD]
theorem sym_ren {n:Nat} {M:List (List Int)} {os:List Int} (h:os.Perm (My.rI n)) (y:SymF n (ent M)):SymF n (ent (renM M os)):=fun u hu v hv=>by
 rw [ent_ren h hu hv,ent_ren h hv hu]
 exact y _ (sg_at h hu).2 _ (sg_at h hv).2
theorem sym_put {n:Nat} {M:List (List Int)} {i j:Nat} {z:Int} (S:SqN n M) (hi:i < n) (hj:j < n) (hz:z.natAbs≤2 * wMax) (y:SymF n (ent M)):SymF n (ent (put (put M i j z) j i z)):=fun u hu v hv=>by
 rw [(S.put i j hz).ent hj hi,S.ent hi hj,(S.put i j hz).ent hj hi,S.ent hi hj,y u hu v hv]
 by_cases c1:u=j∧v=i <;> by_cases c2:u=i∧v=j <;> simp [c1,c2,And.comm]
end
section
variable {P:Program} {w:World} {K:Frag} {mg:Str→Option Value} {base:Heap}
def spLift (K:Frag):Sp:=fun vs H Q _=>∃ (wA:Addr) (m:Nat) (hs:List Int) (M:List (List Int)) (c:Int) (fr:Bool),vs=[.ref wA,.int c,.bl fr]∧Wz H wA m hs M∧m≤4 ∧
 ∀ (p:Addr) (N:List (List Int)) (H':Hp),Same H H'→Wz H' p (2 * m) (hs++hs) N→SymF (2 * m) (ent N)→Q (.ref p) H'
abbrev nLift:List Str:=["_law_web_here","_law_cell","_law_free","_law_hues","_law_rows","_law_many","_law_twists","_law_square_here","_law_u","_law_v","_law_side","_law_there","_law_here"]
abbrev aLift:List Str:=["_law_web_here","_law_cell","_law_free"]
theorem scLift:FnScope nLift aLift (defScope sLift):=by constructor<;>first|rfl|decide +kernel
theorem sqN_zero (n:Nat):SqN n (List.replicate n (List.replicate n 0)):=(sq_zero n).n
theorem lf_zero {m:Nat} {tw:Nat→Nat→Nat} {R:Nat→Nat→Int} {dn:Nat→Nat→Prop} (h:∀ x y,¬ dn x y):LfD m tw R dn (List.replicate (2 * m) (List.replicate (2 * m) 0)):=by
 intro a b s t ha hb hs ht
 refine ⟨fun z=>absurd z (h _ _),fun _=>?_⟩
 unfold ent
 rw [getElem?_replicate,if_pos (cell_lt ha hs)]
 simp only [Option.getD_some,getElem?_replicate,if_pos (cell_lt hb ht)]
theorem LfD.mono {m:Nat} {tw:Nat→Nat→Nat} {R:Nat→Nat→Int} {dn dn':Nat→Nat→Prop} {N:List (List Int)} (L:LfD m tw R dn N) (h:∀ x y,x≤y→y < m→(dn x y↔dn' x y)):LfD m tw R dn' N:=by
 intro a b s t ha hb hs ht
 obtain ⟨l1,l2⟩:=L a b s t ha hb hs ht
 have e:=h (min a b) (max a b) (by omega) (by omega)
 exact ⟨fun z=>l1 (e.mpr z),fun z=>l2 fun y=>z (e.mp y)⟩
theorem ok_lift {f fD:Addr} {fd fdD:FuncData} (B:BltL mg) (F:Fun K "_law_lift" "_law_lift" sLift f fd) (DD:Dn K mg "_law_draws" sDraws ["_law_cell","_law_many","_law_base","_law_free"] fD fdD) (GD:FnOk P w K mg base CX0 1 fD fdD ["_law_cell","_law_many","_law_base","_law_free"] spDraws):FnOk P w K mg base CX0 2 f fd aLift (spLift K):=by
 refine F.ok scLift (fun vs H Q E h=>?_) (fun cdv A outer s H vs Q E hr h=>?_)
 ·obtain ⟨wA,m,hs,M,c,fr,rfl,_⟩:=h
  rfl
 ·obtain ⟨wA,m,hs,M,c,fr,rfl,W,hm,q⟩:=h
  obtain ⟨hA,rA,rs,w1,w2,w3,RM⟩:=W.wr.ex
  refine ⟨_,pss_cons (ps_asg (pv 0) (pg_tup rfl (pgs_cons (pg_name (i:=3) scLift.nd rfl (Or.inl rfl)) (pgs_cons (pg_name (i:=4) scLift.nd rfl (Or.inl rfl)) pgs_nil))))
   (pss_cons (ps_set (i:=5) scLift.nd rfl (Or.inl rfl) (pe_callB call_len_seq (by rfl) B.len boot_len (pa_cons (pv 3) pa_nil)))
   (pss_cons (ps_set (i:=6) scLift.nd rfl (Or.inl rfl) (pe_fn DD GD hr rfl (pa_cons (pv 1) (pa_cons (pe_op op_mul (pv 5) (pv 5)) (pa_cons pe_int (pa_cons (pv 2) pa_nil))))))
   (pss_cons (ps_set (i:=7) scLift.nd rfl (Or.inl rfl) (pe_lst pa_nil))
   (pss_cons (ps_for PassesOwn.never rfl (pi_range1 rfl B.range (pa_cons (pe_op op_mul pe_int (pv 5)) pa_nil)) (pg_name (i:=8) scLift.nd rfl (Or.inl rfl))
    (pss_one (ps_expr (pe_bm plainAttrs_list PySem.F.slot_list_append PySem.F.type_list_append mt_append (pv 7) (pa_cons (pe_op op_rep (pe_lst (pa_cons pe_int pa_nil)) (pe_op op_mul pe_int (pv 5))) pa_nil)))))
   (pss_cons (ps_for PassesOwn.never rfl (pi_range1 rfl B.range (pa_cons (pv 5) pa_nil)) (pg_name (i:=8) scLift.nd rfl (Or.inl rfl))
    (pss_one (ps_for PassesOwn.never rfl (pi_range2 rfl B.range (pa_cons (pv 8) (pa_cons (pv 5) pa_nil))) (pg_name (i:=9) scLift.nd rfl (Or.inl rfl))
     (pss_one (ps_for PassesOwn.never rfl (pi_range1 rfl B.range (pa_cons pe_int pa_nil)) (pg_name (i:=10) scLift.nd rfl (Or.inl rfl))
      (pss_cons (ps_set (i:=11) scLift.nd rfl (Or.inl rfl) (pe_op op_mod (pe_op op_add (pv 10) (pe_ix ix_list (pv 6) (pe_op op_add (pe_op op_mul (pv 8) (pv 5)) (pv 9)) (fun _ _=>rfl))) pe_int))
      (pss_cons (ps_set (i:=12) scLift.nd rfl (Or.inl rfl) (pe_op op_add (pv 8) (pe_op op_mul (pv 10) (pv 5))))
      (pss_cons (ps_set (i:=11) scLift.nd rfl (Or.inl rfl) (pe_op op_add (pv 9) (pe_op op_mul (pv 11) (pv 5))))
      (pss_cons (ps_asg (pe_ix ix_list (pe_ix ix_list (pv 4) (pv 8) (fun _ _=>rfl)) (pv 9) (fun _ _=>rfl)) (pg_sub (pe_ix ix_list (pv 7) (pv 12) (fun _ _=>rfl)) (pv 11) set_list))
      (pss_one (ps_asg (pe_ix ix_list (pe_ix ix_list (pv 4) (pv 8) (fun _ _=>rfl)) (pv 9) (fun _ _=>rfl)) (pg_sub (pe_ix ix_list (pv 7) (pv 11) (fun _ _=>rfl)) (pv 12) set_list))))))))))))
   (pss_one (ps_ret (pe_tup (pa_cons (pe_op op_cat (pv 3) (pv 3)) (pa_cons (pv 7) pa_nil)))))))))),?_⟩
  refine ⟨_,rfl,wA,_,rfl,SqT.of w1,rfl,_,_,rfl,_,_,rfl,rfl,?_⟩
  refine ⟨_,rfl,hA,_,rfl,.inl (SqL.of w2),?_⟩
  rw [length_map,W.len]
  have mm:m * m≤16:=Nat.mul_le_mul hm hm
  refine ⟨_,rfl,_,rfl,_,rfl,_,_,rfl,rfl,cmul_l (by omega) (by omega),_,rfl,c,m * m,2,fr,?_,by omega,by decide,.inl (by decide),fun T ds H1 hd _ s1 nT eT=>?_⟩
  ·show [V.int c,V.int ((m:Int) * (m:Int)),_,_]=_
   rw [show (m:Int) * (m:Int)=((m * m:Nat):Int) by push_cast; rfl]
  obtain ⟨ld,bd⟩:=hd
  refine ⟨Nat.zero_le _,fun D hD=>?_⟩
  have nD:H D=none:=s1.free hD
  have e2m:(2:Int) * (m:Int)=((2 * m:Nat):Int):=by push_cast; rfl
  refine ⟨_,rfl,_,_,rfl,rfl,cmul_l (by decide) (by decide),_,rfl,by omega,by omega,?_⟩
  have etn:((2:Int) * (m:Int)).toNat=2 * m:=by omega
  rw [etn]
  refine for_range (n:=2 * m) (fun i σ H'=>∃ (o8:Option V) (rs':List Addr),σ=[some (.ref wA),some (.int c),some (.bl fr),some (.ref hA),some (.ref rA),some (.int (m:Int)),some (.ref T),some (.ref D),o8,none,none,none,none]∧rs'.length=i∧Same H1 H'∧H' D=some (.lst (rs'.map V.ref)) ∧
   RowsAt H' rs' (List.replicate i (List.replicate (2 * m) 0))∧∀ r ∈ rs',H1 r=none∧r≠D) ⟨none,[],rfl,rfl,Same.upd hD,upd_same,⟨rfl,(fun i r x h _=>by cases h),nodup_nil⟩,(fun r hr=>by cases hr)⟩ ?_ ?_
  ·rintro i σ H4 hlt ⟨o8,rs',rfl,l4,c4,eD,R4,o4⟩
   refine ⟨_,rfl,.inl ⟨rfl,_,SqL.of eD⟩,sz1,fun l1 hl1=>?_⟩
   refine ⟨_,rfl,_,_,rfl,rfl,cmul_l (by decide) (by decide),l1,_,_,rfl,rfl,upd_same,by omega,by omega,Nat.le_of_lt (small1000 (by rw [etn]; show 1 * (2 * m)≤1000; omega)),fun l2 hl2=>?_⟩
   rw [etn,zeros_map] at *
   have n21:l2≠l1:=(ne_of_none upd_same hl2).symm
   have hl2':H4 l2=none:=by rw [upd_ne n21] at hl2; exact hl2
   have sm:Same H4 (upd (upd H4 l1 (.lst [.int 0])) l2 (.lst ((List.replicate (2 * m) (0:Int)).map V.int))):=(Same.upd hl1).trans (Same.upd hl2)
   have el:upd (upd H4 l1 (.lst [.int 0])) l2 (.lst ((List.replicate (2 * m) (0:Int)).map V.int)) l2=some (.lst ((List.replicate (2 * m) (0:Int)).map V.int)):=upd_same
   generalize upd (upd H4 l1 (.lst [.int 0])) l2 (.lst ((List.replicate (2 * m) (0:Int)).map V.int))=H5 at sm el ⊢
   have l2D:l2≠D:=(ne_of_none eD hl2').symm
   have l2r:l2 ∉ rs':=rows_out R4 hl2'
   refine ⟨D,_,_,rfl,rfl,sm _ _ eD,small1000 (by rw [length_map]; omega),?_⟩
   refine ⟨_,rs'++[l2],rfl,by rw [length_append,l4]; rfl,fun b o e=>?_,by rw [map_append]; exact upd_same,?_,?_⟩
   ·rw [upd_ne (ne_of_none e hD)]
    exact sm _ _ (c4 _ _ e)
   ·have R5:RowsAt H5 (rs'++[l2]) (List.replicate i (List.replicate (2 * m) 0)++[List.replicate (2 * m) 0]):=R4.snoc (fun r _ o e=>sm r o e) el l2r
    rw [←List.replicate_succ'] at R5
    refine R5.keep fun r hr o e=>?_
    have:r≠D:=by
     rcases mem_append.mp hr with z | z
     ·exact (o4 r z).2
     ·rw [mem_singleton.mp z]; exact l2D
    rw [upd_ne this]
    exact e
   ·intro r hr
    rcases mem_append.mp hr with z | z
    ·exact o4 r z
    ·rw [mem_singleton.mp z]
     exact ⟨c4.free hl2',l2D⟩
  ·rintro σ H4 ⟨o8,rs',rfl,l4,c4,eD,R4,o4⟩
   obtain ⟨tw,htw⟩:∃ tw:Nat→Nat→Nat,tw=fun u v=>((ds[u * m+v]?).getD 0).toNat:=⟨_,rfl⟩
   have ix:∀ {u v:Nat},u < m→v < m→u * m+v < m * m:=fun {u v} hu hv=>by
    have h1:(u+1) * m≤m * m:=Nat.mul_le_mul_right m hu
    rw [Nat.add_mul,Nat.one_mul] at h1
    omega
   have twd:∀ {u v:Nat},u < m→v < m→ds[u * m+v]? = some ((tw u v:Nat):Int)∧tw u v < 2:=fun {u v} hu hv=>by
    obtain ⟨d,ed⟩:=get_lt (l:=ds) (i:=u * m+v) (by rw [ld]; exact ix hu hv)
    obtain ⟨d0,d1⟩:=bd d (mem_of_getElem? ed)
    have e:tw u v=d.toNat:=by rw [htw]; show ((ds[u * m+v]?).getD 0).toNat=_; rw [ed]; rfl
    rw [e,ed]
    exact ⟨by congr 1; omega,by omega⟩
   clear htw
   have t4:=s1.trans c4
   refine ⟨_,rfl,(m:Int),rfl,by omega,by omega,for_range (n:=m) (fun u σ H'=>∃ (o8 o9 o10 o11 o12:Option V) (N:List (List Int)),σ=[some (.ref wA),some (.int c),some (.bl fr),some (.ref hA),some (.ref rA),some (.int (m:Int)),some (.ref T),some (.ref D),o8,o9,o10,o11,o12]∧Same H1 H'∧H' D=some (.lst (rs'.map V.ref)) ∧
    RowsAt H' rs' N∧SqN (2 * m) N∧LfD m tw (ent M) (fun x _=>x < u) N) ⟨_,_,_,_,_,_,rfl,c4,eD,R4,sqN_zero _,lf_zero fun x y z=>absurd z (Nat.not_lt_zero _)⟩ ?_ ?_⟩
   ·rintro u σ H5 hu ⟨o8,o9,o10,o11,o12,N,rfl,c5,eD5,R5,S5,L5⟩
    refine ⟨_,rfl,_,rfl,(0+(u:Nat):Int),(m:Int),rfl,⟨by omega,by omega,by omega,by omega⟩,?_⟩
    have eu:((m:Int) - (0+(u:Nat):Int)).toNat=m - u:=by omega
    rw [eu]
    refine for_range (lo:=(0+(u:Nat):Int)) (n:=m - u) (fun i σ H'=>∃ (o9 o10 o11 o12:Option V) (N:List (List Int)),σ=[some (.ref wA),some (.int c),some (.bl fr),some (.ref hA),some (.ref rA),some (.int (m:Int)),some (.ref T),some (.ref D),some (.int (0+(u:Nat):Int)),o9,o10,o11,o12]∧Same H1 H'∧H' D=some (.lst (rs'.map V.ref)) ∧
     RowsAt H' rs' N∧SqN (2 * m) N∧LfD m tw (ent M) (fun x y=>x < u ∨ (x=u∧y < u+i)) N) ⟨_,_,_,_,N,rfl,c5,eD5,R5,S5,L5.mono fun x y h1 h2=>by omega⟩ ?_ ?_
    ·rintro i σ H6 hi ⟨o9,o10,o11,o12,N,rfl,c6,eD6,R6,S6,L6⟩
     have hv:u+i < m:=by omega
     have evi:(0+(u:Nat)+(i:Nat):Int)=((u+i:Nat):Int):=by omega
     obtain ⟨ed,tlt⟩:=twd hu hv
     obtain ⟨ru,xu,gu1,gu2,gu3⟩:=RM.get (i:=u) (by rw [RM.len,W.sq.len]; exact hu)
     have lxu:=(W.sq.row u xu gu2)
     obtain ⟨z,ez⟩:=get_lt (l:=xu) (i:=u+i) (by rw [lxu.1]; exact hv)
     have ezn:ent M u (u+i)=z:=by rw [ent_row gu2,getD_eq_getElem?_getD,ez]; rfl
     have hz:z.natAbs≤2 * wMax:=lxu.2 z (mem_of_getElem? ez)
     have L7:=lift_pair (u:=u) (v:=u+i) tlt (by omega) hv S6 (by rw [ezn]; exact hz) (by omega) L6
     have aT:atI (ds.map V.int) ((0+(u:Nat):Int) * (m:Int)+(0+(u:Nat)+(i:Nat):Int))=some (.int ((tw u (u+i):Nat):Int)):=by
      rw [show (0+(u:Nat):Int) * (m:Int)+(0+(u:Nat)+(i:Nat):Int)=((u * m+(u+i):Nat):Int) by rw [Int.zero_add]; push_cast; rfl]
      exact atI_nat (by rw [getElem?_map,ed]; rfl)
     have aru:atI (rs.map V.ref) (0+(u:Nat):Int)=some (.ref ru):=by rw [Int.zero_add]; exact at_ref gu1
     have axv:atI (xu.map V.int) (0+(u:Nat)+(i:Nat):Int)=some (.int z):=by rw [evi]; exact atI_nat (by rw [getElem?_map,ez]; rfl)
     refine ⟨2,rfl,by decide,by decide,for_range (n:=2) (fun sd σ H'=>∃ (o10 o11 o12:Option V),σ=[some (.ref wA),some (.int c),some (.bl fr),some (.ref hA),some (.ref rA),some (.int (m:Int)),some (.ref T),some (.ref D),some (.int (0+(u:Nat):Int)),some (.int (0+(u:Nat)+(i:Nat):Int)),o10,o11,o12]∧Same H1 H'∧H' D=some (.lst (rs'.map V.ref)) ∧
      RowsAt H' rs' ((List.range sd).foldl (fun N s=>liftS m tw (ent M) N u (u+i) s) N)∧SqN (2 * m) ((List.range sd).foldl (fun N s=>liftS m tw (ent M) N u (u+i) s) N)) ⟨_,_,_,rfl,c6,eD6,R6,S6⟩ ?_ ?_⟩
     ·rintro sd σ H7 hsd ⟨o10,o11,o12,rfl,c7,eD7,R7,S7⟩
      rw [range_succ,foldl_append]
      generalize (List.range sd).foldl (fun N s=>liftS m tw (ent M) N u (u+i) s) N=Nn at R7 S7
      show _
      have t7:=s1.trans c7
      obtain ⟨th,eth⟩:∃ th:Nat,th=(sd+tw u (u+i)) % 2:=⟨_,rfl⟩
      have hth:th < 2:=by rw [eth]; exact Nat.mod_lt _ (by decide)
      have ethI:((0+(sd:Nat):Int)+((tw u (u+i):Nat):Int)) % 2=((th:Nat):Int):=by rw [eth]; omega
      have ehe:(0+(u:Nat):Int)+(0+(sd:Nat):Int) * (m:Int)=((u+sd * m:Nat):Int):=by rw [Int.zero_add,Int.zero_add]; push_cast; rfl
      have eth2:(0+(u:Nat)+(i:Nat):Int)+((th:Nat):Int) * (m:Int)=((u+i+th * m:Nat):Int):=by rw [Int.zero_add]; push_cast; rfl
      have c1:=cell_lt (m:=m) hu hsd
      have c2:=cell_lt (m:=m) hv hth
      refine ⟨_,rfl,_,rfl,_,rfl,_,rfl,_,_,rfl,rfl,cmul_l (by omega) (by omega),_,rfl,_,_,rfl,rfl,T,_,_,_,rfl,rfl,SqL.of (c7 _ _ eT),aT,_,_,rfl,rfl,_,_,rfl,rfl,(by show (0:Int) < 2; decide),?_⟩
      refine ⟨_,rfl,_,rfl,_,rfl,_,_,rfl,rfl,cmul_l (by omega) (by omega),_,_,rfl,rfl,?_⟩
      refine ⟨_,rfl,_,rfl,_,rfl,_,_,rfl,rfl,cmul_l (by show _ < ((0+(sd:Nat):Int)+((tw u (u+i):Nat):Int)) % 2; omega) (by show ((0+(sd:Nat):Int)+((tw u (u+i):Nat):Int)) % 2 < _; omega),_,_,rfl,rfl,?_⟩
      dsimp only
      rw [ethI,ehe,eth2]
      obtain ⟨ra,xa,ga1,ga2,ga3⟩:=R7.get (i:=u+sd * m) (by rw [R7.len,S7.len]; exact c1)
      have hra:=o4 ra (mem_of_getElem? ga1)
      have lxa:=(S7.row _ xa ga2).1
      have x7:=t7 _ _ gu3
      refine ⟨_,rfl,_,rfl,rA,_,_,_,rfl,rfl,SqL.of (t7 _ _ w3),aru,_,rfl,ru,_,_,_,rfl,rfl,SqL.of x7,axv,?_⟩
      refine ⟨_,rfl,_,rfl,D,_,_,_,rfl,rfl,SqL.of eD7,at_ref ga1,_,rfl,ra,_,_,u+i+th * m,rfl,rfl,ga3,by rw [length_map,lxa]; exact ixN_nat c2,?_⟩
      rw [←map_set]
      have R8:=R7.put (j:=u+i+th * m) (z:=z) ga1 ga2
      have c8:Same H1 (upd H7 ra (.lst ((xa.set (u+i+th * m) z).map V.int))):=fun b o e=>by rw [upd_ne (ne_of_none e hra.1)]; exact c7 _ _ e
      have eD8:upd H7 ra (.lst ((xa.set (u+i+th * m) z).map V.int)) D=_:=(upd_ne hra.2.symm).trans eD7
      generalize upd H7 ra (.lst ((xa.set (u+i+th * m) z).map V.int))=H8 at R8 c8 eD8 ⊢
      have S8:=S7.put (u+sd * m) (u+i+th * m) hz
      have t8:=s1.trans c8
      obtain ⟨rb,xb,gb1,gb2,gb3⟩:=R8.get (i:=u+i+th * m) (by rw [R8.len,S8.len]; exact c2)
      have hrb:=o4 rb (mem_of_getElem? gb1)
      have lxb:=(S8.row _ xb gb2).1
      refine ⟨_,rfl,_,rfl,rA,_,_,_,rfl,rfl,SqL.of (t8 _ _ w3),aru,_,rfl,ru,_,_,_,rfl,rfl,SqL.of (t8 _ _ gu3),axv,?_⟩
      refine ⟨_,rfl,_,rfl,D,_,_,_,rfl,rfl,SqL.of eD8,at_ref gb1,_,rfl,rb,_,_,u+sd * m,rfl,rfl,gb3,by rw [length_map,lxb]; exact ixN_nat c1,?_⟩
      rw [←map_set]
      have R9:=R8.put (j:=u+sd * m) (z:=z) gb1 gb2
      have S9:=S8.put (u+i+th * m) (u+sd * m) hz
      refine ⟨_,_,_,rfl,fun b o e=>by rw [upd_ne (ne_of_none e hrb.1)]; exact c8 _ _ e,(upd_ne hrb.2.symm).trans eD8,?_,?_⟩
      ·show RowsAt _ _ (liftS m tw (ent M) Nn u (u+i) sd)
       unfold liftS
       rw [ezn,←eth]
       exact R9
      ·show SqN _ (liftS m tw (ent M) Nn u (u+i) sd)
       unfold liftS
       rw [ezn,←eth]
       exact S9
     ·rintro σ H7 ⟨o10,o11,o12,rfl,c7,eD7,R7,S7⟩
      refine ⟨_,_,_,_,_,rfl,c7,eD7,R7,S7,?_⟩
      exact LfD.mono (dn:=fun x y=>(x < u ∨ (x=u∧y < u+i)) ∨ (x=u∧y=u+i)) L7 fun x y h1 h2=>by omega
    ·rintro σ H6 ⟨o9,o10,o11,o12,N,rfl,c6,eD6,R6,S6,L6⟩
     exact ⟨_,_,_,_,_,N,rfl,c6,eD6,R6,S6,L6.mono fun x y h1 h2=>by omega⟩
   ·rintro σ H5 ⟨o8,o9,o10,o11,o12,N,rfl,c5,eD5,R5,S5,L5⟩
    have t5:=s1.trans c5
    refine ⟨_,rfl,_,rfl,hA,hA,_,_,rfl,rfl,t5 _ _ w2,t5 _ _ w2,Nat.le_of_lt (small1000 (by rw [length_map,W.len]; omega)),fun pA hpA=>?_⟩
    have s6:Same H5 (upd H5 pA (.lst (hs.map V.int++hs.map V.int))):=Same.upd hpA
    have e6:upd H5 pA (.lst (hs.map V.int++hs.map V.int)) pA=some (.lst ((hs++hs).map V.int)):=by rw [upd_same,map_append]
    generalize upd H5 pA (.lst (hs.map V.int++hs.map V.int))=H6 at s6 e6 ⊢
    refine ⟨_,rfl,sz2,fun tA htA=>?_⟩
    have s7:Same H6 (upd H6 tA (.tup [.ref pA,.ref D])):=Same.upd htA
    refine q tA N _ ((t5.trans s6).trans s7) ⟨⟨pA,D,rs',upd_same,s7 _ _ e6,s7 _ _ (s6 _ _ eD5),R5.keep fun r _ o e=>s7 _ _ (s6 _ _ e)⟩,by rw [length_append,W.len]; omega,S5,fun z hz=>W.hb z (by simpa using hz)⟩ (lf_sym L5 fun x y h1 h2=>by show x < m; omega)
theorem WebAt.wz {H:Hp} {p hA rA:Addr} {rs:List Addr} {n:Nat} {hs:List Int} {M:List (List Int)} (W:WebAt H p hA rA rs n hs M):Wz H p n hs M :=
 ⟨⟨hA,rA,rs,W.tup,W.hue,W.rws,W.row⟩,W.len,W.sq.n,fun z hz=>by have:=W.pos z hz; omega⟩
theorem renM_sq {n:Nat} {M:List (List Int)} {os:List Int} (S:SqN n M) (hp:os.Perm (rI n)):SqN n (renM M os):=by
 have lo:=os_len hp
 refine ⟨by unfold renM; rw [length_map,lo],fun i x hx=>?_⟩
 unfold renM at hx
 obtain ⟨o,ho,rfl⟩:=map_get hx
 refine ⟨by rw [ren_len,lo],fun z hz=>?_⟩
 obtain ⟨a,rfl,ha⟩:=os_at hp ho
 obtain ⟨W,hW⟩:=get_lt (l:=M) (i:=a) (by rw [S.len]; exact ha)
 rw [Int.toNat_natCast,getD_some hW] at hz
 exact (S.row a W hW).2 z ((ren_perm hp (S.row a W hW).1).mem_iff.mp hz)
theorem renM_bd {n:Nat} {M:List (List Int)} {os:List Int} (S:Sq n M) (hp:os.Perm (rI n)) {i:Nat} {x:List Int} (hx:(renM M os)[i]? = some x):∀ z ∈ x,z.natAbs≤wMax:=by
 unfold renM at hx
 obtain ⟨o,ho,rfl⟩:=map_get hx
 intro z hz
 obtain ⟨a,rfl,ha⟩:=os_at hp ho
 obtain ⟨W,hW⟩:=get_lt (l:=M) (i:=a) (by rw [S.len]; exact ha)
 rw [Int.toNat_natCast,getD_some hW] at hz
 exact (S.row a W hW).2 z ((ren_perm hp (S.row a W hW).1).mem_iff.mp hz)
theorem ren_hb {n:Nat} {hs os:List Int} (hp:os.Perm (rI n)) (lh:hs.length=n) {Pz:Int→Prop} (h:∀ z ∈ hs,Pz z):∀ z ∈ renH hs os,Pz z:=fun z hz=>h z ((ren_perm hp lh).mem_iff.mp hz)
def spTwo (K:Frag):Sp:=fun vs H Q _=>∃ (a:Addr) (ns:List Int) (mo:Nat),vs=[.ref a,.int (mo:Int)]∧SqL K H a (ns.map V.int)∧mo≤8 ∧
 ∀ (p wA oA:Addr) (n m:Nat) (hs hs':List Int) (M M':List (List Int)) (H':Hp),Same H H'→H' p=some (.tup [.ref wA,.ref oA])→Wz H' wA n hs M→Wz H' oA m hs' M'→n≤mo→m≤mo→(cellV ns 0 / 14 % 5=1→∃ os,os.Perm (rI n)∧os=ordF (cellV ns 4) n (decide (V.int (cellV ns 0 % 2)=V.int 0))∧m=n∧hs'=renH hs os∧M'=renM M os)→SymF n (ent M)→SymF m (ent M')→Q (.ref p) H'
abbrev nTwo:List Str:=["_law_script","_law_most","_law_first","_law_free","_law_many","_law_way","_law_small","_law_web_here","_law_other","_law_u","_law_v"]
theorem scTwo:FnScope nTwo ["_law_script","_law_most"] (defScope sTwo):=by constructor<;>first|rfl|decide +kernel
theorem ok_two {f fC fW fO fL fR:Addr} {fd fdC fdW fdO fdL fdR:FuncData} (B:BltL mg) (F:Fun K "_law_two" "_law_two" sTwo f fd)
  (DC:Dn K mg "_law_cell_at" sCellAt ["_law_script","_law_k"] fC fdC) (GC:FnOk P w K mg base CX0 1 fC fdC ["_law_script","_law_k"] (spCell K))
  (DW:Dn K mg "_law_web" sWebP aWebP fW fdW) (GW:FnOk P w K mg base CX0 2 fW fdW aWebP (spWebP K))
  (DO:Dn K mg "_law_order" sOrder aOrder fO fdO) (GO:FnOk P w K mg base CX0 2 fO fdO aOrder spOrder)
  (DL:Dn K mg "_law_lift" sLift aLift fL fdL) (GL:FnOk P w K mg base CX0 2 fL fdL aLift (spLift K))
  (DR:Dn K mg "_law_renamed" sLRen ["_law_web_here","_law_order_here"] fR fdR) (GR:FnOk P w K mg base CX0 1 fR fdR ["_law_web_here","_law_order_here"] spLRen) :
  FnOk P w K mg base CX0 3 f fd ["_law_script","_law_most"] (spTwo K):=by
 refine F.ok scTwo (fun vs H Q E h=>?_) (fun cdv A outer s H vs Q E hr h=>?_)
 ·obtain ⟨a,ns,mo,rfl,_⟩:=h
  rfl
 ·obtain ⟨a,ns,mo,rfl,hS,hmo,q⟩:=h
  have r1:=hr.mono (j:=1) (by decide)
  refine ⟨_,pss_cons (ps_set (i:=2) scTwo.nd rfl (Or.inl rfl) (pe_fn DC GC r1 rfl (pa_cons (pv 0) (pa_cons pe_int pa_nil))))
   (pss_cons (ps_set (i:=3) scTwo.nd rfl (Or.inl rfl) (pe_cmpR op_eq (pe_op op_mod (pv 2) pe_int) pe_int (nomark _)))
   (pss_cons (ps_set (i:=4) scTwo.nd rfl (Or.inl rfl) (pe_op op_mod (pe_op op_fdiv (pv 2) pe_int) (pe_op op_add (pv 1) pe_int)))
   (pss_cons (ps_set (i:=5) scTwo.nd rfl (Or.inl rfl) (pe_op op_mod (pe_op op_fdiv (pv 2) pe_int) pe_int))
   (pss_cons (ps_if (pt_cmpR op_eq (pv 5) pe_int (nomark _))
    (pss_cons (ps_set (i:=6) scTwo.nd rfl (Or.inl rfl) (pe_fn DW GW hr rfl (pa_cons (pv 0) (pa_cons pe_int (pa_cons (pe_op op_fdiv (pv 4) pe_int) (pa_cons (pv 3) pa_nil))))))
    (pss_cons (ps_set (i:=7) scTwo.nd rfl (Or.inl rfl) (pe_fn DL GL hr rfl (pa_cons (pv 6) (pa_cons (pe_fn DC GC r1 rfl (pa_cons (pv 0) (pa_cons pe_int pa_nil))) (pa_cons (pv 3) pa_nil)))))
    (pss_cons (ps_set (i:=8) scTwo.nd rfl (Or.inl rfl) (pe_fn DL GL hr rfl (pa_cons (pv 6) (pa_cons (pe_fn DC GC r1 rfl (pa_cons (pv 0) (pa_cons pe_int pa_nil))) (pa_cons (pv 3) pa_nil)))))
    (pss_one (ps_ret (pe_tup (pa_cons (pv 7) (pa_cons (pe_fn DR GR r1 rfl (pa_cons (pv 8) (pa_cons (pe_fn DO GO hr rfl (pa_cons (pe_fn DC GC r1 rfl (pa_cons (pv 0) (pa_cons pe_int pa_nil))) (pa_cons (pe_callB call_len_seq (by rfl) B.len boot_len (pa_cons (pe_ix ix_tup (pv 8) pe_int (fun _ _=>rfl)) pa_nil)) (pa_cons (pv 3) pa_nil)))) pa_nil))) pa_nil)))))))) pss_nil)
   (pss_cons (ps_set (i:=7) scTwo.nd rfl (Or.inl rfl) (pe_fn DW GW hr rfl (pa_cons (pv 0) (pa_cons pe_int (pa_cons (pv 4) (pa_cons (pv 3) pa_nil))))))
   (pss_cons (ps_if (pt_cmpR op_eq (pv 5) pe_int (nomark _))
    (pss_one (ps_ret (pe_tup (pa_cons (pv 7) (pa_cons (pe_fn DW GW hr rfl (pa_cons (pv 0) (pa_cons pe_int (pa_cons (pe_op op_mod (pe_op op_fdiv (pv 2) pe_int) (pe_op op_add (pv 1) pe_int)) (pa_cons (pv 3) pa_nil))))) pa_nil))))) pss_nil)
   (pss_cons (ps_set (i:=8) scTwo.nd rfl (Or.inl rfl) (pe_fn DR GR r1 rfl (pa_cons (pv 7) (pa_cons (pe_fn DO GO hr rfl (pa_cons (pe_fn DC GC r1 rfl (pa_cons (pv 0) (pa_cons pe_int pa_nil))) (pa_cons (pv 4) (pa_cons (pv 3) pa_nil)))) pa_nil))))
   (pss_mid (ps_if (PW.pt (pw_and (pt_cmpR op_eq (pv 5) pe_int (nomark _)) (pw_and1 (pt_cmpR op_gt (pv 4) pe_int (nomark _)))))
    (pss_cons (ps_set (i:=9) scTwo.nd rfl (Or.inl rfl) (pe_op op_mod (pe_fn DC GC r1 rfl (pa_cons (pv 0) (pa_cons pe_int pa_nil))) (pv 4)))
    (pss_cons (ps_set (i:=10) scTwo.nd rfl (Or.inl rfl) (pe_op op_mod (pe_fn DC GC r1 rfl (pa_cons (pv 0) (pa_cons pe_int pa_nil))) (pv 4)))
    (pss_cons (ps_asg (pe_op op_add (pe_ix ix_list (pe_ix ix_list (pe_ix ix_tup (pv 8) pe_int (fun _ _=>rfl)) (pv 9) (fun _ _=>rfl)) (pv 10) (fun _ _=>rfl)) pe_int) (pg_sub (pe_ix ix_list (pe_ix ix_tup (pv 8) pe_int (fun _ _=>rfl)) (pv 9) (fun _ _=>rfl)) (pv 10) set_list))
    (pss_one (ps_asg (pe_ix ix_list (pe_ix ix_list (pe_ix ix_tup (pv 8) pe_int (fun _ _=>rfl)) (pv 9) (fun _ _=>rfl)) (pv 10) (fun _ _=>rfl)) (pg_sub (pe_ix ix_list (pe_ix ix_tup (pv 8) pe_int (fun _ _=>rfl)) (pv 10) (fun _ _=>rfl)) (pv 9) set_list)))))) pss_nil)
   (pss_mid (ps_if (PW.pt (pw_and (pt_cmpR op_eq (pv 5) pe_int (nomark _)) (pw_and1 (pt_cmpR op_gt (pv 4) pe_int (nomark _)))))
    (pss_one (ps_asg (pe_op op_mod (pe_fn DC GC r1 rfl (pa_cons (pv 0) (pa_cons pe_int pa_nil))) pe_int) (pg_sub (pe_ix ix_tup (pv 8) pe_int (fun _ _=>rfl)) (pe_op op_mod (pe_fn DC GC r1 rfl (pa_cons (pv 0) (pa_cons pe_int pa_nil))) (pv 4)) set_list))) pss_nil)
   (pss_one (ps_ret (pe_tup (pa_cons (pv 7) (pa_cons (pv 8) pa_nil)))))))))))))),?_⟩
  refine ⟨_,rfl,a,ns,0,rfl,hS,by decide,fun c0 hc0=>?_⟩
  rw [←hc0] at q
  refine ⟨_,rfl,_,_,rfl,rfl,(by show (0:Int) < 2; decide),rfl,?_⟩
  generalize hfr:decide ((fun i j=>V.int (i % j)) c0 2=V.int 0)=fr
  have hfr:decide (V.int (c0 % 2)=V.int 0)=fr:=hfr
  rw [hfr] at q
  refine ⟨_,rfl,_,_,rfl,rfl,⟨by decide,by decide⟩,_,rfl,_,_,rfl,rfl,_,_,rfl,rfl,(by show (0:Int) < (mo:Int)+1; omega),?_⟩
  obtain ⟨n,en⟩:=Int.eq_ofNat_of_zero_le (Int.emod_nonneg (c0 / 2) (by omega:((mo:Int)+1)≠0))
  have hnm:n≤mo:=by
   have:=Int.emod_lt_of_pos (c0 / 2) (by omega:(0:Int) < (mo:Int)+1)
   omega
  have hn:n≤8:=by omega
  refine ⟨_,rfl,_,_,rfl,rfl,⟨by decide,by decide⟩,_,_,rfl,rfl,(by show (0:Int) < 5; decide),?_⟩
  dsimp only
  rw [en]
  refine ⟨_,rfl,rfl,_,rfl,?_⟩
  by_cases h4:c0 / 14 % 5=4
  ·refine itDP (by rw [h4]) ?_
   refine ⟨_,rfl,_,rfl,_,_,rfl,rfl,⟨by decide,by decide⟩,_,rfl,a,ns,1,n / 2,fr,?_,hS,by decide,by omega,fun pS hAs rAs rss hs M H1 s1 nw WS=>?_⟩
   ·show [V.ref a,V.int 1,V.int ((n:Int) / 2),V.bl fr]=_
    rw [show (n:Int) / 2=((n / 2:Nat):Int) by omega]
   have Z1:=WS.wz
   refine ⟨_,rfl,_,rfl,a,ns,5,rfl,s1.seq hS,by decide,fun c5 _=>?_⟩
   refine ⟨_,rfl,pS,n / 2,hs,M,c5,fr,rfl,Z1,by omega,fun p1 N1 H2 s2 Z2 y1=>?_⟩
   have Z12:=Z1.same s2
   have t2:=s1.trans s2
   refine ⟨_,rfl,_,rfl,a,ns,6,rfl,t2.seq hS,by decide,fun c6 _=>?_⟩
   refine ⟨_,rfl,pS,n / 2,hs,M,c6,fr,rfl,Z12,by omega,fun p2 N2 H3 s3 Z3 y2=>?_⟩
   have t3:=t2.trans s3
   have Z23:=Z2.same s3
   obtain ⟨hA3,rA3,rs3,w1,w2,w3,R3⟩:=Z3.wr.ex
   refine ⟨_,rfl,_,rfl,_,rfl,a,ns,4,rfl,t3.seq hS,by decide,fun c4 _=>?_⟩
   refine ⟨_,rfl,p2,_,_,_,rfl,rfl,SqT.of w1,rfl,hA3,_,rfl,.inl (SqL.of w2),?_⟩
   rw [length_map,Z3.len]
   refine ⟨_,rfl,c4,2 * (n / 2),fr,rfl,by omega,fun O os H4 s4 nO eO pm _=>?_⟩
   have Z34:=Z3.same s4
   refine ⟨p2,O,2 * (n / 2),hs++hs,N2,os,rfl,Z34.wr,Z3.len,Z3.sq,by omega,eO,pm,fun pR H5 s5 WN5=>?_⟩
   obtain ⟨hR,rR,rsR,g1,g2,g3,RR,_⟩:=WN5.ex
   refine ⟨sz2,fun tA htA=>?_⟩
   have s6:Same H5 (upd H5 tA (.tup [.ref p1,.ref pR])):=Same.upd htA
   have s36:=(s4.trans s5).trans s6
   have ZR:Wz H5 pR (2 * (n / 2)) (renH (hs++hs) os) (renM N2 os):=⟨⟨hR,rR,rsR,g1,g2,g3,RR⟩,by rw [ren_len,os_len pm],renM_sq Z3.sq pm,ren_hb pm Z3.len Z3.hb⟩
   have rw2:∀ ws ∈ N2,ws.length=2 * (n / 2):=fun ws hws=>by
    obtain ⟨j,hj⟩:=mem_iff_getElem?.mp hws
    exact (Z3.sq.row j ws hj).1
   refine q tA p1 pR _ _ _ _ _ _ _ (t3.trans s36) upd_same (Z23.same s36) (ZR.same s6) (by omega) (by omega) (fun z=>by omega) y1 (sym_ren pm y2)
  ·refine itDN (fun z=>h4 (V.int.inj z)) ?_
   refine ⟨_,rfl,_,rfl,_,rfl,a,ns,1,n,fr,rfl,hS,by decide,hn,fun p1 hA1 rA1 rs1 hs M H1 s1 nw W1=>?_⟩
   have Z1:=W1.wz
   refine ⟨_,rfl,rfl,_,rfl,?_⟩
   by_cases h0:c0 / 14 % 5=0
   ·refine itDP (by rw [h0]) ?_
    refine ⟨_,rfl,_,rfl,_,rfl,_,_,rfl,rfl,⟨by decide,by decide⟩,_,rfl,_,_,rfl,rfl,_,_,rfl,rfl,(by show (0:Int) < (mo:Int)+1; omega),?_⟩
    obtain ⟨n',en'⟩:=Int.eq_ofNat_of_zero_le (Int.emod_nonneg (c0 / 70) (by omega:((mo:Int)+1)≠0))
    have hnm':n'≤mo:=by
     have:=Int.emod_lt_of_pos (c0 / 70) (by omega:(0:Int) < (mo:Int)+1)
     omega
    have hn':n'≤8:=by omega
    refine ⟨_,rfl,a,ns,4,n',fr,by rw [←en']; rfl,s1.seq hS,by decide,hn',fun p2 hA2 rA2 rs2 hs' M' H2 s2 nw2 W2=>?_⟩
    refine ⟨sz2,fun tA htA=>?_⟩
    have s3:Same H2 (upd H2 tA (.tup [.ref p1,.ref p2])):=Same.upd htA
    exact q tA p1 p2 _ _ _ _ _ _ _ ((s1.trans s2).trans s3) upd_same ((Z1.same s2).same s3) (W2.wz.same s3) hnm hnm' (fun z=>by omega) (sq_symF W1.sq) (sq_symF W2.sq)
   ·refine itDN (fun z=>h0 (V.int.inj z)) ?_
    refine ⟨_,rfl,_,rfl,a,ns,4,rfl,s1.seq hS,by decide,fun c4 hc4=>?_⟩
    refine ⟨_,rfl,_,rfl,c4,n,fr,rfl,hn,fun O os H2 s2 nO eO pm eos=>?_⟩
    have Z12:=Z1.same s2
    refine ⟨p1,O,n,hs,M,os,rfl,Z12.wr,Z1.len,Z1.sq,hn,eO,pm,fun pR H3 s3 WN3=>?_⟩
    have lo:=os_len pm
    have lRen:(renH hs os).length=n:=by rw [ren_len,lo]
    have hbR:=ren_hb pm Z1.len Z1.hb
    have t2:=s1.trans s2
    have rwM:∀ ws ∈ M,ws.length=n:=fun ws hws=>by
     obtain ⟨j,hj⟩:=mem_iff_getElem?.mp hws
     exact (Z1.sq.row j ws hj).1
    refine ⟨fun σ' H'=>∃ (o9 o10:Option V) (M':List (List Int)),σ'=[some (.ref a),some (.int (mo:Int)),some (.int c0),some (.bl fr),some (.int (n:Int)),some (.int (c0 / 14 % 5)),none,some (.ref p1),some (.ref pR),o9,o10]∧Same H2 H'∧WN H2 H' pR (renH hs os) M'∧SqN n M'∧SymF n (ent M')∧(c0 / 14 % 5=1→M'=renM M os),?_,?_⟩
    ·obtain ⟨hR,rR,rsR,g1,g2,g3,RR,nw3,d1,d2,d3⟩:=WN3.ex
     have nh:∀ r ∈ rsR,hR≠r:=fun r hr q=>by subst q; exact d2 hr
     have nr:∀ r ∈ rsR,rR≠r:=fun r hr q=>by subst q; exact d3 hr
     have keep0:∃ (o9 o10:Option V) (M':List (List Int)),([some (.ref a),some (.int (mo:Int)),some (.int c0),some (.bl fr),some (.int (n:Int)),some (.int (c0 / 14 % 5)),none,some (.ref p1),some (.ref pR),none,none]:L2.St)=[some (.ref a),some (.int (mo:Int)),some (.int c0),some (.bl fr),some (.int (n:Int)),some (.int (c0 / 14 % 5)),none,some (.ref p1),some (.ref pR),o9,o10]∧Same H2 H3∧WN H2 H3 pR (renH hs os) M'∧SqN n M'∧SymF n (ent M')∧(c0 / 14 % 5=1→M'=renM M os) :=
      ⟨none,none,_,rfl,s3,WN3,renM_sq Z1.sq pm,sym_ren pm (sq_symF W1.sq),fun _=>rfl⟩
     refine ⟨_,rfl,rfl,_,rfl,?_⟩
     by_cases h2:c0 / 14 % 5=2
     ·refine itDP (by rw [h2]) ?_
      refine ⟨_,rfl,_,_,rfl,rfl,_,rfl,?_⟩
      by_cases hn0:(0:Int) < (n:Int)
      ·refine itDP hn0 ?_
       have t3:=t2.trans s3
       refine ⟨_,rfl,a,ns,5,rfl,t3.seq hS,by decide,fun c5 _=>⟨_,rfl,_,_,rfl,rfl,hn0,?_⟩⟩
       refine ⟨_,rfl,a,ns,6,rfl,t3.seq hS,by decide,fun c6 _=>⟨_,rfl,_,_,rfl,rfl,hn0,?_⟩⟩
       obtain ⟨u,eu⟩:=Int.eq_ofNat_of_zero_le (Int.emod_nonneg c5 (by omega:(n:Int)≠0))
       obtain ⟨v,ev⟩:=Int.eq_ofNat_of_zero_le (Int.emod_nonneg c6 (by omega:(n:Int)≠0))
       have hu:u < n:=by have:=Int.emod_lt_of_pos c5 hn0; omega
       have hv:v < n:=by have:=Int.emod_lt_of_pos c6 hn0; omega
       dsimp only
       rw [eu,ev]
       have SR:=renM_sq Z1.sq pm
       obtain ⟨ru,xu,gu1,gu2,gu3⟩:=RR.get (i:=u) (by rw [RR.len,SR.len]; exact hu)
       have lxu:=(SR.row u xu gu2).1
       obtain ⟨z,ez⟩:=get_lt (l:=xu) (i:=v) (by omega)
       have hz:(z+1).natAbs≤2 * wMax:=by
        have h1:=renM_bd W1.sq pm gu2 z (mem_of_getElem? ez)
        have h2':wMax=1000000000000000000000:=by decide
        omega
       have nru:H2 ru=none:=nw3 ru (by simp [mem_of_getElem? gu1])
       have az:atI (xu.map V.int) (v:Int)=some (.int z):=atI_nat (by rw [getElem?_map,ez]; rfl)
       refine ⟨_,rfl,pR,_,_,_,rfl,rfl,SqT.of g1,rfl,_,rfl,rR,_,_,_,rfl,rfl,SqL.of g3,at_ref gu1,_,rfl,ru,_,_,_,rfl,rfl,SqL.of gu3,az,_,_,rfl,rfl,?_⟩
       refine ⟨_,rfl,pR,_,_,_,rfl,rfl,SqT.of g1,rfl,_,rfl,rR,_,_,_,rfl,rfl,SqL.of g3,at_ref gu1,_,rfl,ru,_,_,v,rfl,rfl,gu3,by rw [length_map,lxu]; exact ixN_nat hv,?_⟩
       rw [←map_set]
       have R4:=RR.put (j:=v) (z:=z+1) gu1 gu2
       have S4:=SR.put u v hz
       have npr:∀ {r:Addr} {o:List V},H3 r=some (.lst o)→pR≠r:=fun e q=>by subst q; rw [g1] at e; cases e
       have s4:Same H2 (upd H3 ru (.lst ((xu.set v (z+1)).map V.int))):=fun b o e=>by rw [upd_ne (ne_of_none e nru)]; exact s3 _ _ e
       have g1':upd H3 ru (.lst ((xu.set v (z+1)).map V.int)) pR=_:=(upd_ne (npr gu3)).trans g1
       have g2':upd H3 ru (.lst ((xu.set v (z+1)).map V.int)) hR=_:=(upd_ne (nh _ (mem_of_getElem? gu1))).trans g2
       have g3':upd H3 ru (.lst ((xu.set v (z+1)).map V.int)) rR=_:=(upd_ne (nr _ (mem_of_getElem? gu1))).trans g3
       generalize upd H3 ru (.lst ((xu.set v (z+1)).map V.int))=H4 at R4 s4 g1' g2' g3' ⊢
       obtain ⟨rv,xv,gv1,gv2,gv3⟩:=R4.get (i:=v) (by rw [R4.len,S4.len]; exact hv)
       obtain ⟨ru',xu',gw1,gw2,gw3⟩:=R4.get (i:=u) (by rw [R4.len,S4.len]; exact hu)
       have lxv:=(S4.row v xv gv2).1
       have lxw:=(S4.row u xu' gw2).1
       obtain ⟨y,ey⟩:=get_lt (l:=xu') (i:=v) (by omega)
       have hy:=(S4.row u xu' gw2).2 y (mem_of_getElem? ey)
       have ay:atI (xu'.map V.int) (v:Int)=some (.int y):=atI_nat (by rw [getElem?_map,ey]; rfl)
       have nrv:H2 rv=none:=nw3 rv (by simp [mem_of_getElem? gv1])
       refine ⟨_,rfl,pR,_,_,_,rfl,rfl,SqT.of g1',rfl,_,rfl,rR,_,_,_,rfl,rfl,SqL.of g3',at_ref gw1,_,rfl,ru',_,_,_,rfl,rfl,SqL.of gw3,ay,?_⟩
       refine ⟨_,rfl,pR,_,_,_,rfl,rfl,SqT.of g1',rfl,_,rfl,rR,_,_,_,rfl,rfl,SqL.of g3',at_ref gv1,_,rfl,rv,_,_,u,rfl,rfl,gv3,by rw [length_map,lxv]; exact ixN_nat hu,?_⟩
       rw [←map_set]
       have R5:=R4.put (j:=u) (z:=y) gv1 gv2
       have S5:=S4.put v u hy
       have npr':pR≠rv:=fun q=>by subst q; rw [g1'] at gv3; cases gv3
       refine ⟨_,_,_,rfl,fun b o e=>by rw [upd_ne (ne_of_none e nrv)]; exact s4 _ _ e,⟨hR,rR,rsR,(upd_ne npr').trans g1',(upd_ne (nh _ (mem_of_getElem? gv1))).trans g2',(upd_ne (nr _ (mem_of_getElem? gv1))).trans g3',R5,nw3,d1,d2,d3⟩,S5,?_,fun q=>by omega⟩
       have ezy:y=z+1:=by
        have h1:ent (put (renM M os) u v (z+1)) u v=y:=by rw [ent_row gw2,getD_eq_getElem?_getD,ey]; rfl
        rw [←h1,SR.ent hu hv,if_pos ⟨rfl,rfl⟩]
       rw [ezy]
       exact sym_put SR hu hv hz (sym_ren pm (sq_symF W1.sq))
      ·exact itDN hn0 keep0
     ·exact itDN (fun z=>h2 (V.int.inj z)) (iteF keep0)
    ·rintro σ' H4 ⟨o9,o10,M',rfl,s4,WN4,SN,yM,hM⟩
     refine ⟨fun σ' H'=>∃ (hs':List Int),σ'=[some (.ref a),some (.int (mo:Int)),some (.int c0),some (.bl fr),some (.int (n:Int)),some (.int (c0 / 14 % 5)),none,some (.ref p1),some (.ref pR),o9,o10]∧Same H2 H'∧WN H2 H' pR hs' M'∧hs'.length=n∧(∀ z ∈ hs',z.natAbs≤100)∧(c0 / 14 % 5=1→hs'=renH hs os),?_,?_⟩
     ·obtain ⟨hR,rR,rsR,g1,g2,g3,RR,nw4,d1,d2,d3⟩:=WN4.ex
      have nh:∀ r ∈ rsR,hR≠r:=fun r hr q=>by subst q; exact d2 hr
      refine ⟨_,rfl,rfl,_,rfl,?_⟩
      by_cases h3:c0 / 14 % 5=3
      ·refine itDP (by rw [h3]) ?_
       refine ⟨_,rfl,_,_,rfl,rfl,_,rfl,?_⟩
       by_cases hn0:(0:Int) < (n:Int)
       ·refine itDP hn0 ?_
        have t4:=t2.trans s4
        refine ⟨_,rfl,a,ns,6,rfl,t4.seq hS,by decide,fun c6 _=>⟨_,_,rfl,rfl,(by show (0:Int) < 4; decide),?_⟩⟩
        refine ⟨_,rfl,pR,_,_,_,rfl,rfl,SqT.of g1,rfl,?_⟩
        refine ⟨_,rfl,a,ns,5,rfl,t4.seq hS,by decide,fun c5 _=>⟨_,rfl,_,_,rfl,rfl,hn0,?_⟩⟩
        obtain ⟨u,eu⟩:=Int.eq_ofNat_of_zero_le (Int.emod_nonneg c5 (by omega:(n:Int)≠0))
        have hu:u < n:=by have:=Int.emod_lt_of_pos c5 hn0; omega
        have nhR:H2 hR=none:=nw4 hR (by simp)
        refine ⟨hR,_,_,u,rfl,rfl,g2,?_,?_⟩
        ·show ixN _ (c5 % (n:Int))=_
         rw [eu,length_map,lRen]
         exact ixN_nat hu
        rw [←map_set]
        have npr:pR≠hR:=fun q=>by subst q; rw [g1] at g2; cases g2
        refine ⟨(renH hs os).set u (c6 % 4),rfl,fun b o e=>by rw [upd_ne (ne_of_none e nhR)]; exact s4 _ _ e,⟨hR,rR,rsR,(upd_ne npr).trans g1,upd_same,(upd_ne d1.symm).trans g3,RR.keep fun r hr o e=>by rw [upd_ne (nh r hr).symm]; exact e,nw4,d1,d2,d3⟩,by rw [length_set,lRen],fun z hz=>?_,fun q=>by omega⟩
        rcases List.mem_or_eq_of_mem_set hz with q | q
        ·exact hbR z q
        ·rw [q]
         omega
       ·exact itDN hn0 ⟨_,rfl,s4,WN4,lRen,hbR,fun _=>rfl⟩
      ·exact itDN (fun z=>h3 (V.int.inj z)) (iteF ⟨_,rfl,s4,WN4,lRen,hbR,fun _=>rfl⟩)
     ·rintro σ' H5 ⟨hs',rfl,s5,WN5,lh,hb,hh⟩
      obtain ⟨hR,rR,rsR,g1,g2,g3,RR,_⟩:=WN5.ex
      refine ⟨_,rfl,_,rfl,sz2,fun tA htA=>?_⟩
      have s6:Same H5 (upd H5 tA (.tup [.ref p1,.ref pR])):=Same.upd htA
      have ZR:Wz H5 pR n hs' M':=⟨⟨hR,rR,rsR,g1,g2,g3,RR⟩,lh,SN,hb⟩
      refine q tA p1 pR _ _ _ _ _ _ _ ((t2.trans s5).trans s6) upd_same ((Z12.same s5).same s6) (ZR.same s6) hnm hnm (fun z=>⟨os,pm,by rw [eos,hc4],rfl,hh z,hM z⟩) (sq_symF W1.sq) yM
end
section
open M11
def addL (s f:Int × Int):Int × Int:=low (s.1 * f.2+f.1 * s.2) (s.2 * f.2)
def sumL (fs:List (Int × Int)):Int × Int:=fs.foldl addL (0,1)
def PosF (fs:List (Int × Int)):Prop:=∀ f ∈ fs,0 < f.2
def Lw (s:Int × Int):Prop:=0 < s.2∧Int.gcd s.1 s.2=1
theorem addL_lw {s f:Int × Int} (hs:0 < s.2) (hf:0 < f.2):Lw (addL s f):=by
 have h:s.2 * f.2≠0:=Int.ne_of_gt (Int.mul_pos hs hf)
 exact ⟨low_pos h,low_cop h⟩
def over (W:Int) (f:Int × Int):Int:=f.1 * W.fdiv f.2
theorem over_mul {W:Int} {f:Int × Int} (hf:0 < f.2) (h:f.2 ∣ W):over W f * f.2=f.1 * W:=by
 obtain ⟨q,e,e2⟩:=fdiv_of_dvd hf h
 unfold over
 rw [e2]
 rw [e]
 grind
theorem addL_over {W x:Int} {s f:Int × Int} (hs:0 < s.2) (hf:0 < f.2) (h:f.2 ∣ W) (e:s.1 * W=x * s.2):(addL s f).1 * W=(x+over W f) * (addL s f).2:=by
 have hp:s.2 * f.2≠0:=Int.ne_of_gt (Int.mul_pos hs hf)
 have c:=low_cross (t:=s.1 * f.2+f.1 * s.2) hp
 have o:=over_mul hf h
 show (low (s.1 * f.2+f.1 * s.2) (s.2 * f.2)).1 * W=(x+over W f) * (low (s.1 * f.2+f.1 * s.2) (s.2 * f.2)).2
 generalize low (s.1 * f.2+f.1 * s.2) (s.2 * f.2)=l at c
 refine Int.eq_of_mul_eq_mul_right hp ?_
 have e1:l.1 * W * (s.2 * f.2)=l.1 * (s.2 * f.2) * W:=by grind
 rw [e1,c]
 have e2:(s.1 * f.2+f.1 * s.2) * l.2 * W=l.2 * (s.1 * W * f.2+f.1 * W * s.2):=by grind
 rw [e2,e,←o]
 grind
theorem sum_fold {W:Int}:∀ (fs:List (Int × Int)) (s:Int × Int) (x:Int),Lw s→PosF fs→(∀ f ∈ fs,f.2 ∣ W)→s.1 * W=x * s.2→Lw (fs.foldl addL s)∧(fs.foldl addL s).1 * W=(x+(fs.map (over W)).sum) * (fs.foldl addL s).2
 | [],s,x,hs,_,_,e=>⟨hs,by simpa using e⟩
 | f :: fs,s,x,hs,hp,hd,e=>by
  have hf:=hp f mem_cons_self
  have r:=sum_fold fs (addL s f) (x+over W f) (addL_lw hs.1 hf) (fun g hg=>hp g (mem_cons_of_mem _ hg)) (fun g hg=>hd g (mem_cons_of_mem _ hg)) (addL_over hs.1 hf (hd f mem_cons_self) e)
  refine ⟨r.1,?_⟩
  rw [map_cons,sum_cons,←Int.add_assoc]
  exact r.2
theorem sumL_spec {W:Int} {fs:List (Int × Int)} (hp:PosF fs) (hd:∀ f ∈ fs,f.2 ∣ W):Lw (sumL fs)∧(sumL fs).1 * W=(fs.map (over W)).sum * (sumL fs).2:=by
 have r:=sum_fold (W:=W) fs (0,1) 0 ⟨by decide,by decide⟩ hp hd (by simp)
 rw [Int.zero_add] at r
 exact r
theorem bn_low {k:Nat} {t b:Int} (hb:b≠0) (h1:Bn k t) (h2:Bn k b):Bn k (low t b).1∧Bn k (low t b).2:=⟨h1.le (low_le hb).1,h2.le (low_le hb).2⟩
theorem sumL_snoc (fs:List (Int × Int)) (f:Int × Int):sumL (fs++[f])=addL (sumL fs) f:=by
 unfold sumL
 rw [foldl_append]
 rfl
theorem sumL_bn:∀ (n:Nat) (fs:List (Int × Int)),fs.length=n→PosF fs→(∀ f ∈ fs,Bn 200 f.1∧Bn 200 f.2)→0 < (sumL fs).2∧Bn (1+201 * n) (sumL fs).1∧Bn (1+201 * n) (sumL fs).2:=by
 intro n
 induction n with
 | zero =>
  intro fs e _ _
  have:fs=[]:=List.eq_nil_of_length_eq_zero e
  subst this
  exact ⟨by decide,show (0:Nat) < 2 ^ 1 by decide,show (1:Nat) < 2 ^ 1 by decide⟩
 | succ n ih =>
  intro fs e hp hb
  obtain ⟨gs,f,rfl⟩:∃ gs f,fs=gs++[f]:=⟨fs.dropLast,fs.getLast (by intro z; rw [z] at e; cases e),(List.dropLast_concat_getLast _).symm⟩
  obtain ⟨i1,i2,i3⟩:=ih gs (by rw [length_append] at e; simpa using e) (fun g hg=>hp g (mem_append_left _ hg)) (fun g hg=>hb g (mem_append_left _ hg))
  obtain ⟨b1,b2⟩:=hb f (List.mem_append_right _ mem_cons_self)
  have hf:=hp f (List.mem_append_right _ mem_cons_self)
  have hne:(sumL gs).2 * f.2≠0:=Int.ne_of_gt (Int.mul_pos i1 hf)
  rw [sumL_snoc]
  have e1:1+201 * (n+1)=(1+201 * n+200)+1:=by omega
  have t1:Bn (1+201 * (n+1)) ((sumL gs).1 * f.2+f.1 * (sumL gs).2):=by
   rw [e1]
   exact (i2.mul b2).add (by rw [Int.mul_comm]; exact i3.mul b1)
  have t2:Bn (1+201 * (n+1)) ((sumL gs).2 * f.2):=(i3.mul b2).mono (by omega)
  obtain ⟨c1,c2⟩:=bn_low hne t1 t2
  exact ⟨low_pos hne,c1,c2⟩
end
section
variable {P:Program} {w:World} {K:Frag} {mg:Str→Option Value} {base:Heap}
def FGrd (H:Hp) (a:Addr) (F:List (List (Int × Int))):Prop:=∃ X:List (List V),GrdAt H a X∧X.length=F.length∧∀ (i:Nat) (x:List V) (fs:List (Int × Int)),X[i]? = some x→F[i]? = some fs→FrAt H x fs
theorem FGrd.mono {H H':Hp} {a:Addr} {F:List (List (Int × Int))} (g:FGrd H a F) (s:Same H H'):FGrd H' a F:=by
 obtain ⟨X,g,l,r⟩:=g
 exact ⟨X,g.mono s,l,fun i x fs h1 h2=>(r i x fs h1 h2).mono s⟩
theorem FrAt.app {H:Hp} {x y:List V} {fs gs:List (Int × Int)} (a:FrAt H x fs) (b:FrAt H y gs):FrAt H (x++y) (fs++gs):=by
 refine ⟨by rw [length_append,length_append,a.1,b.1],fun i v f h1 h2=>?_⟩
 by_cases hi:i < x.length
 ·rw [getElem?_append_left hi] at h1
  rw [getElem?_append_left (by rw [←a.1]; exact hi)] at h2
  exact a.2 i v f h1 h2
 ·rw [getElem?_append_right (by omega)] at h1
  rw [getElem?_append_right (by rw [←a.1]; omega),←a.1] at h2
  exact b.2 _ v f h1 h2
theorem frat_flat {H:Hp}:∀ {X:List (List V)} {F:List (List (Int × Int))},X.length=F.length→(∀ (i:Nat) (x:List V) (fs:List (Int × Int)),X[i]? = some x→F[i]? = some fs→FrAt H x fs)→FrAt H X.flatten F.flatten
 | [],[],_,_=>⟨rfl,fun i v f h _=>by simp at h⟩
 | x :: X,r :: F,l,h=>(h 0 x r rfl rfl).app (frat_flat (by simpa using l) fun i y fs h1 h2=>h (i+1) y fs h1 h2)
theorem flat_lenF {α:Type} {n:Nat}:∀ {M:List (List α)},(∀ x ∈ M,x.length=n)→M.flatten.length=M.length * n
 | [],_=>by simp
 | x :: M,h=>by
  rw [flatten_cons,length_append,flat_lenF fun y hy=>h y (mem_cons_of_mem _ hy),h x mem_cons_self,length_cons,Nat.succ_mul]
  omega
theorem row_flat {n:Nat}:∀ {M:List (List V)} {i:Nat} {x:List V},(∀ x ∈ M,x.length=n)→M[i]? = some x→(M.flatten.drop (n * i)).take n=x
 | y :: M,0,x,h,e=>by
  cases e
  rw [flatten_cons,Nat.mul_zero,List.drop_zero,List.take_append_of_le_length (by rw [h _ mem_cons_self]; exact Nat.le_refl _),take_of_length_le (by rw [h _ mem_cons_self]; exact Nat.le_refl _)]
 | y :: M,i+1,x,h,e=>by
  rw [flatten_cons,Nat.mul_succ,List.drop_append,drop_of_length_le (by rw [h _ mem_cons_self]; omega),nil_append,h _ mem_cons_self,Nat.add_sub_cancel]
  exact row_flat (fun x hx=>h x (mem_cons_of_mem _ hx)) (by simpa using e)
theorem sq_flat {n:Nat} {M:List (List V)} (hl:M.length=n) (h:∀ x ∈ M,x.length=n):squareV M.flatten n=M:=by
 refine ext_getElem? fun i=>?_
 unfold squareV
 rw [getElem?_map]
 by_cases hi:i < n
 ·obtain ⟨x,hx⟩:=get_lt (l:=M) (i:=i) (by omega)
  rw [getElem?_range hi,hx,Option.map_some,row_flat h hx]
 ·rw [getElem?_eq_none (by rw [length_range]; omega),getElem?_eq_none (by omega)]
  rfl
theorem eqv_gI:∀ A B:List (List Int),PyData.eqvAll (A.map dI) (B.map dI)=decide (A=B)
 | [],[]=>rfl
 | [],_ :: _=>rfl
 | _ :: _,[]=>rfl
 | a :: A,b :: B=>by
  rw [map_cons,map_cons]
  simp only [PyData.eqvAll,eqv_dI,eqv_gI A B]
  by_cases h:a=b
  ·subst h
   by_cases h2:A=B
   ·subst h2; simp
   ·simp [h2]
  ·simp [h]
theorem GrdAt.da {H:Hp} {a:Addr} {M:List (List Int)} (g:GrdAt H a (gI M)):DA K any H (.ref a) (.list (M.map dI)):=by
 obtain ⟨rs,h,R⟩:=g
 exact .lst trivial (SqL.of h) (das_rows (by rw [R.len,gI_len]) fun i r x h1 h2=>R.row i r _ h1 (gI_get h2))
theorem lay_gI (M:List (List Int)):(PyData.list (M.map dI)).canLay0=true∧(PyData.list (M.map dI)).depth≤64:=by
 obtain ⟨h1,h2⟩:=lay_rows M
 refine ⟨by simp only [PyData.canLay0,h1],?_⟩
 simp only [PyData.depth]
 omega
theorem grd_rows {H:Hp} {a:Addr} {rs:List Addr} {M:List (List Int)} (h:H a=some (.lst (rs.map V.ref))) (R:RowsAt H rs M):GrdAt H a (gI M) :=
 ⟨rs,h,by rw [R.len,gI_len],fun i r x h1 h2=>by
  obtain ⟨y,hy,rfl⟩:=map_get (show (M.map fun x=>x.map V.int)[i]? = some x from h2)
  exact R.row i r y h1 hy⟩
def isSqF (n:Nat) (F:List (List (Int × Int))):Bool:=decide (F.length=n) && F.all fun r=>decide (r.length=n)
theorem isSq_F {H:Hp} {n:Nat} {X:List (List V)} {F:List (List (Int × Int))} (l:X.length=F.length) (h:∀ (i:Nat) (x:List V) (fs:List (Int × Int)),X[i]? = some x→F[i]? = some fs→FrAt H x fs):isSqB n X=isSqF n F:=by
 unfold isSqB isSqF
 rw [l]
 congr 1
 induction X generalizing F with
 | nil =>
  cases F with
  | nil=>rfl
  | cons=>cases l
 | cons x X ih =>
  cases F with
  | nil=>cases l
  | cons r F =>
   rw [List.all_cons,List.all_cons,ih (F:=F) (by simpa using l) fun i y fs h1 h2=>h (i+1) y fs h1 h2,(h 0 x r rfl rfl).1]
def topsI (F:List (List (Int × Int))) (W:Int):List (List Int):=F.map fun r=>r.map fun f=>topF f W
def goesB (n:Nat) (hs hs':List Int) (M M':List (List Int)) (F:List (List (Int × Int))):Bool :=
 decide (hs'.length=n) && (isSqF n F && (sharedB (topsI F (botL F.flatten)) n (botL F.flatten) && (keepHB hs hs' (topsI F (botL F.flatten)) && decide (prodI M (topsI F (botL F.flatten)) n=prodI (topsI F (botL F.flatten)) M' n))))
def FrB (f:Int × Int):Prop:=Bt f∧M11.Bn 100 f.1
def spGoes:Sp:=fun vs H Q _=>∃ (wA oA tA:Addr) (n m:Nat) (hs hs':List Int) (M M':List (List Int)) (F:List (List (Int × Int))),vs=[.ref wA,.ref oA,.ref tA]∧WR H wA hs M∧WR H oA hs' M'∧hs.length=n∧hs'.length=m∧SqN n M∧SqN m M'∧n≤8∧m≤8 ∧
 FGrd H tA F∧F.length≤16∧(∀ r ∈ F,r.length≤16∧∀ f ∈ r,FrB f)∧∀ b H',b=goesB n hs hs' M M' F→Same H H'→Q (.bl b) H'
abbrev nGoes:List Str:=["web","other","table","size","fractions","whole","shares"]
abbrev aGoes:List Str:=["web","other","table"]
theorem scGoes:FnScope nGoes aGoes (defScope sGoes):=by constructor<;>first|rfl|decide +kernel
theorem lcGoes:LcScopes (defScope sGoes) nGoes (lcScope (argAt (asgVal (bodyAt sGoes 4)) 0)) ["f"]:=by constructor<;>first|rfl|decide +kernel
theorem sqF_spec {n:Nat} {F:List (List (Int × Int))} (h:isSqF n F=true):F.length=n∧∀ r ∈ F,r.length=n:=by
 unfold isSqF at h
 rw [Bool.and_eq_true] at h
 exact ⟨of_decide_eq_true h.1,fun r hr=>of_decide_eq_true (all_eq_true.mp h.2 r hr)⟩
theorem tops_row {F:List (List (Int × Int))} {W:Int} {x:List Int} (h:x ∈ topsI F W):∃ r ∈ F,x=r.map fun f=>topF f W:=by
 obtain ⟨r,hr,e⟩:=mem_map.mp h
 exact ⟨r,hr,e.symm⟩
theorem tops_flat (F:List (List (Int × Int))) (W:Int):(F.flatten.map fun f=>topF f W)=(topsI F W).flatten:=by unfold topsI; rw [List.map_flatten]
theorem mem_flat {α:Type} {F:List (List α)} {f:α} (h:f ∈ F.flatten):∃ r ∈ F,f ∈ r:=by simpa using mem_flatten.mp h
theorem ok_goes {f fIs fIn fBo fTo fSq fSh fKe fPr:Addr} {fd fdIs fdIn fdBo fdTo fdSq fdSh fdKe fdPr:FuncData} (B:BltG mg) (F:Fun K "goes_through" "goes_through" sGoes f fd)
  (DIs:Dn K mg "is_square" sIsSq ["rows","size"] fIs fdIs) (GIs:FnOk P w K mg base CX0 1 fIs fdIs ["rows","size"] spIsSq)
  (DIn:Dn K mg "in_one_list" sInOne ["rows"] fIn fdIn) (GIn:FnOk P w K mg base CX0 1 fIn fdIn ["rows"] spInOne)
  (DBo:Dn K mg "common_bottom" sBottom ["fractions"] fBo fdBo) (GBo:FnOk P w K mg base CX0 2 fBo fdBo ["fractions"] spBottom)
  (DTo:Dn K mg "top_over" sTopOver ["f","bottom"] fTo fdTo) (GTo:FnOk P w K mg base CX0 1 fTo fdTo ["f","bottom"] spTopOver)
  (DSq:Dn K mg "in_square" sInSq ["things","size"] fSq fdSq) (GSq:FnOk P w K mg base CX0 1 fSq fdSq ["things","size"] (spInSq K))
  (DSh:Dn K mg "are_shared_out" sShared ["shares","whole"] fSh fdSh) (GSh:FnOk P w K mg base CX0 3 fSh fdSh ["shares","whole"] spShared)
  (DKe:Dn K mg "keep_hues" sKeepHues nKeepHues fKe fdKe) (GKe:FnOk P w K mg base CX0 2 fKe fdKe nKeepHues spKeepHues)
  (DPr:Dn K mg "product_of_grids" sProd ["rows","others"] fPr fdPr) (GPr:FnOk P w K mg base CX0 3 fPr fdPr ["rows","others"] spProd):FnOk P w K mg base CX0 4 f fd aGoes spGoes:=by
 refine F.ok scGoes (fun vs H Q E h=>?_) (fun cdv A outer s H vs Q E hr h=>?_)
 ·obtain ⟨wA,oA,tA,n,m,hs,hs',M,M',F,rfl,_⟩:=h
  rfl
 ·obtain ⟨wA,oA,tA,n,m,hs,hs',M,M',F,rfl,W,W',hl,hl',S,S',hn,hm,g,hF,hFr,q⟩:=h
  have r1:=hr.mono (j:=1) (by decide)
  have r2:=hr.mono (j:=2) (by decide)
  obtain ⟨hA,rA,rs,w1,w2,w3,R⟩:=W.ex
  obtain ⟨hA',rA',rs',v1,v2,v3,R'⟩:=W'.ex
  obtain ⟨X,gX,lX,fX⟩:=g
  refine ⟨_,pss_cons (ps_set (i:=3) scGoes.nd rfl (Or.inl rfl) (pe_callB call_len_seq (by rfl) B.len boot_len (pa_cons (pe_ix ix_tup (pv 0) pe_int (fun _ _=>rfl)) pa_nil)))
   (pss_cons (ps_if (PW.pt (pw_or (pt_cmpR op_ne (pe_callB call_len_seq (by rfl) B.len boot_len (pa_cons (pe_ix ix_tup (pv 1) pe_int (fun _ _=>rfl)) pa_nil)) (pv 3) (nomark _)) (pw_or1 (pt_not (pt_val (pe_fn DIs GIs r1 rfl (pa_cons (pv 2) (pa_cons (pv 3) pa_nil)))))))) (pss_one (ps_ret pe_bl)) pss_nil)
   (pss_cons (ps_set (i:=4) scGoes.nd rfl (Or.inl rfl) (pe_fn DIn GIn r1 rfl (pa_cons (pv 2) pa_nil)))
   (pss_cons (ps_set (i:=5) scGoes.nd rfl (Or.inr rfl) (pe_fn DBo GBo r2 rfl (pa_cons (pv 4) pa_nil)))
   (pss_cons (ps_set (i:=6) scGoes.nd rfl (Or.inl rfl) (pe_fn DSq GSq r1 rfl (pa_cons (pe_lc1 rfl lcGoes rfl (pi_list (pv 4)) (fun _ _ _=>pe_fn DTo GTo r1 rfl (pa_cons (pv 7) (pa_cons (pv 5) pa_nil)))) (pa_cons (pv 3) pa_nil))))
   (pss_cons (ps_if (PW.pt (pw_or (pt_not (pt_val (pe_fn DSh GSh hr rfl (pa_cons (pv 6) (pa_cons (pv 5) pa_nil))))) (pw_or1 (pt_not (pt_val (pe_fn DKe GKe r2 rfl (pa_cons (pe_ix ix_tup (pv 0) pe_int (fun _ _=>rfl)) (pa_cons (pe_ix ix_tup (pv 1) pe_int (fun _ _=>rfl)) (pa_cons (pv 6) pa_nil))))))))) (pss_one (ps_ret pe_bl)) pss_nil)
   (pss_one (ps_ret (pe_cmpR (op_eqD hr.units) (pe_fn DPr GPr hr rfl (pa_cons (pe_ix ix_tup (pv 0) pe_int (fun _ _=>rfl)) (pa_cons (pv 6) pa_nil))) (pe_fn DPr GPr hr rfl (pa_cons (pv 6) (pa_cons (pe_ix ix_tup (pv 1) pe_int (fun _ _=>rfl)) pa_nil))) (nomark _))))))))),?_⟩
  refine ⟨_,rfl,wA,_,_,_,rfl,rfl,SqT.of w1,at_hd _ _,hA,_,rfl,.inl (SqL.of w2),?_⟩
  rw [length_map,hl]
  refine ⟨_,rfl,oA,_,_,_,rfl,rfl,SqT.of v1,at_hd _ _,hA',_,rfl,.inl (SqL.of v2),?_⟩
  rw [length_map]
  refine ⟨_,rfl,rfl,_,rfl,?_⟩
  unfold goesB at q
  by_cases hmn:hs'.length=n
  case neg =>
   refine iteNP (fun z=>hmn (by have:=V.int.inj z; omega)) (iteT (q false H ?_ (Same.refl _)))
   rw [decide_eq_false hmn,Bool.false_and]
  rw [decide_eq_true hmn,Bool.true_and] at q
  refine iteNS (by rw [hmn]) ?_
  refine ⟨_,rfl,_,rfl,tA,X,n,rfl,gX,by omega,by omega,fun x hx=>?_,fun H1 s1=>⟨_,rfl,?_⟩⟩
  ·obtain ⟨i,hi⟩:=mem_iff_getElem?.mp hx
   obtain ⟨fs,hfs⟩:=get_lt (l:=F) (i:=i) (by rw [←lX]; exact lt_get hi)
   rw [(fX i x fs hi hfs).1]
   have:=(hFr fs (mem_of_getElem? hfs)).1
   omega
  rw [isSq_F lX fX]
  cases hsq:isSqF n F with
  | false =>
   refine iteT (q false H1 ?_ s1)
   rw [hsq,Bool.false_and]
  | true =>
   refine iteF ?_
   rw [hsq,Bool.true_and] at q
   obtain ⟨sq1,sq2⟩:=sqF_spec hsq
   have flF:F.flatten.length=n * n:=by rw [flat_lenF sq2,sq1]
   have nn:n * n≤64:=Nat.mul_le_mul hn hn
   have ff:=frat_flat lX fX
   have hB:∀ f ∈ F.flatten,FrB f:=fun f hf=>by
    obtain ⟨r,hr,hf⟩:=mem_flat hf
    exact (hFr r hr).2 f hf
   refine ⟨_,rfl,tA,X,rfl,gX.mono s1,by rw [ff.1,flF]; omega,fun fA H2 s2 nf ef=>?_⟩
   have s12:=s1.trans s2
   refine ⟨_,rfl,fA,X.flatten,F.flatten,rfl,ef,ff.mono s12,by omega,fun f hf=>(hB f hf).1,?_⟩
   obtain ⟨b1,b2,b3⟩:=bot_spec (fs:=F.flatten) fun f hf=>(hB f hf).1
   generalize botL F.flatten=Wh at b1 b2 b3 q ⊢
   have b4:M11.Bn 1300 Wh:=b3.mono (by rw [flF]; omega)
   refine ⟨_,rfl,fA,rfl,⟨_,SqL.of ef⟩,fun D hD=>?_⟩
   refine lc_vals ((F.flatten.map fun f=>topF f Wh).map V.int) (by rw [length_map,length_map,ff.1]) (by rw [ff.1,flF]; omega) hD (SqL.of ef) ?_ ?_ ?_
   ·intro i x v H' hx hv s'
    obtain ⟨z,hz,rfl⟩:=map_get hv
    obtain ⟨g,hg,rfl⟩:=map_get hz
    obtain ⟨p,rfl,hp⟩:=ff.2 i x g hx hg
    obtain ⟨g1,g2⟩:=hB g (mem_of_getElem? hg)
    exact ⟨_,rfl,_,rfl,p,g,Wh,rfl,s' _ _ (s12 _ _ hp),g1,g2.mono (by decide),b4.mono (by decide),rfl,Same.refl _⟩
   ·intro H3 s3 eD
    rw [tops_flat] at eD
    have s13:=s12.trans s3
    have tw:∀ x ∈ topsI F Wh,x.length=n:=fun x hx=>by
     obtain ⟨r,hr,rfl⟩:=tops_row hx
     rw [length_map,sq2 r hr]
    have tl:(topsI F Wh).length=n:=by unfold topsI; rw [length_map,sq1]
    have tb:∀ x ∈ topsI F Wh,∀ z ∈ x,M11.Bn 2000 z:=fun x hx z hz=>by
     obtain ⟨r,hr,rfl⟩:=tops_row hx
     obtain ⟨g,hg,rfl⟩:=mem_map.mp hz
     obtain ⟨g1,g2⟩:=(hFr r hr).2 g hg
     exact (g2.mul (M11.Bn.le b4 (fdiv_le g1.1))).mono (by decide)
    generalize topsI F Wh=T at eD tw tl tb q
    refine ⟨_,rfl,D,_,n,rfl,SqL.of eD,by rw [length_map,flat_len tw,tl],by omega,fun sA H4 s4 nS gS=>?_⟩
    rw [←gI_flat,sq_flat (by rw [gI_len]; exact tl) (fun x hx=>by
     obtain ⟨y,hy,rfl⟩:=mem_map.mp hx
     rw [length_map]; exact tw y hy)] at gS
    have s14:=s13.trans s4
    refine ⟨_,rfl,_,rfl,sA,T,n,Wh,rfl,gS,tl,by omega,tw,fun H5 s5=>⟨_,rfl,?_⟩⟩
    have s15:=s14.trans s5
    cases hsh:sharedB T n Wh with
    | false =>
     refine iteT (q false H5 ?_ s15)
     rw [hsh,Bool.false_and]
    | true =>
     refine iteF ?_
     rw [hsh,Bool.true_and] at q
     refine ⟨_,rfl,wA,_,_,_,rfl,rfl,SqT.of (s15 _ _ w1),at_hd _ _,_,rfl,oA,_,_,_,rfl,rfl,SqT.of (s15 _ _ v1),at_hd _ _,_,rfl,?_⟩
     refine ⟨hA,hA',sA,hs,hs',T,rfl,s15 _ _ w2,s15 _ _ v2,gS.mono s5,by omega,by omega,by omega,fun x hx=>by rw [hmn]; exact tw x hx,fun H6 s6=>⟨_,rfl,?_⟩⟩
     have s16:=s15.trans s6
     cases hk:keepHB hs hs' T with
     | false =>
      refine iteT (q false H6 ?_ s16)
      rw [hk,Bool.false_and]
     | true =>
      refine iteF ?_
      rw [hk,Bool.true_and] at q
      have hwx:(2 * wMax:Nat) < 2 ^ 2000:=by
       have:wMax=1000000000000000000000:=by decide
       rw [this]
       exact Nat.lt_of_lt_of_le (show (2 * 1000000000000000000000:Nat) < 2 ^ 100 by decide) (Nat.pow_le_pow_right (by decide) (by decide))
      have mr:∀ {k:Nat} {N:List (List Int)},SqN k N→∀ x ∈ N,x.length=k∧∀ z ∈ x,M11.Bn 2000 z:=fun Sq x hx=>by
       obtain ⟨i,hi⟩:=mem_iff_getElem?.mp hx
       exact ⟨(Sq.row i x hi).1,fun z hz=>Nat.lt_of_le_of_lt ((Sq.row i x hi).2 z hz) hwx⟩
      have nil0:∀ {N:List (List Int)},N.length=n→N=[]→n=0:=fun e z=>by rw [z] at e; exact e.symm
      have em:m=n:=by omega
      refine ⟨_,rfl,wA,_,_,_,rfl,rfl,SqT.of (s16 _ _ w1),at_snd _ _ _,_,rfl,?_⟩
      refine ⟨rA,sA,M,T,n,2000,rfl,(grd_rows w3 R).mono s16,gS.mono (s5.trans s6),by rw [S.len]; omega,by omega,by omega,by decide,fun x hx=>?_,fun x hx=>⟨tw x hx,tb x hx⟩,nil0 tl,fun pA H7 s7 n7 g7=>?_⟩
      ·obtain ⟨h1,h2⟩:=mr S x hx
       exact ⟨by rw [h1,tl],h2⟩
      have s17:=s16.trans s7
      refine ⟨_,rfl,_,rfl,oA,_,_,_,rfl,rfl,SqT.of (s17 _ _ v1),at_snd _ _ _,?_⟩
      refine ⟨sA,rA',T,M',n,2000,rfl,gS.mono ((s5.trans s6).trans s7),(grd_rows v3 R').mono s17,by omega,by rw [S'.len]; omega,by omega,by decide,fun x hx=>⟨by rw [tw x hx,S'.len,em],tb x hx⟩,fun x hx=>?_,nil0 (by rw [S'.len,em]),fun pB H8 s8 n8 g8=>?_⟩
      ·obtain ⟨h1,h2⟩:=mr S' x hx
       exact ⟨by rw [h1,em],h2⟩
      refine ⟨_,_,(g7.mono s8).da,g8.da,⟨(lay_gI _).1,(lay_gI _).1,(lay_gI _).2⟩,q _ H8 ?_ (s17.trans s8)⟩
      simp only [PyData.eqv]
      exact eqv_gI _ _
   ·rintro σ H' Q1 Q2 hq ⟨v,e,v',e',a1,a2,a3,a4,a5,a6,a7,a8,g⟩
    exact ⟨v,e,v',e',a1,a2,a3,a4,a5,a6,a7,a8,hq _ _ g⟩
end
section
def hueF (us:List Int) (u:Nat):Int:=us[u]?.getD 0
end
section
def SmF (n:Nat) (f:Nat→Int):Int:=((List.range n).map f).sum
theorem smF_succ (n:Nat) (f:Nat→Int):SmF (n+1) f=SmF n f+f n:=by
 unfold SmF
 rw [range_succ,map_append,List.sum_append]
 simp
theorem smF_zero (f:Nat→Int):SmF 0 f=0:=rfl
theorem smF_congr {n:Nat} {f g:Nat→Int} (h:∀ i < n,f i=g i):SmF n f=SmF n g:=by
 unfold SmF
 rw [map_congr_left fun i hi=>h i (mem_range.mp hi)]
theorem smF_add (n:Nat) (f g:Nat→Int):SmF n (fun i=>f i+g i)=SmF n f+SmF n g:=by
 induction n with
 | zero=>rfl
 | succ n ih=>rw [smF_succ,smF_succ,smF_succ,ih]; omega
theorem smF_mul (c:Int) (n:Nat) (f:Nat→Int):SmF n (fun i=>c * f i)=c * SmF n f:=by
 induction n with
 | zero=>rw [smF_zero,smF_zero,Int.mul_zero]
 | succ n ih=>rw [smF_succ,smF_succ,ih,Int.mul_add]
theorem smF_nil (n:Nat):SmF n (fun _=>0)=0:=by
 induction n with
 | zero=>rfl
 | succ n ih=>rw [smF_succ,ih]; rfl
theorem smF_swap (n m:Nat) (f:Nat→Nat→Int):SmF n (fun i=>SmF m (f i))=SmF m fun j=>SmF n fun i=>f i j:=by
 induction n with
 | zero=>rw [smF_zero]; exact (smF_nil m).symm
 | succ n ih =>
  rw [smF_succ,ih,←smF_add]
  exact smF_congr fun j _=>(smF_succ n fun i=>f i j).symm
theorem smF_nonneg {n:Nat} {f:Nat→Int} (h:∀ i < n,0≤f i):0≤SmF n f:=by
 induction n with
 | zero=>exact Int.le_refl _
 | succ n ih =>
  rw [smF_succ]
  have:=ih fun i hi=>h i (by omega)
  have:=h n (by omega)
  omega
theorem smF_pos {n:Nat} {f:Nat→Int} (h:∀ i < n,0≤f i) {k:Nat} (hk:k < n) (pk:0 < f k):0 < SmF n f:=by
 induction n with
 | zero=>omega
 | succ n ih =>
  rw [smF_succ]
  have hn:=h n (by omega)
  by_cases e:k=n
  ·subst e
   have:=smF_nonneg (n:=k) fun i hi=>h i (by omega)
   omega
  ·have:=ih (fun i hi=>h i (by omega)) (by omega)
   omega
theorem smF_ex {n:Nat} {f:Nat→Int} (h:0 < SmF n f):∃ i < n,f i≠0:=by
 induction n with
 | zero=>rw [smF_zero] at h; omega
 | succ n ih =>
  rw [smF_succ] at h
  by_cases e:f n=0
  ·obtain ⟨i,hi,x⟩:=ih (by omega)
   exact ⟨i,by omega,x⟩
  ·exact ⟨n,by omega,e⟩
def qF (a:Nat→Int) (o:Int) (u:Nat):Int:=if a u=o then 1 else 0
theorem qF_nonneg (a:Nat→Int) (o:Int) (u:Nat):0≤qF a o u:=by unfold qF; split <;> decide
theorem qF_self (a:Nat→Int) (u:Nat):qF a (a u) u=1:=if_pos rfl
def cntF (n:Nat) (a:Nat→Int) (o:Int):Int:=SmF n (qF a o)
def rsF (n:Nat) (M:Nat→Nat→Int) (a:Nat→Int) (u:Nat) (o:Int):Int:=SmF n fun v=>qF a o v * M u v
theorem cntF_pos {n:Nat} {a:Nat→Int} {u:Nat} (hu:u < n):0 < cntF n a (a u):=smF_pos (fun i _=>qF_nonneg a _ i) hu (by rw [qF_self]; decide)
theorem cntF_ex {n:Nat} {a:Nat→Int} {o:Int} (h:0 < cntF n a o):∃ u < n,a u=o:=by
 obtain ⟨u,hu,x⟩:=smF_ex h
 refine ⟨u,hu,?_⟩
 unfold qF at x
 by_cases e:a u=o
 ·exact e
 ·rw [if_neg e] at x; exact absurd rfl x
theorem rsF_const {n:Nat} {M:Nat→Nat→Int} {a:Nat→Int} (ev:∀ u < n,∀ v < n,a u=a v→∀ o,rsF n M a u o=rsF n M a v o) {u:Nat} (hu:u < n) (o:Int):SmF n (fun x=>qF a (a u) x * rsF n M a x o)=cntF n a (a u) * rsF n M a u o:=by
 have:SmF n (fun x=>qF a (a u) x * rsF n M a x o)=SmF n fun x=>rsF n M a u o * qF a (a u) x:=smF_congr fun x hx=>by
  unfold qF
  by_cases e:a x=a u
  ·rw [if_pos e,ev x hx u hu e,Int.mul_comm]
  ·rw [if_neg e,Int.zero_mul,Int.mul_zero]
 rw [this,smF_mul]
 exact Int.mul_comm _ _
theorem rsF_cross {n:Nat} {M:Nat→Nat→Int} {a:Nat→Int} (sy:SymF n M) (ev:∀ u < n,∀ v < n,a u=a v→∀ o,rsF n M a u o=rsF n M a v o) {u v:Nat} (hu:u < n) (hv:v < n):cntF n a (a u) * rsF n M a u (a v)=cntF n a (a v) * rsF n M a v (a u):=by
 rw [←rsF_const ev hu,←rsF_const ev hv]
 have e1:SmF n (fun x=>qF a (a u) x * rsF n M a x (a v))=SmF n fun x=>SmF n fun y=>qF a (a u) x * (qF a (a v) y * M x y):=smF_congr fun x _=>(smF_mul _ n _).symm
 have e2:SmF n (fun y=>qF a (a v) y * rsF n M a y (a u))=SmF n fun y=>SmF n fun x=>qF a (a v) y * (qF a (a u) x * M y x):=smF_congr fun x _=>(smF_mul _ n _).symm
 rw [e1,e2,smF_swap]
 refine smF_congr fun y hy=>smF_congr fun x hx=>?_
 rw [sy y hy x hx]
 grind
structure EvF (n m:Nat) (h h':Nat→Int) (M M':Nat→Nat→Int) (a b:Nat→Int):Prop where
 here:∀ u < n,∀ v < n,a u=a v→h u=h v∧∀ o,rsF n M a u o=rsF n M a v o
 there:∀ u < m,∀ v < m,b u=b v→h' u=h' v∧∀ o,rsF m M' b u o=rsF m M' b v o
 cross:∀ u < n,∀ w < m,a u=b w→h u=h' w∧∀ o,rsF n M a u o=rsF m M' b w o
structure CoF (n m:Nat) (h h':Nat→Int) (M M':Nat→Nat→Int) (a b:Nat→Int):Prop where
 ev:EvF n m h h' M M' a b
 here:∀ {a' b':Nat→Int},EvF n m h h' M M' a' b'→∀ u < n,∀ v < n,a' u=a' v→a u=a v
 there:∀ {a' b':Nat→Int},EvF n m h h' M M' a' b'→∀ u < m,∀ v < m,b' u=b' v→b u=b v
 cross:∀ {a' b':Nat→Int},EvF n m h h' M M' a' b'→∀ u < n,∀ w < m,a' u=b' w→a u=b w
def AsF (n m:Nat) (a b:Nat→Int):Prop:=∀ o,cntF n a o=cntF m b o
theorem AsF.ex {n m:Nat} {a b:Nat→Int} (h:AsF n m a b) {u:Nat} (hu:u < n):∃ w < m,b w=a u:=cntF_ex (by rw [←h]; exact cntF_pos hu)
theorem AsF.symm {n m:Nat} {a b:Nat→Int} (h:AsF n m a b):AsF m n b a:=fun o=>(h o).symm
def shF (a b:Nat→Int) (k:Int→Int) (u w:Nat):Int:=if a u=b w then k (a u) else 0
section
variable {n m:Nat} {h h':Nat→Int} {M M':Nat→Nat→Int} {a b:Nat→Int} {k:Int→Int} {W:Int}
theorem shF_row (as:AsF n m a b) {u:Nat} (hk:k (a u) * cntF n a (a u)=W):SmF m (fun w=>shF a b k u w)=W:=by
 have:SmF m (fun w=>shF a b k u w)=SmF m fun w=>k (a u) * qF b (a u) w:=smF_congr fun w _=>by
  unfold shF qF
  by_cases e:a u=b w
  ·rw [if_pos e,if_pos e.symm,Int.mul_one]
  ·rw [if_neg e,if_neg (Ne.symm e),Int.mul_zero]
 rw [this,smF_mul,←hk,as]
 rfl
theorem shF_col {w:Nat} (hk:k (b w) * cntF n a (b w)=W):SmF n (fun u=>shF a b k u w)=W:=by
 have:SmF n (fun u=>shF a b k u w)=SmF n fun u=>k (b w) * qF a (b w) u:=smF_congr fun u _=>by
  unfold shF qF
  by_cases e:a u=b w
  ·rw [if_pos e,if_pos e,Int.mul_one,e]
  ·rw [if_neg e,if_neg e,Int.mul_zero]
 rw [this,smF_mul,←hk]
 rfl
theorem shF_hue (E:EvF n m h h' M M' a b) {u w:Nat} (hu:u < n) (hw:w < m):shF a b k u w=0 ∨ h' w=h u:=by
 unfold shF
 by_cases e:a u=b w
 ·exact .inr (E.cross u hu w hw e).1.symm
 ·exact .inl (if_neg e)
theorem shF_goes (E:EvF n m h h' M M' a b) (as:AsF n m a b) (s1:SymF n M) (s2:SymF m M') (hk:∀ u < n,k (a u) * cntF n a (a u)=W) {u w:Nat} (hu:u < n) (hw:w < m) :
  SmF n (fun v=>shF a b k v w * M u v)=SmF m fun v=>M' v w * shF a b k u v:=by
 have e1:SmF n (fun v=>shF a b k v w * M u v)=k (b w) * rsF n M a u (b w):=by
  unfold rsF
  rw [←smF_mul]
  refine smF_congr fun v _=>?_
  unfold shF qF
  by_cases e:a v=b w
  ·rw [if_pos e,if_pos e,e,Int.one_mul]
  ·rw [if_neg e,if_neg e,Int.zero_mul,Int.mul_zero]
 have e2:SmF m (fun v=>M' v w * shF a b k u v)=k (a u) * rsF m M' b w (a u):=by
  unfold rsF
  rw [←smF_mul]
  refine smF_congr fun v hv=>?_
  unfold shF qF
  by_cases e:a u=b v
  ·rw [if_pos e,if_pos e.symm,s2 v hv w hw,Int.one_mul,Int.mul_comm]
  ·rw [if_neg e,if_neg (Ne.symm e),Int.zero_mul,Int.mul_zero,Int.mul_zero]
 rw [e1,e2]
 obtain ⟨x,hx,ex⟩:=as.symm.ex hw
 have r:=(E.cross x hx w hw ex).2 (a u)
 have c:=rsF_cross s1 (fun u hu v hv e=>(E.here u hu v hv e).2) hu hx
 rw [←ex,←r]
 have k1:=hk u hu
 have k2:=hk x hx
 have p1:0 < cntF n a (a u):=cntF_pos hu
 have p2:0 < cntF n a (a x):=cntF_pos hx
 refine Int.eq_of_mul_eq_mul_right (a:=cntF n a (a u) * cntF n a (a x)) (Int.ne_of_gt (Int.mul_pos p1 p2)) ?_
 grind
end
end
section
theorem qF_none {a:Nat→Int} {o:Int} {x:Nat} (h:a x≠o):qF a o x=0:=if_neg h
theorem rsF_none {n:Nat} {M:Nat→Nat→Int} {a:Nat→Int} {o:Int} (h:∀ x < n,a x≠o) (w:Nat):rsF n M a w o=0:=by
 have:rsF n M a w o=SmF n fun _=>0:=smF_congr fun x hx=>by rw [qF_none (h x hx),Int.zero_mul]
 rw [this,smF_nil]
section
variable {n m l:Nat} {h h' h2:Nat→Int} {M M' N:Nat→Nat→Int} {a b b' d al de:Nat→Int}
end
end
section
theorem sumP_rng (f g:Nat→Int) (o:Int):∀ L:List Nat,sumP ((L.map f).zip (L.map g)) o=(L.map fun v=>qF g o v * f v).sum
 | []=>rfl
 | x :: L=>by
  rw [map_cons,map_cons,zip_cons_cons,sumP_cons,sumP_rng f g o L,map_cons,sum_cons]
  congr 1
  unfold qF
  split
  ·rw [Int.one_mul]
  ·rw [Int.zero_mul]
theorem row_ent {n:Nat} {M:List (List Int)} {i:Nat} {x:List Int} (S:SqN n M) (hx:M[i]? = some x):x=(List.range n).map fun v=>ent M i v:=by
 apply ext_getElem?
 intro j
 rw [getElem?_map]
 have lx:=(S.row i x hx).1
 by_cases hj:j < n
 ·rw [getElem?_range hj]
  obtain ⟨z,hz⟩:=get_lt (l:=x) (i:=j) (by omega)
  rw [hz]
  show some z=some ((M[i]?.getD [])[j]?.getD 0)
  rw [hx]
  show some z=some (x[j]?.getD 0)
  rw [hz]
  rfl
 ·rw [getElem?_eq_none (by omega),getElem?_eq_none (by rw [length_range]; omega)]
  rfl
def lotL (n m:Nat) (a b:Nat→Int):List Int:=(List.range n).map a++(List.range m).map b
section
variable {n m:Nat} {us us' ls:List Int} {M M':List (List Int)} {a b:Nat→Int}
theorem lotL_len:(lotL n m a b).length=n+m:=by unfold lotL; rw [length_append,length_map,length_map,length_range,length_range]
theorem lotL_here {u:Nat} (hu:u < n):(lotL n m a b)[u]? = some (a u):=by
 unfold lotL
 rw [getElem?_append_left (by rw [length_map,length_range]; exact hu),getElem?_map,getElem?_range hu]
 rfl
theorem lotL_there {w:Nat} (hw:w < m):(lotL n m a b)[n+w]? = some (b w):=by
 unfold lotL
 rw [getElem?_append_right (by rw [length_map,length_range]; omega),length_map,length_range,Nat.add_sub_cancel_left,getElem?_map,getElem?_range hw]
 rfl
theorem lotL_mem {o:Int}:o ∈ lotL n m a b↔(∃ u < n,a u=o) ∨ ∃ w < m,b w=o:=by
 unfold lotL
 rw [mem_append,mem_map,mem_map]
 constructor
 ·rintro (⟨u,hu,e⟩ | ⟨u,hu,e⟩)
  ·exact .inl ⟨u,mem_range.mp hu,e⟩
  ·exact .inr ⟨u,mem_range.mp hu,e⟩
 ·rintro (⟨u,hu,e⟩ | ⟨u,hu,e⟩)
  ·exact .inl ⟨u,mem_range.mpr hu,e⟩
  ·exact .inr ⟨u,mem_range.mpr hu,e⟩
theorem sum_here (S:SqN n M) {u:Nat} (hu:u < n) {ws:List Int} (h:(besM n m M M')[u]? = some ws) (o:Int):sumP (ws.zip (lotL n m a b)) o=rsF n (ent M) a u o:=by
 obtain ⟨x,hx,rfl⟩:=bes_here S.len hu h
 unfold lotL
 rw [row_here (by rw [length_map,length_range,(S.row u x hx).1]) o,row_ent S hx,sumP_rng]
 rfl
theorem sum_there (S:SqN n M) (S':SqN m M') {w:Nat} {ws:List Int} (h:(besM n m M M')[n+w]? = some ws) (o:Int):sumP (ws.zip (lotL n m a b)) o=rsF m (ent M') b w o:=by
 obtain ⟨x,hx,rfl⟩:=bes_there S.len (by omega) h
 rw [Nat.add_sub_cancel_left] at hx
 unfold lotL
 rw [row_there (by rw [length_map,length_range]) o,row_ent S' hx,sumP_rng]
 rfl
theorem hue_here (h1:us.length=n) {u:Nat} (hu:u < n):(us++us')[u]? = some (hueF us u):=by
 rw [getElem?_append_left (by omega)]
 obtain ⟨z,hz⟩:=get_lt (l:=us) (i:=u) (by omega)
 unfold hueF
 rw [hz]
 rfl
theorem hue_there (h1:us.length=n) (h2:us'.length=m) {w:Nat} (hw:w < m):(us++us')[n+w]? = some (hueF us' w):=by
 rw [getElem?_append_right (by omega),h1,Nat.add_sub_cancel_left]
 obtain ⟨z,hz⟩:=get_lt (l:=us') (i:=w) (by omega)
 unfold hueF
 rw [hz]
 rfl
theorem pr_ev (h1:us.length=n) (h2:us'.length=m) (S:SqN n M) (S':SqN m M'):(∀ i j,Pr (us++us') (lotL n m a b) (besM n m M M') i j)↔EvF n m (hueF us) (hueF us') (ent M) (ent M') a b:=by
 have lb:=bes_len (m:=m) S.len S'.len
 constructor
 ·intro P
  have zA:∀ {o:Int} (u:Nat),o ∉ lotL n m a b→rsF n (ent M) a u o=0:=fun u no=>rsF_none (fun x hx z=>no (lotL_mem.mpr (.inl ⟨x,hx,z⟩))) u
  have zB:∀ {o:Int} (u:Nat),o ∉ lotL n m a b→rsF m (ent M') b u o=0:=fun u no=>rsF_none (fun x hx z=>no (lotL_mem.mpr (.inr ⟨x,hx,z⟩))) u
  refine ⟨fun u hu v hv e=>?_,fun u hu v hv e=>?_,fun u hu v hv e=>?_⟩
  ·obtain ⟨ws,hw⟩:=get_lt (l:=besM n m M M') (i:=u) (by omega)
   obtain ⟨ws',hw'⟩:=get_lt (l:=besM n m M M') (i:=v) (by omega)
   obtain ⟨e1,e2⟩:=P u v _ _ _ ws ws' (lotL_here hu) (by rw [e]; exact lotL_here hv) (hue_here h1 hu) (hue_here h1 hv) hw hw'
   refine ⟨e1,fun o=>?_⟩
   by_cases mo:o ∈ lotL n m a b
   ·have:=e2 o mo
    rw [sum_here S hu hw,sum_here S hv hw'] at this
    exact this
   ·rw [zA u mo,zA v mo]
  ·obtain ⟨ws,hw⟩:=get_lt (l:=besM n m M M') (i:=n+u) (by omega)
   obtain ⟨ws',hw'⟩:=get_lt (l:=besM n m M M') (i:=n+v) (by omega)
   obtain ⟨e1,e2⟩:=P (n+u) (n+v) _ _ _ ws ws' (lotL_there hu) (by rw [e]; exact lotL_there hv) (hue_there h1 h2 hu) (hue_there h1 h2 hv) hw hw'
   refine ⟨e1,fun o=>?_⟩
   by_cases mo:o ∈ lotL n m a b
   ·have:=e2 o mo
    rw [sum_there S S' hw,sum_there S S' hw'] at this
    exact this
   ·rw [zB u mo,zB v mo]
  ·obtain ⟨ws,hw⟩:=get_lt (l:=besM n m M M') (i:=u) (by omega)
   obtain ⟨ws',hw'⟩:=get_lt (l:=besM n m M M') (i:=n+v) (by omega)
   obtain ⟨e1,e2⟩:=P u (n+v) _ _ _ ws ws' (lotL_here hu) (by rw [e]; exact lotL_there hv) (hue_here h1 hu) (hue_there h1 h2 hv) hw hw'
   refine ⟨e1,fun o=>?_⟩
   by_cases mo:o ∈ lotL n m a b
   ·have:=e2 o mo
    rw [sum_here S hu hw,sum_there S S' hw'] at this
    exact this
   ·rw [zA u mo,zB v mo]
 ·intro E i j l z z' ws ws' e1 e2 e3 e4 e5 e6
  have hi:i < n+m:=by have:=lt_get e1; rw [lotL_len] at this; exact this
  have hj:j < n+m:=by have:=lt_get e2; rw [lotL_len] at this; exact this
  by_cases ci:i < n
  ·rw [lotL_here ci] at e1
   rw [hue_here h1 ci] at e3
   cases e1; cases e3
   by_cases cj:j < n
   ·rw [lotL_here cj] at e2
    rw [hue_here h1 cj] at e4
    cases e4
    obtain ⟨q1,q2⟩:=E.here i ci j cj (Option.some.inj e2).symm
    exact ⟨q1,fun o _=>by rw [sum_here S ci e5,sum_here S cj e6,q2]⟩
   ·obtain ⟨w,rfl⟩:=Nat.exists_eq_add_of_le (Nat.le_of_not_lt cj)
    have hw:w < m:=by omega
    rw [lotL_there hw] at e2
    rw [hue_there h1 h2 hw] at e4
    cases e4
    obtain ⟨q1,q2⟩:=E.cross i ci w hw (Option.some.inj e2).symm
    exact ⟨q1,fun o _=>by rw [sum_here S ci e5,sum_there S S' e6,q2]⟩
  ·obtain ⟨x,rfl⟩:=Nat.exists_eq_add_of_le (Nat.le_of_not_lt ci)
   have hx:x < m:=by omega
   rw [lotL_there hx] at e1
   rw [hue_there h1 h2 hx] at e3
   cases e1; cases e3
   by_cases cj:j < n
   ·rw [lotL_here cj] at e2
    rw [hue_here h1 cj] at e4
    cases e4
    obtain ⟨q1,q2⟩:=E.cross j cj x hx (Option.some.inj e2)
    exact ⟨q1.symm,fun o _=>by rw [sum_there S S' e5,sum_here S cj e6,q2]⟩
   ·obtain ⟨w,rfl⟩:=Nat.exists_eq_add_of_le (Nat.le_of_not_lt cj)
    have hw:w < m:=by omega
    rw [lotL_there hw] at e2
    rw [hue_there h1 h2 hw] at e4
    cases e4
    obtain ⟨q1,q2⟩:=E.there x hx w hw (Option.some.inj e2).symm
    exact ⟨q1,fun o _=>by rw [sum_there S S' e5,sum_there S S' e6,q2]⟩
theorem lots_two {ls:List Int} (hl:ls.length=n+m):ls=lotL n m (fun u=>ls.getD u 0) fun w=>ls.getD (n+w) 0:=by
 apply ext_getElem?
 intro i
 by_cases hi:i < n
 ·rw [lotL_here hi]
  obtain ⟨z,hz⟩:=get_lt (l:=ls) (i:=i) (by omega)
  rw [getD_eq_getElem?_getD,hz]
  rfl
 ·by_cases hi':i < n+m
  ·obtain ⟨w,rfl⟩:=Nat.exists_eq_add_of_le (Nat.le_of_not_lt hi)
   rw [lotL_there (by omega)]
   obtain ⟨z,hz⟩:=get_lt (l:=ls) (i:=n+w) (by omega)
   rw [getD_eq_getElem?_getD,hz]
   rfl
  ·rw [getElem?_eq_none (by omega),getElem?_eq_none (by rw [lotL_len]; omega)]
theorem co_of (h1:us.length=n) (h2:us'.length=m) (S:SqN n M) (S':SqN m M') (C:Coarse (us++us') (besM n m M M') (lotL n m a b)):CoF n m (hueF us) (hueF us') (ent M) (ent M') a b:=by
 have fin:∀ {a' b':Nat→Int},EvF n m (hueF us) (hueF us') (ent M) (ent M') a' b'→Finer (lotL n m a' b') (lotL n m a b):=fun E=>C.top _ (by rw [lotL_len,lotL_len]) ((pr_ev h1 h2 S S').mpr E)
 refine ⟨(pr_ev h1 h2 S S').mp C.even,fun E u hu v hv e=>?_,fun E u hu v hv e=>?_,fun E u hu v hv e=>?_⟩
 ·exact fin E u v _ _ _ (lotL_here hu) (by rw [e]; exact lotL_here hv) (lotL_here hu) (lotL_here hv)
 ·exact fin E (n+u) (n+v) _ _ _ (lotL_there hu) (by rw [e]; exact lotL_there hv) (lotL_there hu) (lotL_there hv)
 ·exact fin E u (n+v) _ _ _ (lotL_here hu) (by rw [e]; exact lotL_there hv) (lotL_here hu) (lotL_there hv)
theorem cnt_rng (a:Nat→Int) (o:Int):∀ n:Nat,cntF n a o=((((List.range n).map a).count o:Nat):Int)
 | 0=>rfl
 | n+1=>by
  unfold cntF
  rw [smF_succ,show SmF n (qF a o)=cntF n a o from rfl,cnt_rng a o n,range_succ,map_append,List.count_append,map_cons,map_nil,List.count_singleton]
  unfold qF
  by_cases e:a n=o
  ·rw [if_pos e,if_pos (by simpa using e)]; rfl
  ·rw [if_neg e,if_neg (by simpa using e)]; rfl
theorem as_of (h:((lotL n m a b).take n).Perm ((lotL n m a b).drop n)):AsF n m a b:=by
 have e1:(lotL n m a b).take n=(List.range n).map a:=by
  unfold lotL
  rw [List.take_append_of_le_length (by rw [length_map,length_range]; exact Nat.le_refl _),take_of_length_le (by rw [length_map,length_range]; exact Nat.le_refl _)]
 have e2:(lotL n m a b).drop n=(List.range m).map b:=by
  unfold lotL
  rw [List.drop_append_of_le_length (by rw [length_map,length_range]; exact Nat.le_refl _),drop_of_length_le (by rw [length_map,length_range]; exact Nat.le_refl _),nil_append]
 intro o
 rw [cnt_rng,cnt_rng]
 rw [e1,e2] at h
 rw [h.count_eq]
end
end
section
def mgI (ms:List Int) (x y:Int):List Int:=ms.map fun z=>if z=y then x else z
structure LotI (n m:Nat) (a b:Nat→Int) (dn:Nat→Nat→Prop) (ms:List Int):Prop where
 len:ms.length=n+m
 sound:Finer ms (lotL n m a b)
 done:∀ u w,dn u w→∀ x y,ms[u]? = some x→ms[n+w]? = some y→x=y
section
variable {n m:Nat} {a b:Nat→Int} {dn dn':Nat→Nat→Prop} {ms:List Int}
theorem LotI.start:LotI n m a b (fun _ _=>False) ((List.range (n+m)).map fun (i:Nat)=>(i:Int)):=by
 refine ⟨by rw [length_map,length_range],fun i j l x y e1 e2 e3 e4=>?_,fun _ _ z=>z.elim⟩
 have hi:i < n+m:=by have:=lt_get e3; rw [lotL_len] at this; exact this
 have hj:j < n+m:=by have:=lt_get e4; rw [lotL_len] at this; exact this
 rw [getElem?_map,getElem?_range hi] at e1
 rw [getElem?_map,getElem?_range hj] at e2
 have q1:(i:Int)=l:=Option.some.inj e1
 have q2:(j:Int)=l:=Option.some.inj e2
 obtain rfl:i=j:=by omega
 exact Option.some.inj (e3.symm.trans e4)
theorem LotI.mono (I:LotI n m a b dn ms) (h:∀ u w,dn' u w→dn u w):LotI n m a b dn' ms:=⟨I.len,I.sound,fun u w z=>I.done u w (h u w z)⟩
theorem mgI_get {x y z:Int} {i:Nat} (h:(mgI ms x y)[i]? = some z):∃ o,ms[i]? = some o∧z=if o=y then x else o:=by
 unfold mgI at h
 rw [getElem?_map] at h
 cases e:ms[i]? with
 | none=>rw [e] at h; cases h
 | some o=>rw [e] at h; exact ⟨o,rfl,(Option.some.inj h).symm⟩
theorem LotI.step (I:LotI n m a b dn ms) {u w:Nat} (hu:u < n) (hw:w < m) (e:a u=b w) {x y:Int} (hx:ms[u]? = some x) (hy:ms[n+w]? = some y):LotI n m a b (fun u' w'=>dn u' w' ∨ (u'=u∧w'=w)) (mgI ms x y):=by
 refine ⟨by unfold mgI; rw [length_map,I.len],fun i j l p q e1 e2 e3 e4=>?_,fun u' w' z p q e1 e2=>?_⟩
 ·obtain ⟨o1,g1,k1⟩:=mgI_get e1
  obtain ⟨o2,g2,k2⟩:=mgI_get e2
  have ou:=lotL_here (m:=m) (a:=a) (b:=b) hu
  have ow:=lotL_there (n:=n) (a:=a) (b:=b) hw
  by_cases c1:o1=y
  ·rw [if_pos c1] at k1
   by_cases c2:o2=y
   ·exact I.sound i j y p q (by rw [g1,c1]) (by rw [g2,c2]) e3 e4
   ·rw [if_neg c2] at k2
    have t1:=I.sound i (n+w) y _ _ (by rw [g1,c1]) hy e3 ow
    have t2:=I.sound j u x _ _ (by rw [g2,←k2,k1]) hx e4 ou
    rw [t1,t2,e]
  ·rw [if_neg c1] at k1
   by_cases c2:o2=y
   ·rw [if_pos c2] at k2
    have t1:=I.sound j (n+w) y _ _ (by rw [g2,c2]) hy e4 ow
    have t2:=I.sound i u x _ _ (by rw [g1,←k1,k2]) hx e3 ou
    rw [t1,t2,e]
   ·rw [if_neg c2] at k2
    exact I.sound i j l p q (by rw [g1,k1]) (by rw [g2,k2]) e3 e4
 ·obtain ⟨o1,g1,k1⟩:=mgI_get e1
  obtain ⟨o2,g2,k2⟩:=mgI_get e2
  rcases z with z | ⟨rfl,rfl⟩
  ·have:=I.done u' w' z o1 o2 g1 g2
   rw [k1,k2,this]
  ·rw [hx] at g1
   rw [hy] at g2
   cases g1
   cases g2
   rw [k1,k2,if_pos rfl]
   split <;> rfl
end
end
section
variable {P:Program} {w:World} {K:Frag} {mg:Str→Option Value} {base:Heap}
abbrev nLow:List Str:=["_law_top","_law_bottom","_law_one_here","_law_other","_law_rest"]
abbrev aLow:List Str:=["_law_top","_law_bottom"]
theorem scLow:FnScope nLow aLow (defScope sLow):=by constructor<;>first|rfl|decide +kernel
def spLow:Sp:=fun vs H Q _=>∃ t b:Int,vs=[.int t,.int b]∧0 < b∧M11.Bn 8000 b∧∀ p H',Same H H'→H p=none→H' p=some (tupF (M11.low t b))→Q (.ref p) H'
theorem ok_low {f:Addr} {fd:FuncData} (B:BltR mg) (F:Fun K "_law_lowest" "_law_lowest" sLow f fd):FnOk P w K mg base CX0 1 f fd aLow spLow:=by
 refine F.ok scLow (fun vs H Q E h=>?_) (fun cdv A outer s H vs Q E hr h=>?_)
 ·obtain ⟨t,b,rfl,_⟩:=h
  rfl
 ·obtain ⟨t,b,rfl,hb,hbn,k⟩:=h
  refine ⟨_,pss_cons (ps_set (i:=2) scLow.nd rfl (Or.inl rfl) (pe_callB call_abs (by rfl) B.abs boot_abs (pa_cons (pv 0) pa_nil)))
   (pss_cons (ps_set (i:=3) scLow.nd rfl (Or.inl rfl) (pv 1))
   (pss_cons (ps_while PassesOwn.never (pt_cmpR op_ne (pv 2) pe_int (nomark _))
    (pss_cons (ps_set (i:=4) scLow.nd rfl (Or.inl rfl) (pe_op op_modN (pv 3) (pv 2)))
    (pss_cons (ps_set (i:=3) scLow.nd rfl (Or.inl rfl) (pv 2))
    (pss_one (ps_set (i:=2) scLow.nd rfl (Or.inl rfl) (pv 4))))))
   (pss_one (ps_ret (pe_tup (pa_cons (pe_op op_fdivL (pv 0) (pv 3)) (pa_cons (pe_op op_fdivL (pv 1) (pv 3)) pa_nil))))))),?_⟩
  refine ⟨_,rfl,t,rfl,_,rfl,?_⟩
  refine while_by (fun σ H'=>∃ (x y:Int) (r:Option V),σ=[some (.int t),some (.int b),some (.int x),some (.int y),r]∧H'=H∧0≤x∧0 < y∧Int.gcd x y=Int.gcd t b)
   (fun σ _=>match σ with | [_,_,some (.int x),_,_]=>x.natAbs | _=>0) ⟨_,b,none,rfl,rfl,?_,hb,?_⟩ ?_ ?_
  ·split <;> omega
  ·split
   ·rw [Int.neg_gcd]
   ·rfl
  ·rintro σ H' ⟨x,y,r,rfl,rfl,hx,hy,hg⟩
   refine ⟨_,rfl,rfl,_,rfl,?_⟩
   by_cases h0:x=0
   ·subst h0
    refine iteNS rfl ?_
    rw [Int.gcd_zero_left] at hg
    have eG:M11.sgn t b=y:=by
     unfold M11.sgn
     rw [if_neg (by omega)]
     show ((Int.gcd t b:Nat):Int)=y
     rw [←hg]
     omega
    have hle:=M11.sgn_le (t:=t) (Int.ne_of_gt hb)
    rw [eG] at hle
    have hly:y.natAbs < 2 ^ 9000:=Nat.lt_of_le_of_lt hle (hbn.mono (m:=9000) (by decide))
    refine ⟨_,rfl,_,rfl,_,_,rfl,rfl,⟨Int.ne_of_gt hy,hly⟩,_,rfl,_,rfl,_,_,rfl,rfl,⟨Int.ne_of_gt hy,hly⟩,sz2,fun p hp=>k p _ (Same.upd hp) hp ?_⟩
    rw [upd_same]
    unfold M11.low tupF
    rw [eG]
   ·refine iteNP (fun z=>h0 (V.int.inj z)) ?_
    refine ⟨_,rfl,_,rfl,y,x,rfl,rfl,h0,_,rfl,_,rfl,?_⟩
    refine ⟨⟨y.fmod x,x,_,rfl,rfl,Int.fmod_nonneg_of_pos _ (by omega),by omega,?_⟩,M11.fmod_small y x h0⟩
    rw [Int.gcd_comm,M11.gcd_step,Int.gcd_comm]
    exact hg
  ·rintro σ H' Q1 Q2 hq ⟨v,e,sc,c,ec,q⟩
   exact ⟨v,e,sc,c,ec,hq _ _ q⟩
def FrI (H1:Hp) (D:Addr) (fs:List (Int × Int)) (i:Nat) (ys:List V) (H':Hp):Prop:=∃ ps:List Addr,ys=ps.map V.ref∧ps.length=i∧Same H1 H'∧H' D=some (.lst ys)∧(∀ r ∈ ps,r≠D)∧∀ (j:Nat) (r:Addr) (f:Int × Int),ps[j]? = some r→fs[j]? = some f→H' r=some (tupF f)
theorem FrI.start {H1:Hp} {D:Addr} {fs:List (Int × Int)} (hD:H1 D=none):FrI H1 D fs 0 [] (upd H1 D (.lst [])):=⟨[],rfl,rfl,Same.upd hD,upd_same,(fun r h=>by cases h),(fun j r x h _=>by cases h)⟩
theorem FrI.same {H1 H':Hp} {D:Addr} {fs:List (Int × Int)} {i:Nat} {ys:List V} (g:FrI H1 D fs i ys H'):Same H1 H':=let ⟨_,_,_,z,_⟩:=g; z
theorem FrI.at {H1 H':Hp} {D:Addr} {fs:List (Int × Int)} {i:Nat} {ys:List V} (g:FrI H1 D fs i ys H'):H' D=some (.lst ys):=let ⟨_,_,_,_,z,_⟩:=g; z
theorem FrI.step {H1 H4 H5:Hp} {D p:Addr} {fs:List (Int × Int)} {i:Nat} {ys:List V} {f:Int × Int} (hD:H1 D=none) (g:FrI H1 D fs i ys H4) (hf:fs[i]? = some f) (hp:H5 p=some (tupF f)) (hn:H4 p=none) (s5:Same H4 H5) (hm:i < 900) :
  H5 D=some (.lst ys)∧ys.length < sizeLine∧FrI H1 D fs (i+1) (ys++[.ref p]) (upd H5 D (.lst (ys++[.ref p]))):=by
 obtain ⟨rs,rfl,lr,s4,eD,nD,hr⟩:=g
 have npD:p≠D:=fun z=>by rw [z,eD] at hn; cases hn
 refine ⟨s5 _ _ eD,small1000 (by rw [length_map]; omega),rs++[p],by rw [map_append]; rfl,by rw [length_append,lr]; rfl,fun b o e=>?_,upd_same,fun r h=>?_,fun j r y h1 h2=>?_⟩
 ·rw [upd_ne (ne_of_none e hD)]
  exact s5 _ _ (s4 _ _ e)
 ·rcases mem_append.mp h with z | z
  ·exact nD r z
  ·rw [mem_singleton.mp z]; exact npD
 ·rcases snoc_get h1 with z | ⟨e,z⟩
  ·rw [upd_ne (nD r (mem_of_getElem? z))]
   exact s5 _ _ (hr j r y z h2)
  ·subst z
   rw [e,lr,hf] at h2
   cases h2
   rw [upd_ne npD]
   exact hp
theorem FrI.done {H1 H':Hp} {D:Addr} {fs:List (Int × Int)} {ys:List V} {n:Nat} (g:FrI H1 D fs n ys H') (e:fs.length=n):H' D=some (.lst ys)∧FrAt H' ys fs:=by
 obtain ⟨rs,rfl,lr,s4,eD,nD,hr⟩:=g
 refine ⟨eD,by rw [length_map,lr,e],fun i v f h1 h2=>?_⟩
 obtain ⟨r,hr',rfl⟩:=map_get h1
 exact ⟨r,rfl,hr i r f hr' h2⟩
def FrQ (f:Int × Int):Prop:=0 < f.2∧M11.Bn 200 f.1∧M11.Bn 200 f.2
def FrS (f:Int × Int):Prop:=0 < f.2∧M11.Bn 4000 f.1∧M11.Bn 4000 f.2
theorem FrQ.s {f:Int × Int} (h:FrQ f):FrS f:=⟨h.1,h.2.1.mono (by decide),h.2.2.mono (by decide)⟩
def mulL (f g:Int × Int):Int × Int:=M11.low (f.1 * g.1) (f.2 * g.2)
def spSum2:Sp:=fun vs H Q _=>∃ (fA gA:Addr) (f g:Int × Int),vs=[.ref fA,.ref gA]∧H fA=some (tupF f)∧H gA=some (tupF g)∧FrS f∧FrS g∧∀ p,H p=none→Q (.ref p) (upd H p (tupF (addL f g)))
def spMul2:Sp:=fun vs H Q _=>∃ (fA gA:Addr) (f g:Int × Int),vs=[.ref fA,.ref gA]∧H fA=some (tupF f)∧H gA=some (tupF g)∧FrS f∧FrS g∧∀ p,H p=none→Q (.ref p) (upd H p (tupF (mulL f g)))
theorem scSum2:FnScope ["f","g"] ["f","g"] (defScope sSum2):=by constructor<;>first|rfl|decide +kernel
theorem scMul2:FnScope ["f","g"] ["f","g"] (defScope sMul2):=by constructor<;>first|rfl|decide +kernel
theorem bot_ok {f g:Int × Int} (hf:FrS f) (hg:FrS g):f.2 * g.2≠0∧(f.2 * g.2).natAbs < 2 ^ 9000 :=
 ⟨Int.ne_of_gt (Int.mul_pos hf.1 hg.1),(hf.2.2.mul hg.2.2).mono (n:=8000) (m:=9000) (by decide)⟩
theorem ok_sum2 {f fF:Addr} {fd fdF:FuncData} (F:Fun K "sum_of_two" "sum_of_two" sSum2 f fd) (DF:Dn K mg "fraction_of" sFr ["top","bottom"] fF fdF) (GF:FnOk P w K mg base CX0 2 fF fdF ["top","bottom"] spF):FnOk P w K mg base CX0 3 f fd ["f","g"] spSum2:=by
 refine F.ok scSum2 (fun vs H Q E h=>?_) (fun cdv A outer s H vs Q E hr h=>?_)
 ·obtain ⟨a,b,x,y,rfl,_⟩:=h
  rfl
 ·obtain ⟨a,b,x,y,rfl,ha,hb,hx,hy,q⟩:=h
  refine ⟨_,pss_one (ps_ret (pe_fn DF GF hr rfl (pa_cons (pe_op op_add (pe_op op_mulN (pe_ix (ix_tupK (K:=K)) (pv 0) pe_int (fun _ _=>rfl)) (pe_ix (ix_tupK (K:=K)) (pv 1) pe_int (fun _ _=>rfl))) (pe_op op_mulN (pe_ix (ix_tupK (K:=K)) (pv 1) pe_int (fun _ _=>rfl)) (pe_ix (ix_tupK (K:=K)) (pv 0) pe_int (fun _ _=>rfl))))
   (pa_cons (pe_op op_mulN (pe_ix (ix_tupK (K:=K)) (pv 0) pe_int (fun _ _=>rfl)) (pe_ix (ix_tupK (K:=K)) (pv 1) pe_int (fun _ _=>rfl))) pa_nil)))),?_⟩
  refine ⟨_,rfl,a,_,_,.int x.1,rfl,rfl,SqT.of ha,at_hd _ _,_,rfl,b,_,_,.int y.2,rfl,rfl,SqT.of hb,at_snd _ _ _,_,_,rfl,rfl,⟨4000,by decide,hx.2.1,hy.2.2⟩,?_⟩
  refine ⟨_,rfl,b,_,_,.int y.1,rfl,rfl,SqT.of hb,at_hd _ _,_,rfl,a,_,_,.int x.2,rfl,rfl,SqT.of ha,at_snd _ _ _,_,_,rfl,rfl,⟨4000,by decide,hy.2.1,hx.2.2⟩,_,_,rfl,rfl,?_⟩
  refine ⟨_,rfl,a,_,_,.int x.2,rfl,rfl,SqT.of ha,at_snd _ _ _,_,rfl,b,_,_,.int y.2,rfl,rfl,SqT.of hb,at_snd _ _ _,_,_,rfl,rfl,⟨4000,by decide,hx.2.2,hy.2.2⟩,?_⟩
  exact ⟨_,_,rfl,(bot_ok hx hy).1,(bot_ok hx hy).2,q⟩
theorem ok_mul2 {f fF:Addr} {fd fdF:FuncData} (F:Fun K "product_of" "product_of" sMul2 f fd) (DF:Dn K mg "fraction_of" sFr ["top","bottom"] fF fdF) (GF:FnOk P w K mg base CX0 2 fF fdF ["top","bottom"] spF):FnOk P w K mg base CX0 3 f fd ["f","g"] spMul2:=by
 refine F.ok scMul2 (fun vs H Q E h=>?_) (fun cdv A outer s H vs Q E hr h=>?_)
 ·obtain ⟨a,b,x,y,rfl,_⟩:=h
  rfl
 ·obtain ⟨a,b,x,y,rfl,ha,hb,hx,hy,q⟩:=h
  refine ⟨_,pss_one (ps_ret (pe_fn DF GF hr rfl (pa_cons (pe_op op_mulN (pe_ix (ix_tupK (K:=K)) (pv 0) pe_int (fun _ _=>rfl)) (pe_ix (ix_tupK (K:=K)) (pv 1) pe_int (fun _ _=>rfl)))
   (pa_cons (pe_op op_mulN (pe_ix (ix_tupK (K:=K)) (pv 0) pe_int (fun _ _=>rfl)) (pe_ix (ix_tupK (K:=K)) (pv 1) pe_int (fun _ _=>rfl))) pa_nil)))),?_⟩
  refine ⟨_,rfl,a,_,_,.int x.1,rfl,rfl,SqT.of ha,at_hd _ _,_,rfl,b,_,_,.int y.1,rfl,rfl,SqT.of hb,at_hd _ _,_,_,rfl,rfl,⟨4000,by decide,hx.2.1,hy.2.1⟩,?_⟩
  refine ⟨_,rfl,a,_,_,.int x.2,rfl,rfl,SqT.of ha,at_snd _ _ _,_,rfl,b,_,_,.int y.2,rfl,rfl,SqT.of hb,at_snd _ _ _,_,_,rfl,rfl,⟨4000,by decide,hx.2.2,hy.2.2⟩,?_⟩
  exact ⟨_,_,rfl,(bot_ok hx hy).1,(bot_ok hx hy).2,q⟩
abbrev nSumAll:List Str:=["fractions","total","f"]
theorem scSumAll:FnScope nSumAll ["fractions"] (defScope sSumAll):=by constructor<;>first|rfl|decide +kernel
def spSumAll:Sp:=fun vs H Q _=>∃ (a:Addr) (x:List V) (fs:List (Int × Int)),vs=[.ref a]∧H a=some (.lst x)∧FrAt H x fs∧fs.length≤16∧(∀ f ∈ fs,FrQ f)∧∀ p H',Same H H'→H p=none→H' p=some (tupF (sumL fs))→Q (.ref p) H'
theorem ok_sumAll {f fS:Addr} {fd fdS:FuncData} (F:Fun K "sum_of_all" "sum_of_all" sSumAll f fd) (DS:Dn K mg "sum_of_two" sSum2 ["f","g"] fS fdS) (GS:FnOk P w K mg base CX0 3 fS fdS ["f","g"] spSum2):FnOk P w K mg base CX0 4 f fd ["fractions"] spSumAll:=by
 refine F.ok scSumAll (fun vs H Q E h=>?_) (fun cdv A outer s H vs Q E hr h=>?_)
 ·obtain ⟨a,x,fs,rfl,_⟩:=h
  rfl
 ·obtain ⟨a,x,fs,rfl,ha,hx,hl,hb,q⟩:=h
  refine ⟨_,pss_cons (ps_set (i:=1) scSumAll.nd rfl (Or.inl rfl) (pe_tup (pa_cons pe_int (pa_cons pe_int pa_nil))))
   (pss_cons (ps_for PassesOwn.never rfl (pi_list (pv 0)) (pg_name (i:=2) scSumAll.nd rfl (Or.inl rfl))
    (pss_one (ps_set (i:=1) scSumAll.nd rfl (Or.inl rfl) (pe_fn DS GS hr rfl (pa_cons (pv 1) (pa_cons (pv 2) pa_nil))))))
   (pss_one (ps_ret (pv 1)))),?_⟩
  refine ⟨sz2,fun t ht=>?_⟩
  have s0:Same H (upd H t (.tup [.int 0,.int 1])):=Same.upd ht
  have e0:upd H t (.tup [.int 0,.int 1]) t=some (tupF (0,1)):=upd_same
  generalize upd H t (.tup [.int 0,.int 1])=H0 at s0 e0 ⊢
  refine ⟨_,rfl,a,rfl,⟨_,SqL.of (s0 _ _ ha)⟩,for_list (xs:=x) (fun i σ H'=>∃ (p:Addr) (o2:Option V),σ=[some (.ref a),some (.ref p),o2]∧Same H H'∧H p=none∧H' p=some (tupF (sumL (fs.take i)))) ⟨t,none,rfl,s0,ht,e0⟩ (fun i σ H' _ ⟨_,_,_,s',_⟩=>SqL.of (s' _ _ ha)) ?_ ?_⟩
  ·rintro i v σ H1 hv ⟨p,o2,rfl,s1,np,ep⟩
   obtain ⟨g,hg⟩:=get_lt (l:=fs) (i:=i) (by rw [←hx.1]; exact lt_get hv)
   obtain ⟨r,rfl,hr'⟩:=hx.2 i v g hv hg
   obtain ⟨b1,b2,b3⟩:=sumL_bn _ (fs.take i) rfl (fun f hf=>(hb f (mem_of_mem_take hf)).1) (fun f hf=>(hb f (mem_of_mem_take hf)).2)
   have hle:1+201 * (fs.take i).length≤4000:=by rw [length_take]; omega
   have sn:sumL (fs.take (i+1))=addL (sumL (fs.take i)) g:=by rw [take_snoc hg,sumL_snoc]
   refine ⟨_,rfl,_,rfl,p,r,_,g,rfl,ep,s1 _ _ hr',⟨b1,b2.mono hle,b3.mono hle⟩,(hb g (mem_of_getElem? hg)).s,fun z hz=>?_⟩
   refine ⟨z,some (.ref r),rfl,s1.trans (Same.upd hz),?_,by rw [sn]; exact upd_same⟩
   cases e:H z with
   | none=>rfl
   | some o=>rw [s1 _ _ e] at hz; cases hz
  ·rintro σ H1 ⟨p,o2,rfl,s1,np,ep⟩
   refine ⟨_,rfl,q p _ s1 np ?_⟩
   rw [hx.1,take_length] at ep
   exact ep
abbrev nMerged:List Str:=["marks","mark","other"]
theorem scMerged:FnScope nMerged nMerged (defScope sMerged):=by constructor<;>first|rfl|decide +kernel
theorem lcMerged:LcScopes (defScope sMerged) nMerged (lcScope (asgVal (bodyAt sMerged 0))) ["one"]:=by constructor<;>first|rfl|decide +kernel
def spMerged:Sp:=fun vs H Q _=>∃ (a:Addr) (ms:List Int) (x y:Int),vs=[.ref a,.int x,.int y]∧H a=some (.lst (ms.map V.int))∧ms.length≤900∧∀ D H',Same H H'→H D=none→H' D=some (.lst ((mgI ms x y).map V.int))→Q (.ref D) H'
theorem ok_merged {f:Addr} {fd:FuncData} (F:Fun K "merged" "merged" sMerged f fd):FnOk P w K mg base CX0 1 f fd nMerged spMerged:=by
 refine F.ok scMerged (fun vs H Q E h=>?_) (fun cdv A outer s H vs Q E hr h=>?_)
 ·obtain ⟨a,ms,x,y,rfl,_⟩:=h
  rfl
 ·obtain ⟨a,ms,x,y,rfl,ha,hl,q⟩:=h
  refine ⟨_,pss_one (ps_ret (pe_lc1 rfl lcMerged rfl (pi_list (pv 0)) (fun _ _ _=>pe_ifExp (pt_cmpR op_eq (pv 3) (pv 2) (nomark _)) (pv 1) (pv 3)))),?_⟩
  refine ⟨_,rfl,a,rfl,⟨_,SqL.of ha⟩,fun D hD=>?_⟩
  refine lc_vals ((mgI ms x y).map V.int) (by unfold mgI; rw [length_map,length_map,length_map]) (by rw [length_map]; exact hl) hD (SqL.of ha) ?_ ?_ ?_
  ·intro i v u H' hv hu s'
   obtain ⟨z,hz,rfl⟩:=map_get hv
   obtain ⟨z',hz',rfl⟩:=map_get hu
   obtain ⟨o,ho,rfl⟩:=mgI_get hz'
   rw [hz] at ho
   cases ho
   refine ⟨_,rfl,_,rfl,rfl,_,rfl,?_⟩
   by_cases e:z=y
   ·refine itDP (by rw [e]) ⟨_,rfl,?_,Same.refl _⟩
    rw [if_pos e]
   ·refine itDN (fun t=>e (V.int.inj t)) ⟨_,rfl,?_,Same.refl _⟩
    rw [if_neg e]
  ·intro H' s' eD
   exact q D H' s' hD eD
  ·rintro σ H' Q1 Q2 hq ⟨v,e,v',e',sc,c,ec,g⟩
   refine ⟨v,e,v',e',sc,c,ec,?_⟩
   cases c with
   | true=>obtain ⟨u,eu,g⟩:=(show ∃ u,_∧_ from g); exact ⟨u,eu,hq _ _ g⟩
   | false=>obtain ⟨u,eu,g⟩:=(show ∃ u,_∧_ from g); exact ⟨u,eu,hq _ _ g⟩
theorem low_unit {c:Int} (h:0 < c):M11.low 1 c=(1,c):=M11.low_self h Int.one_gcd
theorem FrI.put {H1 H4 H5:Hp} {D p:Addr} {fs:List (Int × Int)} {i:Nat} {ys:List V} {f:Int × Int} (hD:H1 D=none) (g:FrI H1 D fs i ys H4) (hf:fs[i]? = some f) (hp:H5 p=some (tupF f)) (npD:p≠D) (s5:Same H4 H5) (hm:i < 900) :
  H5 D=some (.lst ys)∧ys.length < sizeLine∧FrI H1 D fs (i+1) (ys++[.ref p]) (upd H5 D (.lst (ys++[.ref p]))):=by
 obtain ⟨rs,rfl,lr,s4,eD,nD,hr⟩:=g
 refine ⟨s5 _ _ eD,small1000 (by rw [length_map]; omega),rs++[p],by rw [map_append]; rfl,by rw [length_append,lr]; rfl,fun b o e=>?_,upd_same,fun r h=>?_,fun j r y h1 h2=>?_⟩
 ·rw [upd_ne (ne_of_none e hD)]
  exact s5 _ _ (s4 _ _ e)
 ·rcases mem_append.mp h with z | z
  ·exact nD r z
  ·rw [mem_singleton.mp z]; exact npD
 ·rcases snoc_get h1 with z | ⟨e,z⟩
  ·rw [upd_ne (nD r (mem_of_getElem? z))]
   exact s5 _ _ (hr j r y z h2)
  ·subst z
   rw [e,lr,hf] at h2
   cases h2
   rw [upd_ne npD]
   exact hp
def shRow (as bs:List Int) (l:Int):List (Int × Int):=bs.map fun b=>if b=l then (1,((as.count l:Nat):Int)) else (0,1)
abbrev nLotSh:List Str:=["lot","lots","lots_there","share"]
abbrev aLotSh:List Str:=["lot","lots","lots_there"]
theorem scLotSh:FnScope nLotSh aLotSh (defScope sLotSh):=by constructor<;>first|rfl|decide +kernel
theorem lcLotSh:LcScopes (defScope sLotSh) nLotSh (lcScope (asgVal (bodyAt sLotSh 1))) ["lot_there"]:=by constructor<;>first|rfl|decide +kernel
def spLotSh:Sp:=fun vs H Q _=>∃ (a b:Addr) (as bs:List Int) (l:Int),vs=[.int l,.ref a,.ref b]∧H a=some (.lst (as.map V.int))∧H b=some (.lst (bs.map V.int))∧l ∈ as∧as.length≤16∧bs.length≤16 ∧
 ∀ D H' x,Same H H'→H D=none→H' D=some (.lst x)→FrAt H' x (shRow as bs l)→Q (.ref D) H'
theorem ok_lotSh {f fF:Addr} {fd fdF:FuncData} (F:Fun K "shares_of_lot" "shares_of_lot" sLotSh f fd) (DF:Dn K mg "fraction_of" sFr ["top","bottom"] fF fdF) (GF:FnOk P w K mg base CX0 2 fF fdF ["top","bottom"] spF):FnOk P w K mg base CX0 3 f fd aLotSh spLotSh:=by
 refine F.ok scLotSh (fun vs H Q E h=>?_) (fun cdv A outer s H vs Q E hr h=>?_)
 ·obtain ⟨a,b,as,bs,l,rfl,_⟩:=h
  rfl
 ·obtain ⟨a,b,as,bs,l,rfl,ha,hb,ml,la,lb,q⟩:=h
  have c0:0 < as.count l:=List.count_pos_iff.mpr ml
  have c1:as.count l≤16:=Nat.le_trans List.count_le_length la
  refine ⟨_,pss_cons (ps_set (i:=3) scLotSh.nd rfl (Or.inr rfl) (pe_fn DF GF hr rfl (pa_cons pe_int (pa_cons (pe_bm plainAttrs_list PySem.F.slot_list_count PySem.F.type_list_count mt_countI (pv 1) (pa_cons (pv 0) pa_nil)) pa_nil))))
   (pss_one (ps_ret (pe_lc1 rfl lcLotSh rfl (pi_list (pv 2)) (fun _ _ _=>pe_ifExp (pt_cmpR op_eq (pv 4) (pv 0) (nomark _)) (pv 3) (pe_tup (pa_cons pe_int (pa_cons pe_int pa_nil))))))),?_⟩
  refine ⟨_,rfl,.inl ⟨rfl,_,SqL.of ha⟩,_,rfl,a,as,l,rfl,rfl,ha,1,((as.count l:Nat):Int),rfl,by omega,?_,fun t ht=>?_⟩
  ·exact M11.Bn.mono (n:=5) (m:=9000) (show ((as.count l:Nat):Int).natAbs < 2 ^ 5 by have:(2:Nat) ^ 5=32:=rfl; omega) (by decide)
  rw [low_unit (by omega)]
  have s0:Same H (upd H t (tupF (1,((as.count l:Nat):Int)))):=Same.upd ht
  have e0:upd H t (tupF (1,((as.count l:Nat):Int))) t=some (tupF (1,((as.count l:Nat):Int))):=upd_same
  generalize upd H t (tupF (1,((as.count l:Nat):Int)))=H0 at s0 e0 ⊢
  refine ⟨_,rfl,b,rfl,⟨_,SqL.of (s0 _ _ hb)⟩,fun D hD=>?_⟩
  refine lc_list (K:=K) (xs:=bs.map V.int) (FrI H0 D (shRow as bs l)) (FrI.start hD) (fun i ys H' _ g=>⟨SqL.of (g.same _ _ (s0 _ _ hb)),g.at⟩) ?_ ?_ ?_
  ·rintro i v ys H1 hv g
   obtain ⟨z,hz,rfl⟩:=map_get hv
   have hi:i < bs.length:=lt_get hz
   have hf:(shRow as bs l)[i]? = some (if z=l then (1,((as.count l:Nat):Int)) else (0,1)):=by unfold shRow; rw [getElem?_map,hz]; rfl
   refine ⟨_,rfl,_,rfl,rfl,_,rfl,?_⟩
   by_cases e:z=l
   ·rw [if_pos e] at hf
    refine itDP (by rw [e]) ⟨_,rfl,?_⟩
    exact g.put hD hf (g.same _ _ e0) (fun t'=>by rw [t',hD] at e0; cases e0) (Same.refl _) (by omega)
   ·rw [if_neg e] at hf
    refine itDN (fun t=>e (V.int.inj t)) ⟨sz2,fun p hp=>?_⟩
    exact g.step hD hf upd_same hp (Same.upd hp) (by omega)
  ·intro ys H1 g
   obtain ⟨eD,fr⟩:=g.done (by unfold shRow; rw [length_map,length_map])
   refine q D H1 ys (s0.trans g.same) ?_ eD fr
   cases e:H D with
   | none=>rfl
   | some o=>rw [s0 _ _ e] at hD; cases hD
  ·rintro σ H' Q1 Q2 hq ⟨v,e,v',e',sc,c,ec,g⟩
   refine ⟨v,e,v',e',sc,c,ec,?_⟩
   cases c with
   | true=>obtain ⟨u,eu,g⟩:=(show ∃ u,_∧_ from g); exact ⟨u,eu,hq _ _ g⟩
   | false =>
    obtain ⟨u,g⟩:=(show _∧_ from g)
    exact ⟨u,fun p hp=>hq _ _ (g p hp)⟩
def FGrN (H0 H':Hp) (D:Addr) (F:List (List (Int × Int))):Prop:=∃ rs:List Addr,H' D=some (.lst (rs.map V.ref))∧rs.length=F.length∧H0 D=none∧(∀ r ∈ rs,r≠D∧H0 r=none) ∧
 ∀ (i:Nat) (r:Addr) (fs:List (Int × Int)),rs[i]? = some r→F[i]? = some fs→∃ x,H' r=some (.lst x)∧FrAt H' x fs
def FGrI (H1:Hp) (D:Addr) (F:List (List (Int × Int))) (i:Nat) (ys:List V) (H':Hp):Prop:=∃ rs:List Addr,ys=rs.map V.ref∧rs.length=i∧Same H1 H'∧H' D=some (.lst ys)∧(∀ r ∈ rs,r≠D∧H1 r=none) ∧
 ∀ (j:Nat) (r:Addr) (fs:List (Int × Int)),rs[j]? = some r→F[j]? = some fs→∃ x,H' r=some (.lst x)∧FrAt H' x fs
theorem FrAt.upd {H:Hp} {x:List V} {fs:List (Int × Int)} {D:Addr} {ys zs:List V} (h:FrAt H x fs) (eD:H D=some (.lst ys)):FrAt (upd H D (.lst zs)) x fs:=⟨h.1,fun i v f h1 h2=>by
 obtain ⟨p,e,hp⟩:=h.2 i v f h1 h2
 refine ⟨p,e,?_⟩
 rw [upd_ne fun z=>by rw [z,eD] at hp; cases hp]
 exact hp⟩
theorem FGrI.start {H1:Hp} {D:Addr} {F:List (List (Int × Int))} (hD:H1 D=none):FGrI H1 D F 0 [] (upd H1 D (.lst [])):=⟨[],rfl,rfl,Same.upd hD,upd_same,(fun r h=>by cases h),(fun j r x h _=>by cases h)⟩
theorem FGrI.same {H1 H':Hp} {D:Addr} {F:List (List (Int × Int))} {i:Nat} {ys:List V} (g:FGrI H1 D F i ys H'):Same H1 H':=let ⟨_,_,_,z,_⟩:=g; z
theorem FGrI.at {H1 H':Hp} {D:Addr} {F:List (List (Int × Int))} {i:Nat} {ys:List V} (g:FGrI H1 D F i ys H'):H' D=some (.lst ys):=let ⟨_,_,_,_,z,_⟩:=g; z
theorem FGrI.step {H1 H4 H5:Hp} {D r:Addr} {F:List (List (Int × Int))} {i:Nat} {ys x:List V} {fs:List (Int × Int)} (hD:H1 D=none) (g:FGrI H1 D F i ys H4) (hf:F[i]? = some fs) (hn:H4 r=none) (hr:H5 r=some (.lst x)) (hx:FrAt H5 x fs) (s5:Same H4 H5) (hm:i < 900) :
  H5 D=some (.lst ys)∧ys.length < sizeLine∧FGrI H1 D F (i+1) (ys++[.ref r]) (upd H5 D (.lst (ys++[.ref r]))):=by
 obtain ⟨rs,rfl,lr,s4,eD,nD,hR⟩:=g
 have nrD:r≠D:=fun z=>by rw [z,eD] at hn; cases hn
 have nr1:H1 r=none:=by
  cases e:H1 r with
  | none=>rfl
  | some o=>rw [s4 _ _ e] at hn; cases hn
 have eD5:=s5 _ _ eD
 refine ⟨eD5,small1000 (by rw [length_map]; omega),rs++[r],by rw [map_append]; rfl,by rw [length_append,lr]; rfl,fun b o e=>?_,upd_same,fun c h=>?_,fun j c gs h1 h2=>?_⟩
 ·rw [upd_ne (ne_of_none e hD)]
  exact s5 _ _ (s4 _ _ e)
 ·rcases mem_append.mp h with z | z
  ·exact nD c z
  ·rw [mem_singleton.mp z]; exact ⟨nrD,nr1⟩
 ·rcases snoc_get h1 with z | ⟨e,z⟩
  ·obtain ⟨y,hy,fy⟩:=hR j c gs z h2
   refine ⟨y,?_,((fy.mono s5).upd eD5)⟩
   rw [upd_ne (nD c (mem_of_getElem? z)).1]
   exact s5 _ _ hy
  ·subst z
   rw [e,lr,hf] at h2
   cases h2
   exact ⟨x,by rw [upd_ne nrD]; exact hr,hx.upd eD5⟩
theorem FGrI.done {H1 H':Hp} {D:Addr} {F:List (List (Int × Int))} {ys:List V} {n:Nat} (hD:H1 D=none) (g:FGrI H1 D F n ys H') (e:F.length=n):FGrN H1 H' D F:=by
 obtain ⟨rs,rfl,lr,s,eD,nD,hR⟩:=g
 exact ⟨rs,eD,by rw [lr,e],hD,nD,hR⟩
theorem FGrN.back {H0 H1 H':Hp} {D:Addr} {F:List (List (Int × Int))} (g:FGrN H1 H' D F) (s:Same H0 H1):FGrN H0 H' D F:=by
 have b:∀ {c:Addr},H1 c=none→H0 c=none:=fun {c} h=>by
  cases e:H0 c with
  | none=>rfl
  | some o=>rw [s _ _ e] at h; cases h
 obtain ⟨rs,eD,lr,nD,nR,hR⟩:=g
 exact ⟨rs,eD,lr,b nD,fun r hr=>⟨(nR r hr).1,b (nR r hr).2⟩,hR⟩
def evT (as bs:List Int):List (List (Int × Int)):=as.map (shRow as bs)
abbrev nTabOf:List Str:=["web","other","together","lots"]
theorem scTabOf:FnScope nTabOf ["web","other"] (defScope sTabOf):=by constructor<;>first|rfl|decide +kernel
theorem lcTabOf:LcScopes (defScope sTabOf) nTabOf (lcScope (asgVal (bodyAt sTabOf 2))) ["lot"]:=by constructor<;>first|rfl|decide +kernel
def spTabOf:Sp:=fun vs H Q _=>∃ (wA oA:Addr) (n m:Nat) (hs hs':List Int) (M M':List (List Int)),vs=[.ref wA,.ref oA]∧Wz H wA n hs M∧Wz H oA m hs' M'∧n≤8∧m≤8 ∧
 ∀ (D:Addr) (ls:List Int) (H':Hp),Same H H'→Coarse (hs++hs') (besM n m M M') ls→FGrN H H' D (evT (ls.take n) (ls.drop n))→Q (.ref D) H'
theorem ok_tabOf {f fC fS:Addr} {fd fdC fdS:FuncData} (F:Fun K "table_of" "table_of" sTabOf f fd) (DC:Dn K mg "coarsest_together" sTogether ["web","other"] fC fdC) (GC:FnOk P w K mg base CX0 4 fC fdC ["web","other"] spTogether)
  (DS:Dn K mg "shares_of_lot" sLotSh aLotSh fS fdS) (GS:FnOk P w K mg base CX0 3 fS fdS aLotSh spLotSh):FnOk P w K mg base CX0 5 f fd ["web","other"] spTabOf:=by
 refine F.ok scTabOf (fun vs H Q E h=>?_) (fun cdv A outer s H vs Q E hr h=>?_)
 ·obtain ⟨a,b,n,m,hs,hs',M,M',rfl,_⟩:=h
  rfl
 ·obtain ⟨wA,oA,n,m,hs,hs',M,M',rfl,W1,W2,hn,hm,q⟩:=h
  have r3:=hr.mono (j:=3) (by decide)
  refine ⟨_,pss_cons (ps_set (i:=2) scTabOf.nd rfl (Or.inr rfl) (pe_fn DC GC hr rfl (pa_cons (pv 0) (pa_cons (pv 1) pa_nil))))
   (pss_cons (ps_set (i:=3) scTabOf.nd rfl (Or.inr rfl) (pe_ix ix_tup (pv 2) pe_int (fun _ _=>rfl)))
   (pss_one (ps_ret (pe_lc1 rfl lcTabOf rfl (pi_list (pv 3)) (fun _ _ _=>pe_fn DS GS r3 rfl (pa_cons (pv 4) (pa_cons (pv 3) (pa_cons (pe_ix (ix_tupK (K:=K)) (pv 2) pe_int (fun _ _=>rfl)) pa_nil)))))))),?_⟩
  refine ⟨_,rfl,_,rfl,wA,oA,n,m,hs,hs',M,M',rfl,W1,W2,hn,hm,fun p a b ls H1 s1 ep ea eb C=>?_⟩
  have ll:ls.length=n+m:=by rw [←C.len,length_append,W1.len,W2.len]
  have lt:(ls.take n).length=n:=by rw [length_take]; omega
  have ld:(ls.drop n).length=m:=by rw [length_drop]; omega
  refine ⟨_,rfl,p,_,_,.ref a,rfl,rfl,SqT.of ep,at_hd _ _,?_⟩
  refine ⟨_,rfl,a,rfl,⟨_,SqL.of ea⟩,fun D hD=>?_⟩
  refine lc_list (K:=K) (xs:=(ls.take n).map V.int) (FGrI H1 D (evT (ls.take n) (ls.drop n))) (FGrI.start hD) (fun i ys H' _ g=>⟨SqL.of (g.same _ _ ea),g.at⟩) ?_ ?_ ?_
  ·rintro i v ys H2 hv g
   obtain ⟨l,hl,rfl⟩:=map_get hv
   have hi:i < n:=by have:=lt_get hl; omega
   have s2:=g.same
   have hf:(evT (ls.take n) (ls.drop n))[i]? = some (shRow (ls.take n) (ls.drop n) l):=by unfold evT; rw [getElem?_map,hl]; rfl
   refine ⟨_,rfl,_,rfl,_,rfl,p,_,_,.ref b,rfl,rfl,SqT.of (s2 _ _ ep),at_snd _ _ _,a,b,_,_,l,rfl,s2 _ _ ea,s2 _ _ eb,mem_of_getElem? hl,by omega,by omega,fun r H3 x s3 nr er fr=>?_⟩
   exact g.step hD hf nr er fr s3 (by omega)
  ·intro ys H2 g
   exact q D ls H2 (s1.trans g.same) C ((g.done hD (by unfold evT; rw [length_map,length_map])).back s1)
  ·intro σ H' Q1 Q2 hq h
   obtain ⟨v,e,v',e',u,eu,p',xs,y,z,a1,a2,a3,a4,g⟩:=h
   refine ⟨v,e,v',e',u,eu,p',xs,y,z,a1,a2,a3,a4,?_⟩
   obtain ⟨a',b',as,bs,l,e1,h1,h2,h3,h4,h5,k⟩:=g
   exact ⟨a',b',as,bs,l,e1,h1,h2,h3,h4,h5,fun D H3 x s3 n3 e3 f3=>hq _ _ (k D H3 x s3 n3 e3 f3)⟩
theorem lc_zipP {a b:Addr} {xs ys:List V} {te:TE} {Q:VK} {σ:L2.St} {n:Nat} {H1:Hp} (Pv:Addr→Nat→List V→Hp→Prop) (hn:σ.length=n) (hly:ys.length=xs.length) (h0:∀ D,H1 D=none→Pv D 0 [] (upd H1 D (.lst [])))
  (hl:∀ D i zs H',H1 D=none→i≤xs.length→Pv D i zs H'→SqL K H' a xs∧SqL K H' b ys∧H' D=some (.lst zs))
  (hs:∀ (D:Addr) (i:Nat) (x y:V) (t:Addr) zs H',H1 D=none→xs[i]? = some x→ys[i]? = some y→Pv D i zs H'→H' t=none→te (σ++[some x,some y]) (upd H' t (.tup [x,y])) fun u H3=>H3 D=some (.lst zs)∧zs.length < sizeLine∧Pv D (i+1) (zs++[u]) (upd H3 D (.lst (zs++[u]))))
  (hd:∀ D zs H',H1 D=none→Pv D xs.length zs H'→Q (.ref D) H')
  (mono:∀ σ H Q Q',(∀ v H1,Q v H1→Q' v H1)→te σ H Q→te σ H Q'):LcW 2 (Itz K a b) (g2 K n) tYes te σ H1 Q:=by
 subst hn
 intro D hD
 refine ⟨fun i m zs H'=>m=xs.length - i∧i≤xs.length∧Pv D i zs H',⟨xs.length,by simp,Nat.zero_le _,h0 D hD⟩,?_⟩
 rintro i m zs H2 ⟨rfl,hi,pv⟩
 obtain ⟨hx,hy,eD⟩:=hl D i zs H2 hD hi pv
 refine ⟨eD,?_⟩
 by_cases hlt:i < xs.length
 ·have ex:xs[i]? = some xs[i]:=getElem?_eq_getElem (by omega)
  have ey:ys[i]? = some (ys[i]'(by omega)):=getElem?_eq_getElem (by omega)
  refine .inr ⟨⟨xs,ys,_,_,hx,hy,ex,ey⟩,?_⟩
  rintro z H3 ⟨t,x,y,rfl,ht,rfl,hx',hy'⟩ os los
  have hx1:=hx' xs hx
  have hy1:=hy' ys hy
  match os,los with
  | [o1,o2],_ =>
   refine ⟨t,[x,y],rfl,SqT.of upd_same,rfl,x,[y],rfl,y,[],rfl,rfl,⟨[some x,some y],set2 σ o1 o2 x y,rfl⟩,?_⟩
   dsimp only [tYes]
   rw [if_pos rfl,set2 σ o1 o2 x y]
   refine mono _ _ _ _ ?_ (hs D i x y t zs H2 hD hx1 hy1 pv ht)
   rintro u H5 ⟨e5,z5,p5⟩
   exact ⟨e5,z5,xs.length - (i+1),by omega,rfl,hlt,p5⟩
 ·have:i=xs.length:=by omega
  subst this
  exact .inl ⟨⟨xs,ys,hx,hy,.inl (by omega)⟩,hd D zs H2 hD pv⟩
def FrT (f:Int × Int):Prop:=0 < f.2∧M11.Bn 90 f.1∧M11.Bn 90 f.2
theorem FrT.q {f:Int × Int} (h:FrT f):FrQ f:=⟨h.1,h.2.1.mono (by decide),h.2.2.mono (by decide)⟩
theorem FrT.mul {f g:Int × Int} (h:FrT f) (h':FrT g):FrQ (mulL f g):=by
 have hb:f.2 * g.2≠0:=Int.ne_of_gt (Int.mul_pos h.1 h'.1)
 exact ⟨M11.low_pos hb,((h.2.1.mul h'.2.1).mono (by decide)).le (M11.low_le hb).1,((h.2.2.mul h'.2.2).mono (by decide)).le (M11.low_le hb).2⟩
theorem scJShare:FnScope ["row","column"] ["row","column"] (defScope sJShare):=by constructor<;>first|rfl|decide +kernel
theorem lcJShare:LcScopes (defScope sJShare) ["row","column"] (lcScope (argAt (asgVal (bodyAt sJShare 0)) 0)) ["f","g"]:=by constructor<;>first|rfl|decide +kernel
def jSh (fs gs:List (Int × Int)):Int × Int:=sumL (List.zipWith mulL fs gs)
def spJShare:Sp:=fun vs H Q _=>∃ (a b:Addr) (x y:List V) (fs gs:List (Int × Int)),vs=[.ref a,.ref b]∧H a=some (.lst x)∧FrAt H x fs∧H b=some (.lst y)∧FrAt H y gs∧gs.length=fs.length∧fs.length≤16∧(∀ f ∈ fs,FrT f)∧(∀ f ∈ gs,FrT f) ∧
 ∀ p H',Same H H'→H p=none→H' p=some (tupF (jSh fs gs))→Q (.ref p) H'
theorem ok_jShare {f fM fS:Addr} {fd fdM fdS:FuncData} (B:BltR mg) (F:Fun K "joined_share" "joined_share" sJShare f fd) (DM:Dn K mg "product_of" sMul2 ["f","g"] fM fdM) (GM:FnOk P w K mg base CX0 3 fM fdM ["f","g"] spMul2)
  (DS:Dn K mg "sum_of_all" sSumAll ["fractions"] fS fdS) (GS:FnOk P w K mg base CX0 4 fS fdS ["fractions"] spSumAll):FnOk P w K mg base CX0 5 f fd ["row","column"] spJShare:=by
 refine F.ok scJShare (fun vs H Q E h=>?_) (fun cdv A outer s H vs Q E hr h=>?_)
 ·obtain ⟨a,b,x,y,fs,gs,rfl,_⟩:=h
  rfl
 ·obtain ⟨a,b,x,y,fs,gs,rfl,ha,fx,hb,gy,lg,lf,bf',bg',q⟩:=h
  have r3:=hr.mono (j:=3) (by decide)
  have lz:(List.zipWith mulL fs gs).length=fs.length:=by rw [length_zipWith]; omega
  refine ⟨_,pss_one (ps_ret (pe_fn DS GS hr rfl (pa_cons (pe_lcs rfl lcJShare rfl (pi_zip rfl B.zip (pa_cons (pv 0) (pa_cons (pv 1) pa_nil))) (pg_two rfl lcJShare) (fun _ _ _=>pts_nil) (fun _ _ _=>pe_fn DM GM r3 rfl (pa_cons (pv 2) (pa_cons (pv 3) pa_nil)))) pa_nil))),?_⟩
  refine ⟨_,rfl,_,rfl,a,b,rfl,⟨_,SqL.of ha⟩,⟨_,SqL.of hb⟩,?_⟩
  refine lc_zipP (fun D=>FrI H D (List.zipWith mulL fs gs)) rfl (by rw [fx.1,gy.1,lg]) (fun D hD=>FrI.start hD) (fun D i zs H' _ _ g=>⟨SqL.of (g.same _ _ ha),SqL.of (g.same _ _ hb),g.at⟩) ?_ ?_ ?_
  ·intro D i u v t zs H' hD hu hv g ht
   obtain ⟨f1,hf1⟩:=get_lt (l:=fs) (i:=i) (by rw [←fx.1]; exact lt_get hu)
   obtain ⟨g1,hg1⟩:=get_lt (l:=gs) (i:=i) (by rw [←gy.1]; exact lt_get hv)
   obtain ⟨p1,rfl,e1⟩:=fx.2 i u f1 hu hf1
   obtain ⟨p2,rfl,e2⟩:=gy.2 i v g1 hv hg1
   have st:Same H' (upd H' t (.tup [.ref p1,.ref p2])):=Same.upd ht
   have s2:=g.same.trans st
   refine ⟨_,rfl,_,rfl,p1,p2,f1,g1,rfl,s2 _ _ e1,s2 _ _ e2,(bf' f1 (mem_of_getElem? hf1)).q.s,(bg' g1 (mem_of_getElem? hg1)).q.s,fun p hp=>?_⟩
   exact g.step hD (by rw [getElem?_zipWith,hf1,hg1]) upd_same (st.free hp) (st.trans (Same.upd hp)) (by have:=lt_get hf1; omega)
  ·intro D zs H' hD g
   obtain ⟨eD,fr⟩:=g.done (by rw [lz,fx.1])
   refine ⟨D,zs,_,rfl,eD,fr,by rw [lz]; exact lf,fun h hh=>?_,fun p H2 s2 np ep=>?_⟩
   ·obtain ⟨i,hi⟩:=mem_iff_getElem?.mp hh
    rw [getElem?_zipWith] at hi
    obtain ⟨f1,hf1⟩:=get_lt (l:=fs) (i:=i) (by
     rcases Nat.lt_or_ge i fs.length with z | z
     ·exact z
     ·rw [getElem?_eq_none z] at hi; cases hi)
    obtain ⟨g1,hg1⟩:=get_lt (l:=gs) (i:=i) (by have:=lt_get hf1; omega)
    rw [hf1,hg1] at hi
    cases hi
    exact (bf' f1 (mem_of_getElem? hf1)).mul (bg' g1 (mem_of_getElem? hg1))
   ·exact q p H2 (g.same.trans s2) (g.same.free np) ep
  ·rintro σ H' Q1 Q2 hq ⟨v,e,v',e',p1,p2,f1,g1,a1,a2,a3,a4,a5,k⟩
   exact ⟨v,e,v',e',p1,p2,f1,g1,a1,a2,a3,a4,a5,fun p hp=>hq _ _ (k p hp)⟩
theorem FGrd.rows {H:Hp} {a:Addr} {F:List (List (Int × Int))} (g:FGrd H a F):∃ rs:List Addr,H a=some (.lst (rs.map V.ref))∧rs.length=F.length∧∀ (i:Nat) (r:Addr) (fs:List (Int × Int)),rs[i]? = some r→F[i]? = some fs→∃ x,H r=some (.lst x)∧FrAt H x fs:=by
 obtain ⟨X,⟨rs,ha,R⟩,l,h⟩:=g
 refine ⟨rs,ha,R.len.trans l,fun i r fs h1 h2=>?_⟩
 obtain ⟨x,hx⟩:=get_lt (l:=X) (i:=i) (by rw [←R.len]; exact lt_get h1)
 exact ⟨x,R.row i r x h1 hx,h i x fs hx h2⟩
theorem FGrN.grd {H0 H:Hp} {a:Addr} {F:List (List (Int × Int))} (g:FGrN H0 H a F):FGrd H a F:=by
 obtain ⟨rs,eD,lr,nD,nR,hR⟩:=g
 have pick:∀ i,∃ x,i < F.length→∀ r fs,rs[i]? = some r→F[i]? = some fs→H r=some (.lst x)∧FrAt H x fs:=fun i=>by
  by_cases hi:i < F.length
  ·obtain ⟨r,h1⟩:=get_lt (l:=rs) (i:=i) (by omega)
   obtain ⟨fs,h2⟩:=get_lt (l:=F) (i:=i) hi
   obtain ⟨x,hx⟩:=hR i r fs h1 h2
   refine ⟨x,fun _ r' fs' e1 e2=>?_⟩
   rw [h1] at e1
   rw [h2] at e2
   cases e1
   cases e2
   exact hx
  ·exact ⟨[],fun z=>absurd z hi⟩
 obtain ⟨g,hg⟩:=Classical.axiomOfChoice pick
 have lX:((List.range F.length).map g).length=F.length:=by rw [length_map,length_range]
 refine ⟨(List.range F.length).map g,⟨rs,eD,⟨lr.trans lX.symm,fun i r x h1 h2=>?_⟩⟩,lX,fun i x fs h1 h2=>?_⟩
 ·have hi:i < F.length:=by rw [←lr]; exact lt_get h1
  rw [getElem?_map,getElem?_range hi] at h2
  cases h2
  obtain ⟨fs,h3⟩:=get_lt (l:=F) (i:=i) hi
  exact (hg i hi r fs h1 h3).1
 ·have hi:i < F.length:=lt_get h2
  rw [getElem?_map,getElem?_range hi] at h1
  cases h1
  obtain ⟨r,h3⟩:=get_lt (l:=rs) (i:=i) (by omega)
  exact (hg i hi r fs h3 h2).2
theorem scJRow:FnScope ["row","columns"] ["row","columns"] (defScope sJRow):=by constructor<;>first|rfl|decide +kernel
theorem lcJRow:LcScopes (defScope sJRow) ["row","columns"] (lcScope (asgVal (bodyAt sJRow 0))) ["column"]:=by constructor<;>first|rfl|decide +kernel
def spJRow:Sp:=fun vs H Q _=>∃ (a b:Addr) (x:List V) (fs:List (Int × Int)) (G:List (List (Int × Int))),vs=[.ref a,.ref b]∧H a=some (.lst x)∧FrAt H x fs∧FGrd H b G∧fs.length≤16∧G.length≤16∧(∀ f ∈ fs,FrT f)∧(∀ g ∈ G,g.length=fs.length∧∀ f ∈ g,FrT f) ∧
 ∀ D H' y,Same H H'→H D=none→H' D=some (.lst y)→FrAt H' y (G.map (jSh fs))→Q (.ref D) H'
theorem ok_jRow {f fJ:Addr} {fd fdJ:FuncData} (F:Fun K "joined_row" "joined_row" sJRow f fd) (DJ:Dn K mg "joined_share" sJShare ["row","column"] fJ fdJ) (GJ:FnOk P w K mg base CX0 5 fJ fdJ ["row","column"] spJShare):FnOk P w K mg base CX0 6 f fd ["row","columns"] spJRow:=by
 refine F.ok scJRow (fun vs H Q E h=>?_) (fun cdv A outer s H vs Q E hr h=>?_)
 ·obtain ⟨a,b,x,fs,G,rfl,_⟩:=h
  rfl
 ·obtain ⟨a,b,x,fs,G,rfl,ha,fx,gG,lf,lG,bF,bG,q⟩:=h
  obtain ⟨rs,hb,lr,hR⟩:=gG.rows
  refine ⟨_,pss_one (ps_ret (pe_lc1 rfl lcJRow rfl (pi_list (pv 1)) (fun _ _ _=>pe_fn DJ GJ hr rfl (pa_cons (pv 0) (pa_cons (pv 2) pa_nil))))),?_⟩
  refine ⟨_,rfl,b,rfl,⟨_,SqL.of hb⟩,fun D hD=>?_⟩
  refine lc_list (K:=K) (xs:=rs.map V.ref) (FrI H D (G.map (jSh fs))) (FrI.start hD) (fun i ys H' _ g=>⟨SqL.of (g.same _ _ hb),g.at⟩) ?_ ?_ ?_
  ·rintro i v ys H1 hv g
   obtain ⟨r,hr',rfl⟩:=map_get hv
   obtain ⟨gs,hg⟩:=get_lt (l:=G) (i:=i) (by rw [←lr]; exact lt_get hr')
   obtain ⟨y,hy,fy⟩:=hR i r gs hr' hg
   have s1:=g.same
   obtain ⟨b1,b2⟩:=bG gs (mem_of_getElem? hg)
   refine ⟨_,rfl,_,rfl,a,r,x,y,fs,gs,rfl,s1 _ _ ha,fx.mono s1,s1 _ _ hy,fy.mono s1,b1,lf,bF,b2,fun p H2 s2 np ep=>?_⟩
   exact g.step hD (by rw [getElem?_map,hg]; rfl) ep np s2 (by have:=lt_get hg; omega)
  ·intro ys H1 g
   obtain ⟨eD,fr⟩:=g.done (by rw [length_map,length_map,lr])
   exact q D H1 ys g.same hD eD fr
  ·rintro σ H' Q1 Q2 hq ⟨v,e,v',e',a1,a2,a3,a4,a5,a6,b1,b2,b3,b4,b5,b6,b7,b8,b9,k⟩
   exact ⟨v,e,v',e',a1,a2,a3,a4,a5,a6,b1,b2,b3,b4,b5,b6,b7,b8,b9,fun p H2 s2 np ep=>hq _ _ (k p H2 s2 np ep)⟩
def colsF (G:List (List (Int × Int))) (n:Nat):List (List (Int × Int)):=(List.range n).map fun j=>G.map fun r=>(r[j]?).getD (0,1)
theorem cols_grd {H:Hp} {D:Addr} {X:List (List V)} {G:List (List (Int × Int))} {n:Nat} (lX:X.length=G.length) (h:∀ (i:Nat) (x:List V) (fs:List (Int × Int)),X[i]? = some x→G[i]? = some fs→FrAt H x fs) (hn:∀ g ∈ G,g.length=n) (g:GrdAt H D (colsV X n)):FGrd H D (colsF G n):=by
 refine ⟨colsV X n,g,by unfold colsV colsF; rw [length_map,length_map],fun j y ks h1 h2=>?_⟩
 unfold colsV at h1
 unfold colsF at h2
 obtain ⟨j1,e1,rfl⟩:=map_get h1
 obtain ⟨j2,e2,rfl⟩:=map_get h2
 rw [e1] at e2
 cases e2
 have hj:j < n:=by have:=lt_get e1; rw [length_range] at this; exact this
 rw [getElem?_range hj] at e1
 cases e1
 refine ⟨by rw [length_map,length_map,lX],fun i v f h3 h4=>?_⟩
 obtain ⟨x,hx,rfl⟩:=map_get h3
 obtain ⟨fs,hf,rfl⟩:=map_get h4
 have fr:=h i x fs hx hf
 have lf:=hn fs (mem_of_getElem? hf)
 obtain ⟨z,hz⟩:=get_lt (l:=fs) (i:=j) (by omega)
 obtain ⟨v,hv⟩:=get_lt (l:=x) (i:=j) (by rw [fr.1]; omega)
 rw [hv,hz]
 exact fr.2 j v z hv hz
def joinT (F G:List (List (Int × Int))) (n:Nat):List (List (Int × Int)):=F.map fun fs=>(colsF G n).map (jSh fs)
theorem colsF_frt {G:List (List (Int × Int))} {n:Nat} (hG:∀ g ∈ G,g.length=n∧∀ f ∈ g,FrT f):∀ c ∈ colsF G n,c.length=G.length∧∀ f ∈ c,FrT f:=by
 intro c hc
 unfold colsF at hc
 obtain ⟨j,hj,rfl⟩:=mem_map.mp hc
 refine ⟨by rw [length_map],fun f hf=>?_⟩
 obtain ⟨g,hg,rfl⟩:=mem_map.mp hf
 obtain ⟨z,hz⟩:=get_lt (l:=g) (i:=j) (by rw [(hG g hg).1]; exact mem_range.mp hj)
 rw [hz]
 exact (hG g hg).2 z (mem_of_getElem? hz)
theorem frat_rows {H:Hp} {X:List (List V)} {G:List (List (Int × Int))} {n:Nat} (lX:X.length=G.length) (h:∀ (i:Nat) (x:List V) (fs:List (Int × Int)),X[i]? = some x→G[i]? = some fs→FrAt H x fs) (hn:∀ g ∈ G,g.length=n):∀ x ∈ X,x.length=n:=by
 intro x hx
 obtain ⟨i,hi⟩:=mem_iff_getElem?.mp hx
 obtain ⟨g,hg⟩:=get_lt (l:=G) (i:=i) (by rw [←lX]; exact lt_get hi)
 rw [(h i x g hi hg).1]
 exact hn g (mem_of_getElem? hg)
abbrev nJoin:List Str:=["table","other","columns"]
theorem scJoin:FnScope nJoin ["table","other"] (defScope sJoin):=by constructor<;>first|rfl|decide +kernel
theorem lcJoin:LcScopes (defScope sJoin) nJoin (lcScope (asgVal (bodyAt sJoin 1))) ["row"]:=by constructor<;>first|rfl|decide +kernel
def spJoin:Sp:=fun vs H Q _=>∃ (a b:Addr) (F G:List (List (Int × Int))) (n:Nat),vs=[.ref a,.ref b]∧FGrd H a F∧FGrd H b G∧F.length≤16∧G.length≤16∧n≤16∧(∀ f ∈ F,f.length=G.length∧∀ z ∈ f,FrT z)∧(∀ g ∈ G,g.length=n∧∀ f ∈ g,FrT f)∧(G=[]→n=0) ∧
 ∀ D H',Same H H'→FGrN H H' D (joinT F G n)→Q (.ref D) H'
theorem ok_join {f fC fR:Addr} {fd fdC fdR:FuncData} (F:Fun K "join_tables" "join_tables" sJoin f fd) (DC:Dn K mg "columns_of" sCols ["rows"] fC fdC) (GC:FnOk P w K mg base CX0 2 fC fdC ["rows"] spCols)
  (DR:Dn K mg "joined_row" sJRow ["row","columns"] fR fdR) (GR:FnOk P w K mg base CX0 6 fR fdR ["row","columns"] spJRow):FnOk P w K mg base CX0 7 f fd ["table","other"] spJoin:=by
 refine F.ok scJoin (fun vs H Q E h=>?_) (fun cdv A outer s H vs Q E hr h=>?_)
 ·obtain ⟨a,b,F,G,n,rfl,_⟩:=h
  rfl
 ·obtain ⟨a,b,F,G,n,rfl,gF,⟨X,gX,lX,hX⟩,lF,lG,hn,bF,bG,h0,q⟩:=h
  obtain ⟨rs,ha,lr,hR⟩:=gF.rows
  have r2:=hr.mono (j:=2) (by decide)
  have hw:∀ g ∈ G,g.length=n:=fun g hg=>(bG g hg).1
  refine ⟨_,pss_cons (ps_set (i:=2) scJoin.nd rfl (Or.inr rfl) (pe_fn DC GC r2 rfl (pa_cons (pv 1) pa_nil)))
   (pss_one (ps_ret (pe_lc1 rfl lcJoin rfl (pi_list (pv 0)) (fun _ _ _=>pe_fn DR GR hr rfl (pa_cons (pv 3) (pa_cons (pv 2) pa_nil)))))),?_⟩
  refine ⟨_,rfl,b,X,n,rfl,gX,by omega,by omega,frat_rows lX hX hw,fun z=>h0 (List.eq_nil_of_length_eq_zero (by rw [←lX,z]; rfl)),fun C H1 s1 nC gC=>?_⟩
  have gC':=cols_grd lX (fun i x fs h1 h2=>(hX i x fs h1 h2).mono s1) hw gC
  refine ⟨_,rfl,a,rfl,⟨_,SqL.of (s1 _ _ ha)⟩,fun D hD=>?_⟩
  refine lc_list (K:=K) (xs:=rs.map V.ref) (FGrI H1 D (joinT F G n)) (FGrI.start hD) (fun i ys H' _ g=>⟨SqL.of (g.same _ _ (s1 _ _ ha)),g.at⟩) ?_ ?_ ?_
  ·rintro i v ys H2 hv g
   obtain ⟨r,hr',rfl⟩:=map_get hv
   obtain ⟨fs,hf⟩:=get_lt (l:=F) (i:=i) (by rw [←lr]; exact lt_get hr')
   obtain ⟨x,hx,fx⟩:=hR i r fs hr' hf
   have s2:=s1.trans g.same
   obtain ⟨b1,b2⟩:=bF fs (mem_of_getElem? hf)
   refine ⟨_,rfl,_,rfl,r,C,x,fs,colsF G n,rfl,s2 _ _ hx,fx.mono s2,gC'.mono g.same,by omega,by unfold colsF; rw [length_map,length_range]; exact hn,b2,fun c hc=>?_,fun D' H3 y s3 n3 e3 f3=>?_⟩
   ·obtain ⟨c1,c2⟩:=colsF_frt bG c hc
    exact ⟨by rw [c1,b1],c2⟩
   ·exact g.step hD (by unfold joinT; rw [getElem?_map,hf]; rfl) n3 e3 f3 s3 (by have:=lt_get hf; omega)
  ·intro ys H2 g
   exact q D H2 (s1.trans g.same) ((g.done hD (by unfold joinT; rw [length_map,length_map,lr])).back s1)
  ·rintro σ H' Q1 Q2 hq ⟨v,e,v',e',a1,a2,a3,a4,a5,a6,b1,b2,b3,b4,b5,b6,b7,k⟩
   exact ⟨v,e,v',e',a1,a2,a3,a4,a5,a6,b1,b2,b3,b4,b5,b6,b7,fun D H3 y s3 n3 e3 f3=>hq _ _ (k D H3 y s3 n3 e3 f3)⟩
end
section
def oneF (c:Int) (t:Bool):Int × Int:=if t=true then (1,c) else (0,1)
theorem low_nil {c:Int} (h:0 < c):M11.low 0 c=(0,1):=M11.low_uniq (by omega) (by decide) (by decide) (by omega)
section
variable {n m l:Nat} {h h' h2:Nat→Int} {M M' N:Nat→Nat→Int} {a b b' d al de:Nat→Int}
end
end
section
open M11
def mat {α:Type} (n:Nat) (g:Nat→Nat→α):List (List α):=(List.range n).map fun u=>(List.range n).map fun w=>g u w
theorem mat_eq {α:Type} {n:Nat} {a b:Nat→Nat→α}:mat n a=mat n b↔∀ u < n,∀ w < n,a u w=b u w:=by
 unfold mat
 rw [map_inj_left]
 constructor
 ·intro h u hu w hw
  have:=h u (mem_range.mpr hu)
  rw [map_inj_left] at this
  exact this w (mem_range.mpr hw)
 ·intro h u hu
  rw [map_inj_left]
  exact fun w hw=>h u (mem_range.mp hu) w (mem_range.mp hw)
theorem lst_of {α:Type} {n:Nat} {xs:List α} {d:α} (h:xs.length=n):xs=(List.range n).map fun u=>(xs[u]?).getD d:=by
 refine ext_getElem? fun i=>?_
 rw [getElem?_map]
 by_cases hi:i < n
 ·obtain ⟨x,hx⟩:=get_lt (l:=xs) (i:=i) (by omega)
  rw [getElem?_range hi,hx,Option.map_some]
  show _=some ((xs[i]?).getD d)
  rw [hx]
  rfl
 ·rw [getElem?_eq_none (by omega:xs.length≤i),getElem?_eq_none (by rw [length_range]; omega)]
  rfl
theorem mat_of {α:Type} {n:Nat} {M:List (List α)} {d:α} (h:M.length=n) (hr:∀ x ∈ M,x.length=n):M=mat n fun u w=>(((M[u]?).getD [])[w]?).getD d:=by
 unfold mat
 conv=>lhs; rw [lst_of (d:=[]) h]
 rw [map_inj_left]
 intro u hu
 obtain ⟨x,hx⟩:=get_lt (l:=M) (i:=u) (by rw [h]; exact mem_range.mp hu)
 have e:=lst_of (d:=d) (hr x (mem_of_getElem? hx))
 show (M[u]?).getD []=(List.range n).map fun w=>(((M[u]?).getD [])[w]?).getD d
 rw [hx]
 exact e
theorem zip_self {α β:Type} (k:α→α→β):∀ l:List α,List.zipWith k l l=l.map fun a=>k a a
 | []=>rfl
 | a :: l=>by rw [List.zipWith_cons_cons,zip_self k l]; rfl
theorem zip_rng {α β γ:Type} {n:Nat} (k:α→β→γ) (f:Nat→α) (g:Nat→β):List.zipWith k ((List.range n).map f) ((List.range n).map g)=(List.range n).map fun v=>k (f v) (g v):=by
 rw [List.zipWith_map,zip_self]
theorem rng_get {α:Type} {n i:Nat} {f:Nat→α} {d:α} (h:i < n):(((List.range n).map f)[i]?).getD d=f i:=by
 rw [getElem?_map,getElem?_range h]
 rfl
theorem cols_mat (n:Nat) (g:Nat→Nat→Int):colsI (mat n g) n=mat n fun w u=>g u w:=by
 unfold colsI mat
 rw [map_inj_left]
 intro w hw
 rw [map_map,map_inj_left]
 intro u _
 exact rng_get (mem_range.mp hw)
theorem prod_mat (n:Nat) (a b:Nat→Nat→Int):prodI (mat n a) (mat n b) n=mat n fun u w=>((List.range n).map fun v=>b v w * a u v).sum:=by
 unfold prodI
 rw [cols_mat]
 unfold mat
 rw [map_map,map_inj_left]
 intro u _
 show List.map _ (List.map _ _)=_
 rw [map_map,map_inj_left]
 intro w _
 show TM.dot _ _=_
 unfold TM.dot
 rw [zip_rng]
theorem mem_mat {α:Type} {n:Nat} {g:Nat→Nat→α} {r:List α}:r ∈ mat n g↔∃ u < n,r=(List.range n).map fun w=>g u w:=by
 unfold mat
 rw [mem_map]
 exact ⟨fun ⟨u,h1,h2⟩=>⟨u,mem_range.mp h1,h2.symm⟩,fun ⟨u,h1,h2⟩=>⟨u,mem_range.mpr h1,h2.symm⟩⟩
theorem come_mat {n:Nat} {g:Nat→Nat→Int} {z:Int}:comeB (mat n g) z=true↔∀ u < n,((List.range n).map fun w=>g u w).sum=z:=by
 unfold comeB
 rw [all_eq_true]
 constructor
 ·exact fun h u hu=>of_decide_eq_true (h _ (mem_mat.mpr ⟨u,hu,rfl⟩))
 ·intro h r hr
  obtain ⟨u,hu,rfl⟩:=mem_mat.mp hr
  exact decide_eq_true (h u hu)
theorem shared_mat {n:Nat} {g:Nat→Nat→Int} {z:Int}:sharedB (mat n g) n z=true↔(∀ u < n,∀ w < n,0≤g u w)∧(∀ u < n,((List.range n).map fun w=>g u w).sum=z)∧∀ w < n,((List.range n).map fun u=>g u w).sum=z:=by
 unfold sharedB
 rw [Bool.and_eq_true,Bool.and_eq_true,cols_mat,come_mat,come_mat,all_eq_true]
 refine and_congr ⟨fun h u hu w hw=>of_decide_eq_true (h (g u w) ?_),fun h x hx=>decide_eq_true ?_⟩ Iff.rfl
 ·exact mem_flatten.mpr ⟨_,mem_mat.mpr ⟨u,hu,rfl⟩,mem_map.mpr ⟨w,mem_range.mpr hw,rfl⟩⟩
 ·obtain ⟨r,hr,hx⟩:=mem_flatten.mp hx
  obtain ⟨u,hu,rfl⟩:=mem_mat.mp hr
  obtain ⟨w,hw,rfl⟩:=mem_map.mp hx
  exact h u hu w (mem_range.mp hw)
theorem keep_mat {n:Nat} {g:Nat→Nat→Int} {hs hs':List Int} (h1:hs.length=n) (h2:hs'.length=n):keepHB hs hs' (mat n g)=true↔∀ u < n,∀ w < n,g u w=0 ∨ hs'.getD w 0=hs.getD u 0:=by
 have e1:=lst_of (d:=(0:Int)) h1
 have e2:=lst_of (d:=(0:Int)) h2
 unfold keepHB mat
 conv=>lhs; rw [e1]
 rw [zip_rng,all_eq_true]
 have k:∀ u,keepB (hs[u]?.getD 0) hs' ((List.range n).map fun w=>g u w)=true↔∀ w < n,g u w=0 ∨ hs'.getD w 0=hs.getD u 0:=fun u=>by
  unfold keepB
  conv=>lhs; rw [e2]
  rw [zip_rng,all_eq_true]
  constructor
  ·intro h w hw
   have:=h _ (mem_map.mpr ⟨w,mem_range.mpr hw,rfl⟩)
   rw [id,Bool.or_eq_true,decide_eq_true_iff,decide_eq_true_iff] at this
   rw [getD_eq_getElem?_getD,getD_eq_getElem?_getD]
   exact this
  ·intro h b hb
   obtain ⟨w,hw,rfl⟩:=mem_map.mp hb
   rw [id,Bool.or_eq_true,decide_eq_true_iff,decide_eq_true_iff]
   have:=h w (mem_range.mp hw)
   rw [getD_eq_getElem?_getD,getD_eq_getElem?_getD] at this
   exact this
 constructor
 ·intro h u hu
  exact (k u).mp (h _ (mem_map.mpr ⟨u,mem_range.mpr hu,rfl⟩))
 ·intro h b hb
  obtain ⟨u,hu,rfl⟩:=mem_map.mp hb
  exact (k u).mpr (h u (mem_range.mp hu))
end
section
variable {n:Nat} {hs hs':List Int} {M M':List (List Int)} {a b:Nat→Int}
def evM (n:Nat) (a b:Nat→Int):List (List (Int × Int)):=mat n fun u w=>oneF (cntF n a (a u)) (decide (b w=a u))
end
section
variable {P:Program} {w:World} {K:Frag} {mg:Str→Option Value} {base:Heap}
def posF (F:List (List (Int × Int))) (u w:Nat):Prop:=∃ fs f,F[u]? = some fs∧fs[w]? = some f∧0 < f.1
def LotG (n m:Nat) (F:List (List (Int × Int))) (dn:Nat→Nat→Prop) (ms:List Int):Prop:=∀ a b:Nat→Int,(∀ u w,u < n→w < m→posF F u w→a u=b w)→LotI n m a b dn ms
theorem LotG.len {n m:Nat} {F:List (List (Int × Int))} {dn:Nat→Nat→Prop} {ms:List Int} (g:LotG n m F dn ms):ms.length=n+m:=(g (fun _=>0) (fun _=>0) fun _ _ _ _ _=>rfl).len
abbrev nLotsOf:List Str:=["table","ahead","marks","place","row","place_there","share","lots"]
theorem scLotsOf:FnScope nLotsOf ["table"] (defScope sLotsOf):=by constructor<;>first|rfl|decide +kernel
def spLotsOf:Sp:=fun vs H Q _=>∃ (a:Addr) (F:List (List (Int × Int))) (n m:Nat),vs=[.ref a]∧FGrd H a F∧F.length=n∧n≤16∧m≤16∧(∀ g ∈ F,g.length=m)∧(F=[]→m=0) ∧
 ∀ (p x y:Addr) (ms:List Int) (H':Hp),Same H H'→LotG n m F (posF F) ms→H' p=some (.tup [.ref x,.ref y])→H' x=some (.lst (((nI (numb ms)).take n).map V.int))→H' y=some (.lst (((nI (numb ms)).drop n).map V.int))→Q (.ref p) H'
theorem ok_lotsOf {f fC fM fN:Addr} {fd fdC fdM fdN:FuncData} (B:BltR mg) (F:Fun K "lots_of" "lots_of" sLotsOf f fd) (DC:Dn K mg "columns_of" sCols ["rows"] fC fdC) (GC:FnOk P w K mg base CX0 2 fC fdC ["rows"] spCols)
  (DM:Dn K mg "merged" sMerged nMerged fM fdM) (GM:FnOk P w K mg base CX0 1 fM fdM nMerged spMerged) (DN:Dn K mg "numbered" sNumbered ["marks"] fN fdN) (GN:FnOk P w K mg base CX0 1 fN fdN ["marks"] (spNum K iKey)):FnOk P w K mg base CX0 3 f fd ["table"] spLotsOf:=by
 refine F.ok scLotsOf (fun vs H Q E h=>?_) (fun cdv A outer s H vs Q E hr h=>?_)
 ·obtain ⟨a,F,n,m,rfl,_⟩:=h
  rfl
 ·obtain ⟨a,F,n,m,rfl,gF,lF,hn,hm,hw,h0,q⟩:=h
  obtain ⟨rs,ha,lr,hR⟩:=gF.rows
  obtain ⟨X,gX,lX,hX⟩:=gF
  have r1:=hr.mono (j:=1) (by decide)
  refine ⟨_,pss_cons (ps_set (i:=1) scLotsOf.nd rfl (Or.inl rfl) (pe_callB call_len_seq (by rfl) B.len boot_len (pa_cons (pv 0) pa_nil)))
   (pss_cons (ps_set (i:=2) scLotsOf.nd rfl (Or.inl rfl) (pe_callTy (call_list_rng rfl) (by rfl) B.list boot_list (pa_cons (pe_callTy call_range1v (by rfl) B.range boot_range (pa_cons (pe_op op_add (pv 1) (pe_callB call_len_seq (by rfl) B.len boot_len (pa_cons (pe_fn DC GC hr rfl (pa_cons (pv 0) pa_nil)) pa_nil))) pa_nil)) pa_nil)))
   (pss_cons (ps_for PassesOwn.never rfl (pi_enum rfl B.enum (pa_cons (pv 0) pa_nil)) (pg_tup rfl (pgs_cons (pg_name (i:=3) scLotsOf.nd rfl (Or.inl rfl)) (pgs_cons (pg_name (i:=4) scLotsOf.nd rfl (Or.inl rfl)) pgs_nil)))
    (pss_one (ps_for PassesOwn.never rfl (pi_enum rfl B.enum (pa_cons (pv 4) pa_nil)) (pg_tup rfl (pgs_cons (pg_name (i:=5) scLotsOf.nd rfl (Or.inl rfl)) (pgs_cons (pg_name (i:=6) scLotsOf.nd rfl (Or.inl rfl)) pgs_nil)))
     (pss_one (ps_if (pt_cmpR op_gt (pe_ix ix_tup (pv 6) pe_int (fun _ _=>rfl)) pe_int (nomark _))
      (pss_one (ps_set (i:=2) scLotsOf.nd rfl (Or.inl rfl) (pe_fn DM GM r1 rfl (pa_cons (pv 2) (pa_cons (pe_ix ix_list (pv 2) (pv 3) (fun _ _=>rfl)) (pa_cons (pe_ix ix_list (pv 2) (pe_op op_add (pv 1) (pv 5)) (fun _ _=>rfl)) pa_nil)))))) pss_nil)))))
   (pss_cons (ps_set (i:=7) scLotsOf.nd rfl (Or.inl rfl) (pe_fn DN GN r1 rfl (pa_cons (pv 2) pa_nil)))
   (pss_one (ps_ret (pe_tup (pa_cons (pe_slice sl_list (pv 7) po_none (po_some (pv 1))) (pa_cons (pe_slice sl_list (pv 7) (po_some (pv 1)) po_none) pa_nil)))))))),?_⟩
  refine ⟨_,rfl,a,_,rfl,.inl (SqL.of ha),?_⟩
  rw [length_map,lr,lF]
  refine ⟨_,rfl,_,rfl,a,X,m,rfl,gX,by omega,by omega,frat_rows lX hX hw,fun z=>h0 (List.eq_nil_of_length_eq_zero (by rw [←lX,z]; rfl)),fun C H1 s1 nC gC=>?_⟩
  obtain ⟨cs,eC,RC⟩:=gC
  have lcs:cs.length=m:=by rw [RC.len]; unfold colsV; rw [length_map,length_range]
  refine ⟨C,_,rfl,.inl (SqL.of eC),_,_,rfl,rfl,?_⟩
  rw [length_map,lcs]
  refine ⟨_,rfl,fun pr hpr=>?_⟩
  have e0:((n:Int)+(m:Int))=((n+m:Nat):Int):=by omega
  rw [e0]
  have sr:Same H1 (upd H1 pr (.rng 0 ((n+m:Nat):Int))):=Same.upd hpr
  refine ⟨pr,n+m,rfl,upd_same,by omega,fun L hL=>?_⟩
  have s2:Same H (upd (upd H1 pr (.rng 0 ((n+m:Nat):Int))) L (.lst ((List.range (n+m)).map fun (i:Nat)=>V.int (i:Int)))):=(s1.trans sr).trans (Same.upd hL)
  have e2:upd (upd H1 pr (.rng 0 ((n+m:Nat):Int))) L (.lst ((List.range (n+m)).map fun (i:Nat)=>V.int (i:Int))) L=some (.lst (((List.range (n+m)).map fun (i:Nat)=>(i:Int)).map V.int)):=by rw [upd_same,map_map]; rfl
  generalize upd (upd H1 pr (.rng 0 ((n+m:Nat):Int))) L (.lst ((List.range (n+m)).map fun (i:Nat)=>V.int (i:Int)))=H2 at s2 e2 ⊢
  refine ⟨_,rfl,a,rfl,⟨_,SqL.of (s2 _ _ ha)⟩,for_enum (K:=K) (xs:=rs.map V.ref) (fun i σ H'=>∃ (o3 o4 o5 o6:Option V) (T:Addr) (ms:List Int),σ=[some (.ref a),some (.int (n:Int)),some (.ref T),o3,o4,o5,o6,none]∧Same H H'∧H' T=some (.lst (ms.map V.int))∧LotG n m F (fun u w=>u < i∧posF F u w) ms) ?_ ?_ ?_ ?_⟩
  ·exact ⟨none,none,none,none,L,_,rfl,s2,e2,fun a b _=>LotI.start.mono fun u w z=>absurd z.1 (Nat.not_lt_zero _)⟩
  ·rintro i σ H' _ ⟨o3,o4,o5,o6,T,ms,rfl,s3,_⟩
   exact SqL.of (s3 _ _ ha)
  ·rintro u x t σ H3 hx ⟨o3,o4,o5,o6,T,ms,rfl,s3,eT,G⟩ ht
   obtain ⟨r,hr',rfl⟩:=map_get hx
   have hu:u < n:=by have:=lt_get hr'; omega
   obtain ⟨fs,hf⟩:=get_lt (l:=F) (i:=u) (by omega)
   obtain ⟨xs,er,fx⟩:=hR u r fs hr' hf
   have lx:xs.length=m:=by rw [fx.1]; exact hw fs (mem_of_getElem? hf)
   refine ⟨t,_,rfl,SqT.of upd_same,rfl,_,_,rfl,_,_,rfl,rfl,?_⟩
   have s4:Same H3 (upd H3 t (.tup [.int (u:Int),.ref r])):=Same.upd ht
   generalize upd H3 t (.tup [.int (u:Int),.ref r])=H4 at s4 ⊢
   have t4:=s3.trans s4
   refine ⟨_,rfl,r,rfl,⟨_,SqL.of (t4 _ _ er)⟩,for_enum (K:=K) (xs:=xs) (fun j σ H'=>∃ (o5 o6:Option V) (T:Addr) (ms:List Int),σ=[some (.ref a),some (.int (n:Int)),some (.ref T),some (.int (u:Int)),some (.ref r),o5,o6,none]∧Same H H'∧H' T=some (.lst (ms.map V.int))∧LotG n m F (fun u' w=>(u' < u ∨ (u'=u∧w < j))∧posF F u' w) ms) ?_ ?_ ?_ ?_⟩
   ·exact ⟨_,_,T,ms,rfl,t4,s4 _ _ eT,fun a b h=>(G a b h).mono fun u' w z=>⟨by omega,z.2⟩⟩
   ·rintro j σ H' _ ⟨o5,o6,T,ms,rfl,s5,_⟩
    exact SqL.of (s5 _ _ er)
   ·rintro j v t2 σ H5 hv ⟨o5,o6,T,ms,rfl,s5,eT5,G5⟩ ht2
    have hj:j < m:=by have:=lt_get hv; omega
    obtain ⟨g,hg⟩:=get_lt (l:=fs) (i:=j) (by rw [←fx.1]; exact lt_get hv)
    obtain ⟨p,rfl,hp⟩:=fx.2 j v g hv hg
    refine ⟨t2,_,rfl,SqT.of upd_same,rfl,_,_,rfl,_,_,rfl,rfl,?_⟩
    have s6:Same H5 (upd H5 t2 (.tup [.int (j:Int),.ref p])):=Same.upd ht2
    generalize upd H5 t2 (.tup [.int (j:Int),.ref p])=H6 at s6 ⊢
    have t6:=s5.trans s6
    refine ⟨_,rfl,p,_,_,.int g.1,rfl,rfl,SqT.of (t6 _ _ hp),at_hd _ _,_,_,rfl,rfl,_,rfl,?_⟩
    have lm:=G5.len
    by_cases e:(0:Int) < g.1
    ·refine itDP e ?_
     obtain ⟨x,hx1⟩:=get_lt (l:=ms) (i:=u) (by omega)
     obtain ⟨y,hy1⟩:=get_lt (l:=ms) (i:=n+j) (by omega)
     refine ⟨_,rfl,_,rfl,_,rfl,T,_,_,.int x,rfl,rfl,SqL.of (s6 _ _ eT5),atI_nat (by rw [getElem?_map,hx1]; rfl),?_⟩
     refine ⟨_,rfl,_,rfl,_,rfl,_,_,rfl,rfl,T,_,_,.int y,rfl,rfl,SqL.of (s6 _ _ eT5),?_,?_⟩
     ·rw [show (n:Int)+(j:Int)=((n+j:Nat):Int) by omega]
      exact atI_nat (by rw [getElem?_map,hy1]; rfl)
     refine ⟨T,ms,x,y,rfl,s6 _ _ eT5,by omega,fun D H7 s7 nD eD=>?_⟩
     refine ⟨_,_,D,_,rfl,t6.trans s7,eD,fun a b h=>((G5 a b h).step hu hj (h u j hu hj ⟨fs,g,hf,hg,e⟩) hx1 hy1).mono fun u' w z=>?_⟩
     by_cases c:u'=u∧w=j
     ·exact .inr c
     ·exact .inl ⟨by omega,z.2⟩
    ·refine itDN e ?_
     refine ⟨_,_,T,ms,rfl,t6,s6 _ _ eT5,fun a b h=>(G5 a b h).mono fun u' w z=>⟨?_,z.2⟩⟩
     by_cases c:u'=u∧w=j
     ·obtain ⟨rfl,rfl⟩:=c
      obtain ⟨_,fs',f',e1,e2,e3⟩:=z
      rw [hf] at e1
      cases e1
      rw [hg] at e2
      cases e2
      exact absurd e3 e
     ·omega
   ·rintro σ H5 ⟨o5,o6,T,ms,rfl,s5,eT5,G5⟩
    refine ⟨_,_,_,_,T,ms,rfl,s5,eT5,fun a b h=>(G5 a b h).mono fun u' w z=>⟨?_,z.2⟩⟩
    obtain ⟨z1,fs',f',e1,e2,_⟩:=z
    by_cases c:u'=u
    ·subst c
     rw [hf] at e1
     cases e1
     exact .inr ⟨rfl,by rw [fx.1]; exact lt_get e2⟩
    ·omega
  ·rintro σ H3 ⟨o3,o4,o5,o6,T,ms,rfl,s3,eT,G⟩
   have lm:=G.len
   refine ⟨_,rfl,T,ms.map V.int,ms,rfl,SqL.of eT,by rw [length_map],by omega,fun j y k h1 h2=>?_,fun D H4 s4 nD eD=>?_⟩
   ·rw [getElem?_map,h2] at h1
    exact (Option.some.inj h1).symm
   rw [nI_V] at eD
   have ll:(nI (numb ms)).length=n+m:=by unfold nI; rw [length_map,numb_len,lm]
   refine ⟨_,rfl,_,rfl,(n:Int),rfl,D,_,rfl,SqL.of eD,fun x hx=>?_⟩
   rw [cut_take _ n (by omega)]
   have s5:Same H4 (upd H4 x (.lst (((nI (numb ms)).take n).map V.int))):=Same.upd hx
   have e5:upd H4 x (.lst (((nI (numb ms)).take n).map V.int)) x=some (.lst (((nI (numb ms)).take n).map V.int)):=upd_same
   generalize upd H4 x (.lst (((nI (numb ms)).take n).map V.int))=H5 at s5 e5 ⊢
   refine ⟨_,rfl,_,rfl,(n:Int),rfl,D,_,rfl,SqL.of (s5 _ _ eD),fun y hy=>?_⟩
   rw [cut_drop _ n (by omega)]
   have s6:Same H5 (upd H5 y (.lst (((nI (numb ms)).drop n).map V.int))):=Same.upd hy
   have e6:upd H5 y (.lst (((nI (numb ms)).drop n).map V.int)) y=some (.lst (((nI (numb ms)).drop n).map V.int)):=upd_same
   generalize upd H5 y (.lst (((nI (numb ms)).drop n).map V.int))=H6 at s6 e6 ⊢
   refine ⟨sz2,fun p hp=>?_⟩
   have s7:Same H6 (upd H6 p (.tup [.ref x,.ref y])):=Same.upd hp
   refine q p x y ms _ ((((s3.trans s4).trans s5).trans s6).trans s7) (fun a b h=>(G a b h).mono fun u' w z=>⟨?_,z⟩) upd_same (s7 _ _ (s6 _ _ e5)) (s7 _ _ e6)
   obtain ⟨fs',f',e1,_⟩:=z
   have:=lt_get e1
   rw [length_map,lr]
   exact this
def dF (f:Int × Int):PyData:=.tuple [.int f.1,.int f.2]
theorem eqv_dF (f g:Int × Int):PyData.eqv (dF f) (dF g)=decide (f=g):=by
 obtain ⟨a,b⟩:=f
 obtain ⟨c,d⟩:=g
 unfold dF
 simp only [PyData.eqv,PyData.eqvAll]
 by_cases h1:a=c
 ·subst h1
  by_cases h2:b=d
  ·subst h2; simp
  ·simp [h2]
 ·simp [h1]
theorem lay_dF (f:Int × Int):(dF f).canLay0=true∧(dF f).depth≤1:=by
 unfold dF
 refine ⟨by simp only [PyData.canLay0,PyData.canLayAll0,Bool.and_self],?_⟩
 simp only [PyData.depth,PyData.depthAll]
 omega
theorem daF {H:Hp} {p:Addr} {f:Int × Int} (h:H p=some (tupF f)):DA K any H (.ref p) (dF f):=.tup trivial (SqT.of h) (.cons (.int _) (.cons (.int _) .nil))
theorem FrAt.get {H:Hp} {x:List V} {fs:List (Int × Int)} {i:Nat} {f:Int × Int} (h:FrAt H x fs) (hf:fs[i]? = some f):∃ p,x[i]? = some (.ref p)∧H p=some (tupF f):=by
 obtain ⟨v,hv⟩:=get_lt (l:=x) (i:=i) (by rw [h.1]; exact lt_get hf)
 obtain ⟨p,rfl,hp⟩:=h.2 i v f hv hf
 exact ⟨p,hv,hp⟩
def dT (F:List (List (Int × Int))):PyData:=.list (F.map fun r=>.list (r.map dF))
theorem lay_dFs:∀ r:List (Int × Int),PyData.canLayAll0 (r.map dF)=true∧PyData.depthAll (r.map dF)≤1
 | []=>⟨rfl,Nat.zero_le _⟩
 | f :: r=>by
  obtain ⟨h1,h2⟩:=lay_dFs r
  obtain ⟨a1,a2⟩:=lay_dF f
  rw [map_cons]
  simp only [PyData.canLayAll0,PyData.depthAll,h1,a1,Bool.and_self,true_and]
  omega
theorem lay_dTs:∀ F:List (List (Int × Int)),PyData.canLayAll0 (F.map fun r=>PyData.list (r.map dF))=true∧PyData.depthAll (F.map fun r=>PyData.list (r.map dF))≤2
 | []=>⟨rfl,Nat.zero_le _⟩
 | r :: F=>by
  obtain ⟨h1,h2⟩:=lay_dTs F
  obtain ⟨a1,a2⟩:=lay_dFs r
  rw [map_cons]
  simp only [PyData.canLayAll0,PyData.canLay0,PyData.depthAll,PyData.depth,h1,a1,Bool.and_self,true_and]
  omega
theorem lay_dT (F:List (List (Int × Int))):(dT F).canLay0=true∧(dT F).depth≤64:=by
 obtain ⟨h1,h2⟩:=lay_dTs F
 unfold dT
 simp only [PyData.canLay0,PyData.depth,h1,true_and]
 omega
theorem FrAt.das {H:Hp}:∀ {x:List V} {fs:List (Int × Int)},FrAt H x fs→DAs K any H x (fs.map dF)
 | [],[],_=>.nil
 | [],_ :: _,h=>by cases h.1
 | _ :: _,[],h=>by cases h.1
 | v :: x,f :: fs,h=>by
  obtain ⟨p,rfl,hp⟩:=h.2 0 v f rfl rfl
  exact .cons (daF hp) (FrAt.das ⟨by simpa using h.1,fun i v f h1 h2=>h.2 (i+1) v f h1 h2⟩)
theorem FGrd.das {H:Hp}:∀ {rs:List Addr} {X:List (List V)} {F:List (List (Int × Int))},rs.length=X.length→X.length=F.length→(∀ (i:Nat) (r:Addr) (x:List V),rs[i]? = some r→X[i]? = some x→H r=some (.lst x))→(∀ (i:Nat) (x:List V) (fs:List (Int × Int)),X[i]? = some x→F[i]? = some fs→FrAt H x fs)→DAs K any H (rs.map V.ref) (F.map fun r=>.list (r.map dF))
 | [],[],[],_,_,_,_=>.nil
 | r :: rs,x :: X,f :: F,l1,l2,h1,h2=>.cons (.lst trivial (SqL.of (h1 0 r x rfl rfl)) (h2 0 x f rfl rfl).das) (FGrd.das (by simpa using l1) (by simpa using l2) (fun i r x g1 g2=>h1 (i+1) r x g1 g2) fun i x fs g1 g2=>h2 (i+1) x fs g1 g2)
theorem FGrd.da {H:Hp} {a:Addr} {F:List (List (Int × Int))} (g:FGrd H a F):DA K any H (.ref a) (dT F):=by
 obtain ⟨X,⟨rs,h,R⟩,lX,fX⟩:=g
 exact .lst trivial (SqL.of h) (FGrd.das R.len lX R.row fX)
theorem eqv_dFs:∀ r:List (Int × Int),PyData.eqvAll (r.map dF) (r.map dF)=true
 | []=>rfl
 | f :: r=>by
  rw [map_cons]
  simp only [PyData.eqvAll,eqv_dF,eqv_dFs r,decide_true,Bool.and_self]
theorem eqv_dT (F:List (List (Int × Int))):PyData.eqv (dT F) (dT F)=true:=by
 unfold dT
 simp only [PyData.eqv]
 induction F with
 | nil=>rfl
 | cons r F ih =>
  rw [map_cons]
  simp only [PyData.eqvAll,PyData.eqv,eqv_dFs r,ih,Bool.and_self]
end
section
end
section
def aF (ls:List Int) (u:Nat):Int:=ls.getD u 0
def bF (n:Nat) (ls:List Int) (w:Nat):Int:=ls.getD (n+w) 0
theorem lot_two {n m:Nat} {ls:List Int} (h:ls.length=n+m):ls=lotL n m (aF ls) (bF n ls):=lots_two h
theorem lotL_take {n m:Nat} {a b:Nat→Int}:(lotL n m a b).take n=(List.range n).map a:=by
 unfold lotL
 rw [List.take_append_of_le_length (by rw [length_map,length_range]; exact Nat.le_refl _),take_of_length_le (by rw [length_map,length_range]; exact Nat.le_refl _)]
theorem lotL_drop {n m:Nat} {a b:Nat→Int}:(lotL n m a b).drop n=(List.range m).map b:=by
 unfold lotL
 rw [List.drop_append_of_le_length (by rw [length_map,length_range]; exact Nat.le_refl _),drop_of_length_le (by rw [length_map,length_range]; exact Nat.le_refl _),nil_append]
theorem cnt_le {n:Nat} {a:Nat→Int} {o:Int}:cntF n a o≤(n:Int):=by
 rw [cnt_rng]
 have:=List.count_le_length (a:=o) (l:=(List.range n).map a)
 rw [length_map,length_range] at this
 omega
theorem evT_M {n:Nat} {a b:Nat→Int}:evT ((List.range n).map a) ((List.range n).map b)=evM n a b:=by
 unfold evT evM mat
 rw [map_map]
 refine map_congr_left fun u _=>?_
 show shRow _ _ (a u)=_
 unfold shRow
 rw [map_map]
 refine map_congr_left fun w _=>?_
 show (if b w=a u then _ else _)=oneF _ _
 unfold oneF
 rw [←cnt_rng]
 by_cases e:b w=a u
 ·rw [if_pos e,if_pos (decide_eq_true e)]
 ·rw [if_neg e,if_neg (by rw [decide_eq_false e]; decide)]
theorem colsF_mat (n:Nat) (g:Nat→Nat→Int × Int):colsF (mat n g) n=mat n fun w u=>g u w:=by
 unfold colsF mat
 refine map_congr_left fun w hw=>?_
 rw [map_map]
 refine map_congr_left fun u _=>?_
 show (((List.range n).map fun w=>g u w)[w]?).getD (0,1)=g u w
 rw [getElem?_map,getElem?_range (mem_range.mp hw)]
 rfl
theorem joinT_mat {n:Nat} {f g:Nat→Nat→Int × Int}:joinT (mat n f) (mat n g) n=mat n fun u w=>jSh ((List.range n).map fun v=>f u v) ((List.range n).map fun v=>g v w):=by
 unfold joinT
 rw [colsF_mat]
 unfold mat
 rw [map_map]
 refine map_congr_left fun u _=>?_
 show List.map (jSh _) (List.map _ _)=_
 rw [map_map]
 rfl
section
variable {n:Nat} {h h' h2:Nat→Int} {M M' N:Nat→Nat→Int} {a b b' d al de:Nat→Int}
theorem smF_perm {s:Nat→Nat} (hs:((List.range n).map s).Perm (List.range n)) (f:Nat→Int):SmF n (fun u=>f (s u))=SmF n f:=by
 unfold SmF
 have:=hs.map f
 rw [map_map] at this
 have key:∀ {x y:List Int},x.Perm y→x.sum=y.sum:=by
  intro x y p
  induction p with
  | nil=>rfl
  | cons x _ ih=>rw [sum_cons,sum_cons,ih]
  | swap x y l=>rw [sum_cons,sum_cons,sum_cons,sum_cons]; omega
  | trans _ _ ih1 ih2=>rw [ih1,ih2]
 exact key this
theorem ren_as {s:Nat→Nat} (hs:((List.range n).map s).Perm (List.range n)) (hh:∀ u < n,h2 u=h (s u)) (hM:∀ u < n,∀ v < n,N u v=M (s u) (s v)) (C:CoF n n h h2 M N b d):AsF n n b d:=by
 have sl:∀ u < n,s u < n:=fun u hu=>mem_range.mp (hs.mem_iff.mp (mem_map.mpr ⟨u,mem_range.mpr hu,rfl⟩))
 have rs:∀ u < n,∀ o,rsF n N (fun x=>b (s x)) u o=rsF n M b (s u) o:=fun u hu o=>by
  unfold rsF
  rw [←smF_perm hs fun v=>qF b o v * M (s u) v]
  refine smF_congr fun v hv=>?_
  rw [hM u hu v hv]
  rfl
 have E:EvF n n h h2 M N b fun x=>b (s x):=by
  refine ⟨C.ev.here,fun u hu v hv e=>?_,fun u hu w hw e=>?_⟩
  ·obtain ⟨e1,e2⟩:=C.ev.here (s u) (sl u hu) (s v) (sl v hv) e
   exact ⟨by rw [hh u hu,hh v hv,e1],fun o=>by rw [rs u hu,rs v hv,e2]⟩
  ·obtain ⟨e1,e2⟩:=C.ev.here u hu (s w) (sl w hw) e
   exact ⟨by rw [hh w hw,e1],fun o=>by rw [rs w hw,e2]⟩
 have k:∀ w < n,b (s w)=d w:=fun w hw=>C.cross E (s w) (sl w hw) w hw rfl
 intro o
 unfold cntF
 rw [←smF_perm hs (qF b o)]
 refine smF_congr fun w hw=>?_
 unfold qF
 rw [k w hw]
end
end
section
variable {P:Program} {w:World} {K:Frag} {mg:Str→Option Value} {base:Heap}
theorem WR.da {H:Hp} {p:Addr} {hs:List Int} {M:List (List Int)} (W:WR H p hs M):DA K any H (.ref p) (dW hs M):=by
 obtain ⟨hA,rA,rs,h1,h2,h3,R⟩:=W.ex
 exact .tup trivial (SqT.of h1) (.cons (daI trivial (SqL.of h2)) (.cons (.lst trivial (SqL.of h3) (das_rows R.len R.row)) .nil))
theorem sg_perm {n:Nat} {os:List Int} (h:os.Perm (My.rI n)):((List.range n).map (sg os)).Perm (List.range n):=by
 have lo:os.length=n:=by rw [h.length_eq,rI_len]
 have e:(List.range n).map (sg os)=os.map Int.toNat:=by
  apply ext_getElem?
  intro i
  rw [getElem?_map,getElem?_map]
  by_cases hi:i < n
  ·rw [getElem?_range hi]
   obtain ⟨o,ho⟩:=get_lt (l:=os) (i:=i) (by omega)
   unfold sg
   rw [ho]
   show some ((os[i]?.getD 0).toNat)=some o.toNat
   rw [ho]
   rfl
  ·rw [getElem?_eq_none (by rw [length_range]; omega),getElem?_eq_none (by omega)]
   rfl
 rw [e]
 have:=h.map Int.toNat
 have e2:(My.rI n).map Int.toNat=List.range n:=by
  unfold My.rI
  rw [map_map]
  have:(List.range n).map (Int.toNat ∘ fun (i:Nat)=>(i:Int))=(List.range n).map id:=map_congr_left fun x _=>rfl
  rw [this,List.map_id]
 rw [e2] at this
 exact this
theorem hue_ren {n:Nat} {hs os:List Int} (h:os.Perm (My.rI n)) {u:Nat} (hu:u < n):hueF (renH hs os) u=hueF hs (sg os u):=by
 unfold hueF renH
 rw [getElem?_map,(sg_at h hu).1]
 show hs.getD (Int.toNat ((sg os u:Nat):Int)) 0=_
 rw [Int.toNat_natCast,getD_eq_getElem?_getD]
def dP (x y:List Int):PyData:=.tuple [dI x,dI y]
theorem eqv_dP (x y:List Int):PyData.eqv (dP x y) (dP x y)=true:=by
 unfold dP
 simp only [PyData.eqv,PyData.eqvAll,eqv_dI,decide_true,Bool.and_self]
theorem lay_dP (x y:List Int):(dP x y).canLay0=true∧(dP x y).depth≤64:=by
 obtain ⟨a1,a2⟩:=lay_dI x
 obtain ⟨b1,b2⟩:=lay_dI y
 unfold dP
 simp only [PyData.canLay0,PyData.canLayAll0,PyData.depth,PyData.depthAll,a1,b1,Bool.and_self,true_and]
 omega
theorem daP {H:Hp} {p a b:Addr} {x y:List Int} (h:H p=some (.tup [.ref a,.ref b])) (ha:H a=some (.lst (x.map V.int))) (hb:H b=some (.lst (y.map V.int))):DA K any H (.ref p) (dP x y) :=
 .tup trivial (SqT.of h) (.cons (daI trivial (SqL.of ha)) (.cons (daI trivial (SqL.of hb)) .nil))
section
variable {n:Nat} {h h' h2:Nat→Int} {M M':Nat→Nat→Int} {a b a' b':Nat→Int}
end
structure Alk (n:Nat) (hs hs':List Int) (M M':List (List Int)) (ls:List Int):Prop where
 co:CoF n n (hueF hs) (hueF hs') (ent M) (ent M') (aF ls) (bF n ls)
 as:AsF n n (aF ls) (bF n ls)
 two:ls=lotL n n (aF ls) (bF n ls)
 nm:Norm ls
theorem alk_of {n:Nat} {hs hs':List Int} {M M':List (List Int)} {ls:List Int} (h1:hs.length=n) (h2:hs'.length=n) (S:SqN n M) (S':SqN n M') (C:Coarse (hs++hs') (besM n n M M') ls) (as:AsF n n (aF ls) (bF n ls)):Alk n hs hs' M M' ls:=by
 have ll:ls.length=n+n:=by rw [←C.len,length_append,h1,h2]
 have e:=lot_two ll
 exact ⟨co_of h1 h2 S S' (by rw [←e]; exact C),as,e,C.norm⟩
theorem Alk.take {n:Nat} {hs hs':List Int} {M M':List (List Int)} {ls:List Int} (A:Alk n hs hs' M M' ls):evT (ls.take n) (ls.drop n)=evM n (aF ls) (bF n ls):=by
 rw [←evT_M]
 conv=>lhs; rw [A.two]
 rw [lotL_take,lotL_drop]
end
section
structure GoI (n:Nat) (h h':Nat→Int) (M M':Nat→Nat→Int) (P:Nat→Nat→Int) (N:Int):Prop where
 pos:∀ u < n,∀ w < n,0≤P u w
 row:∀ u < n,SmF n (fun w=>P u w)=N
 col:∀ w < n,SmF n (fun u=>P u w)=N
 hue:∀ u < n,∀ w < n,P u w≠0→h' w=h u
 go:∀ u < n,∀ w < n,SmF n (fun v=>P v w * M u v)=SmF n fun x=>M' x w * P u x
def lowM (n:Nat) (P:Nat→Nat→Int) (N:Int):List (List (Int × Int)):=mat n fun u w=>M11.low (P u w) N
theorem low_lw {t b:Int} (h:b≠0):Lw (M11.low t b):=by
 obtain ⟨t',b',_,_,e3,h',h2⟩:=M11.low_spec (t:=t) h
 rw [e3]
 exact ⟨h',h2⟩
theorem over_val {f:Int × Int} {W p:Int} (h0:0 < f.2) (hd:f.2 ∣ W) (h:f.1 * W=p * f.2):over W f=p:=by
 obtain ⟨q,e,e2⟩:=M11.fdiv_of_dvd h0 hd
 unfold over
 rw [e2]
 refine Int.eq_of_mul_eq_mul_right (Int.ne_of_gt h0) ?_
 rw [←h,e]
 grind
theorem lw_dvd {f:Int × Int} {W p:Int} (l:Lw f) (h:f.1 * W=p * f.2):f.2 ∣ W:=by
 have d:f.2 ∣ f.1 * W:=⟨p,by rw [h,Int.mul_comm]⟩
 have:=Int.dvd_gcd_mul_iff_dvd_mul.mpr d
 rw [Int.gcd_comm,l.2] at this
 simpa using this
theorem sumL_low {W:Int} {fs:List (Int × Int)} (hW:0 < W) (hp:PosF fs) (hd:∀ f ∈ fs,f.2 ∣ W):sumL fs=M11.low (fs.map (over W)).sum W:=by
 obtain ⟨l,e⟩:=sumL_spec hp hd
 exact (M11.low_uniq (Int.ne_of_gt hW) l.1 l.2 e).symm
section
variable {n:Nat} {h h' h2:Nat→Int} {M M' M2:Nat→Nat→Int} {P R:Nat→Nat→Int} {N N':Int} {a b:Nat→Int}
theorem GoI.add (g:GoI n h h' M M' P N) (g':GoI n h h' M M' R N'):GoI n h h' M M' (fun u w=>P u w+R u w) (N+N'):=by
 refine ⟨fun u hu w hw=>Int.add_nonneg (g.pos u hu w hw) (g'.pos u hu w hw),fun u hu=>?_,fun w hw=>?_,fun u hu w hw e=>?_,fun u hu w hw=>?_⟩
 ·rw [smF_add,g.row u hu,g'.row u hu]
 ·rw [smF_add n (fun u=>P u w) fun u=>R u w,g.col w hw,g'.col w hw]
 ·by_cases c:P u w=0
  ·exact g'.hue u hu w hw fun z=>e (by show P u w+R u w=0; rw [c,z]; rfl)
  ·exact g.hue u hu w hw c
 ·have e1:SmF n (fun v=>(P v w+R v w) * M u v)=SmF n (fun v=>P v w * M u v)+SmF n fun v=>R v w * M u v:=by
   rw [←smF_add]
   exact smF_congr fun v _=>Int.add_mul _ _ _
  have e2:SmF n (fun x=>M' x w * (P u x+R u x))=SmF n (fun x=>M' x w * P u x)+SmF n fun x=>M' x w * R u x:=by
   rw [←smF_add]
   exact smF_congr fun v _=>Int.mul_add _ _ _
  rw [e1,e2,g.go u hu w hw,g'.go u hu w hw]
theorem GoI.scale (g:GoI n h h' M M' P N) {k:Int} (hk:0≤k):GoI n h h' M M' (fun u w=>k * P u w) (k * N):=by
 refine ⟨fun u hu w hw=>Int.mul_nonneg hk (g.pos u hu w hw),fun u hu=>?_,fun w hw=>?_,fun u hu w hw e=>?_,fun u hu w hw=>?_⟩
 ·rw [smF_mul,g.row u hu]
 ·rw [smF_mul k n fun u=>P u w,g.col w hw]
 ·exact g.hue u hu w hw fun z=>e (by show k * P u w=0; rw [z,Int.mul_zero])
 ·have e1:SmF n (fun v=>k * P v w * M u v)=k * SmF n fun v=>P v w * M u v:=by
   rw [←smF_mul]
   exact smF_congr fun v _=>Int.mul_assoc _ _ _
  have e2:SmF n (fun x=>M' x w * (k * P u x))=k * SmF n fun x=>M' x w * P u x:=by
   rw [←smF_mul]
   exact smF_congr fun v _=>by rw [←Int.mul_assoc,Int.mul_comm (M' v w) k,Int.mul_assoc]
  rw [e1,e2,g.go u hu w hw]
theorem GoI.mul (g:GoI n h h' M M' P N) (g':GoI n h' h2 M' M2 R N'):GoI n h h2 M M2 (fun u w=>SmF n fun v=>P u v * R v w) (N * N'):=by
 refine ⟨fun u hu w hw=>smF_nonneg fun v hv=>Int.mul_nonneg (g.pos u hu v hv) (g'.pos v hv w hw),fun u hu=>?_,fun w hw=>?_,fun u hu w hw e=>?_,fun u hu w hw=>?_⟩
 ·rw [smF_swap]
  have:SmF n (fun j=>SmF n fun i=>P u j * R j i)=SmF n fun j=>N' * P u j:=smF_congr fun j hj=>by
   rw [smF_mul,g'.row j hj,Int.mul_comm]
  rw [this,smF_mul,g.row u hu,Int.mul_comm]
 ·rw [smF_swap n n fun i j=>P i j * R j w]
  have:SmF n (fun j=>SmF n fun i=>P i j * R j w)=SmF n fun j=>N * R j w:=smF_congr fun j hj=>by
   have:SmF n (fun i=>P i j * R j w)=SmF n fun i=>R j w * P i j:=smF_congr fun i _=>Int.mul_comm _ _
   rw [this,smF_mul,g.col j hj,Int.mul_comm]
  rw [this,smF_mul,g'.col w hw]
 ·have p:0 < SmF n fun v=>P u v * R v w:=by
   have:=smF_nonneg (f:=fun v=>P u v * R v w) fun v hv=>Int.mul_nonneg (g.pos u hu v hv) (g'.pos v hv w hw)
   exact Int.lt_iff_le_and_ne.mpr ⟨this,Ne.symm e⟩
  obtain ⟨v,hv,x⟩:=smF_ex p
  rw [g'.hue v hv w hw fun z=>x (by show P u v * R v w=0; rw [z,Int.mul_zero]),g.hue u hu v hv fun z=>x (by show P u v * R v w=0; rw [z,Int.zero_mul])]
 ·have e1:SmF n (fun v=>(SmF n fun x=>P v x * R x w) * M u v)=SmF n fun x=>R x w * SmF n fun v=>P v x * M u v:=by
   have:SmF n (fun v=>(SmF n fun x=>P v x * R x w) * M u v)=SmF n fun v=>SmF n fun x=>R x w * (P v x * M u v):=smF_congr fun v _=>by
    rw [Int.mul_comm,←smF_mul]
    exact smF_congr fun x _=>by grind
   rw [this,smF_swap]
   exact smF_congr fun x _=>smF_mul _ _ _
  have e2:SmF n (fun x=>M2 x w * SmF n fun v=>P u v * R v x)=SmF n fun v=>P u v * SmF n fun x=>M2 x w * R v x:=by
   have:SmF n (fun x=>M2 x w * SmF n fun v=>P u v * R v x)=SmF n fun x=>SmF n fun v=>P u v * (M2 x w * R v x):=smF_congr fun x _=>by
    rw [←smF_mul]
    exact smF_congr fun v _=>by grind
   rw [this,smF_swap]
   exact smF_congr fun x _=>smF_mul _ _ _
  have e3:SmF n (fun x=>R x w * SmF n fun v=>P v x * M u v)=SmF n fun x=>SmF n fun y=>R x w * (M' y x * P u y):=smF_congr fun x hx=>by
   rw [g.go u hu x hx,smF_mul]
  have e4:SmF n (fun v=>P u v * SmF n fun x=>M2 x w * R v x)=SmF n fun v=>SmF n fun y=>P u v * (R y w * M' v y):=smF_congr fun v hv=>by
   rw [←g'.go v hv w hw,smF_mul]
  rw [e1,e2,e3,e4,smF_swap]
  exact smF_congr fun v _=>smF_congr fun y _=>by grind
theorem GoI.turn (g:GoI n h h' M M' P N) (y1:SymF n M) (y2:SymF n M'):GoI n h' h M' M (fun w u=>P u w) N:=by
 refine ⟨fun w hw u hu=>g.pos u hu w hw,g.col,g.row,fun w hw u hu e=>(g.hue u hu w hw e).symm,fun w hw u hu=>?_⟩
 have e1:SmF n (fun x=>P u x * M' w x)=SmF n fun x=>M' x w * P u x:=smF_congr fun x hx=>by rw [y2 w hw x hx,Int.mul_comm]
 have e2:SmF n (fun v=>M v u * P v w)=SmF n fun v=>P v w * M u v:=smF_congr fun v hv=>by rw [y1 v hv u hu,Int.mul_comm]
 show SmF n (fun x=>P u x * M' w x)=SmF n fun v=>M v u * P v w
 rw [e1,e2,g.go u hu w hw]
theorem smF_one {f:Nat→Int} {u:Nat} (hu:u < n):SmF n (fun w=>if u=w then f w else 0)=f u:=by
 have:∀ m,SmF m (fun w=>if u=w then f w else 0)=if u < m then f u else 0:=by
  intro m
  induction m with
  | zero=>rfl
  | succ m ih =>
   rw [smF_succ,ih]
   by_cases c:u=m
   ·subst c
    rw [if_neg (Nat.lt_irrefl _),if_pos rfl,if_pos (Nat.lt_succ_self _),Int.zero_add]
   ·rw [if_neg c,Int.add_zero]
    by_cases c2:u < m
    ·rw [if_pos c2,if_pos (by omega)]
    ·rw [if_neg c2,if_neg (by omega)]
 rw [this,if_pos hu]
theorem go_turn {s:Nat→Nat} (hs:((List.range n).map s).Perm (List.range n)) (hh:∀ u < n,h' (s u)=h u) (hM:∀ u < n,∀ v < n,M' (s u) (s v)=M u v):GoI n h h' M M' (fun u w=>if s u=w then 1 else 0) 1:=by
 have sl:∀ u < n,s u < n:=fun u hu=>mem_range.mp (hs.mem_iff.mp (mem_map.mpr ⟨u,mem_range.mpr hu,rfl⟩))
 refine ⟨fun u hu w hw=>by show 0≤if s u=w then (1:Int) else 0; split <;> decide,fun u hu=>smF_one (f:=fun _=>1) (sl u hu),fun w hw=>?_,fun u hu w hw e=>?_,fun u hu w hw=>?_⟩
 ·rw [smF_perm hs fun x=>if x=w then 1 else 0]
  have:SmF n (fun x=>if x=w then (1:Int) else 0)=SmF n fun x=>if w=x then 1 else 0:=smF_congr fun x _=>by
   by_cases c:x=w
   ·rw [if_pos c,if_pos c.symm]
   ·rw [if_neg c,if_neg (Ne.symm c)]
  rw [this]
  exact smF_one (f:=fun _=>1) hw
 ·have:s u=w:=by
   by_cases c:s u=w
   ·exact c
   ·exact absurd (if_neg c) e
  rw [←this]
  exact hh u hu
 ·have e1:SmF n (fun v=>(if s v=w then 1 else 0) * M u v)=SmF n fun v=>(fun x=>if w=x then M' (s u) x else 0) (s v):=smF_congr fun v hv=>by
   show _=if w=s v then M' (s u) (s v) else 0
   by_cases c:s v=w
   ·rw [if_pos c,if_pos c.symm,Int.one_mul,hM u hu v hv]
   ·rw [if_neg c,if_neg (Ne.symm c),Int.zero_mul]
  have e2:SmF n (fun x=>M' x w * (if s u=x then 1 else 0))=SmF n fun x=>if s u=x then M' x w else 0:=smF_congr fun x _=>by
   by_cases c:s u=x
   ·rw [if_pos c,if_pos c,Int.mul_one]
   ·rw [if_neg c,if_neg c,Int.mul_zero]
  rw [e1,smF_perm hs fun x=>if w=x then M' (s u) x else 0,e2,smF_one (sl u hu)]
  exact smF_one hw
theorem go_even (E:EvF n n h h' M M' a b) (as:AsF n n a b) (y1:SymF n M) (y2:SymF n M') {k:Int→Int} {W:Int} (k0:∀ u < n,0≤k (a u)) (hk:∀ u < n,k (a u) * cntF n a (a u)=W):GoI n h h' M M' (shF a b k) W:=by
 refine ⟨fun u hu w hw=>?_,fun u hu=>shF_row as (hk u hu),fun w hw=>?_,fun u hu w hw e=>(shF_hue E hu hw).resolve_left e,fun u hu w hw=>shF_goes E as y1 y2 hk hu hw⟩
 ·unfold shF
  split
  ·exact k0 u hu
  ·exact Int.le_refl _
 ·obtain ⟨u,hu,eu⟩:=as.symm.ex hw
  exact shF_col (by rw [←eu]; exact hk u hu)
theorem low_scale {k:Int} (hk:0 < k) (hN:0 < N):lowM n (fun u w=>k * P u w) (k * N)=lowM n P N:=by
 unfold lowM
 exact mat_eq.mpr fun u _ w _=>M11.low_eq (Int.ne_of_gt (Int.mul_pos hk hN)) (Int.ne_of_gt hN) (by grind)
theorem join_low (hN:0 < N) (hN':0 < N'):joinT (lowM n P N) (lowM n R N') n=lowM n (fun u w=>SmF n fun v=>P u v * R v w) (N * N'):=by
 unfold lowM
 rw [joinT_mat]
 refine mat_eq.mpr fun u _ w _=>?_
 have hW:=Int.mul_pos hN hN'
 have ez:List.zipWith mulL ((List.range n).map fun v=>M11.low (P u v) N) ((List.range n).map fun v=>M11.low (R v w) N')=(List.range n).map fun v=>mulL (M11.low (P u v) N) (M11.low (R v w) N'):=by
  apply ext_getElem?
  intro i
  rw [getElem?_zipWith,getElem?_map,getElem?_map,getElem?_map]
  cases (List.range n)[i]? with
  | none=>rfl
  | some v=>rfl
 have key:∀ v,Lw (mulL (M11.low (P u v) N) (M11.low (R v w) N'))∧(mulL (M11.low (P u v) N) (M11.low (R v w) N')).1 * (N * N')=P u v * R v w * (mulL (M11.low (P u v) N) (M11.low (R v w) N')).2:=fun v=>by
  have c1:=M11.low_cross (t:=P u v) (Int.ne_of_gt hN)
  have p1:=M11.low_pos (t:=P u v) (Int.ne_of_gt hN)
  have c2:=M11.low_cross (t:=R v w) (Int.ne_of_gt hN')
  have p2:=M11.low_pos (t:=R v w) (Int.ne_of_gt hN')
  unfold mulL
  generalize M11.low (P u v) N=f at c1 p1
  generalize M11.low (R v w) N'=g at c2 p2
  have pp:=Int.mul_pos p1 p2
  have c3:=M11.low_cross (t:=f.1 * g.1) (Int.ne_of_gt pp)
  refine ⟨low_lw (Int.ne_of_gt pp),?_⟩
  generalize M11.low (f.1 * g.1) (f.2 * g.2)=z at c3
  refine Int.eq_of_mul_eq_mul_right (Int.ne_of_gt pp) ?_
  have e:z.1 * (N * N') * (f.2 * g.2)=(z.1 * (f.2 * g.2)) * (N * N'):=by grind
  rw [e,c3]
  have e2:f.1 * g.1 * z.2 * (N * N')=(f.1 * N) * (g.1 * N') * z.2:=by grind
  rw [e2,c1,c2]
  grind
 unfold jSh
 rw [ez,sumL_low hW (fun f hf=>by obtain ⟨v,_,rfl⟩:=mem_map.mp hf; exact (key v).1.1) (fun f hf=>by obtain ⟨v,_,rfl⟩:=mem_map.mp hf; exact lw_dvd (key v).1 (key v).2),map_map]
 congr 1
 refine congrArg List.sum (map_congr_left fun v _=>?_)
 exact over_val (key v).1.1 (lw_dvd (key v).1 (key v).2) (key v).2
theorem low_above {t b:Int} (hb:0 < b):0 < (M11.low t b).1↔0 < t:=by
 have c:=M11.low_cross (t:=t) (Int.ne_of_gt hb)
 have p:=M11.low_pos (t:=t) (Int.ne_of_gt hb)
 generalize M11.low t b=z at c p
 constructor
 ·intro h
  have:=Int.mul_pos h hb
  rw [c] at this
  exact Int.pos_of_mul_pos_left this p
 ·intro h
  have:=Int.mul_pos h p
  rw [←c] at this
  exact Int.pos_of_mul_pos_left this hb
theorem pos_low (hN:0 < N) {u w:Nat} (hu:u < n) (hw:w < n):posF (lowM n P N) u w↔0 < P u w:=by
 have e1:(lowM n P N)[u]? = some ((List.range n).map fun w=>M11.low (P u w) N):=by unfold lowM mat; rw [getElem?_map,getElem?_range hu]; rfl
 have e2:((List.range n).map fun w=>M11.low (P u w) N)[w]? = some (M11.low (P u w) N):=by rw [getElem?_map,getElem?_range hw]; rfl
 constructor
 ·rintro ⟨fs,f,h1,h2,h3⟩
  rw [e1] at h1
  cases h1
  rw [e2] at h2
  cases h2
  exact (low_above hN).mp h3
 ·exact fun h=>⟨_,_,e1,e2,(low_above hN).mpr h⟩
end
end
section
section
variable {n:Nat} {h h':Nat→Int} {M M':Nat→Nat→Int} {P:Nat→Nat→Int} {N:Int} {a b:Nat→Int}
structure CmpF (n:Nat) (P:Nat→Nat→Int) (a b:Nat→Int):Prop where
 pos:∀ u < n,∀ w < n,0 < P u w→a u=b w
 here:∀ {a' b':Nat→Int},(∀ u < n,∀ w < n,0 < P u w→a' u=b' w)→∀ u < n,∀ v < n,a u=a v→a' u=a' v
 there:∀ {a' b':Nat→Int},(∀ u < n,∀ w < n,0 < P u w→a' u=b' w)→∀ u < n,∀ v < n,b u=b v→b' u=b' v
 cross:∀ {a' b':Nat→Int},(∀ u < n,∀ w < n,0 < P u w→a' u=b' w)→∀ u < n,∀ w < n,a u=b w→a' u=b' w
theorem GoI.lot (g:GoI n h h' M M' P N) (c:∀ u < n,∀ w < n,0 < P u w→a u=b w) (o:Int) {u:Nat} (hu:u < n):SmF n (fun w=>qF b o w * P u w)=N * qF a o u:=by
 have:SmF n (fun w=>qF b o w * P u w)=SmF n fun w=>qF a o u * P u w:=smF_congr fun w hw=>by
  by_cases z:P u w=0
  ·rw [z,Int.mul_zero,Int.mul_zero]
  ·have:=c u hu w hw (Int.lt_iff_le_and_ne.mpr ⟨g.pos u hu w hw,Ne.symm z⟩)
   unfold qF
   rw [this]
 rw [this,smF_mul,g.row u hu,Int.mul_comm]
theorem GoI.sums (g:GoI n h h' M M' P N) (c:∀ u < n,∀ w < n,0 < P u w→a u=b w) (o:Int) {u:Nat} (hu:u < n):SmF n (fun x=>P u x * rsF n M' b x o)=N * rsF n M a u o:=by
 have e1:N * rsF n M a u o=SmF n fun v=>SmF n fun w=>qF b o w * (P v w * M u v):=by
  unfold rsF
  rw [←smF_mul]
  refine smF_congr fun v hv=>?_
  have:N * (qF a o v * M u v)=(N * qF a o v) * M u v:=by grind
  rw [this,←g.lot c o hv,Int.mul_comm,←smF_mul]
  exact smF_congr fun w _=>by grind
 have e2:SmF n (fun x=>P u x * rsF n M' b x o)=SmF n fun x=>SmF n fun w=>qF b o w * (M' x w * P u x):=smF_congr fun x _=>by
  unfold rsF
  rw [←smF_mul]
  exact smF_congr fun w _=>by grind
 rw [e1,e2,smF_swap,smF_swap n n fun v w=>qF b o w * (P v w * M u v)]
 refine smF_congr fun w hw=>?_
 rw [smF_mul,smF_mul,g.go u hu w hw]
theorem smF_nought {n:Nat} {f:Nat→Int} (h:∀ i < n,0≤f i) (e:SmF n f=0):∀ i < n,f i=0:=fun i hi=>by
 by_cases c:f i=0
 ·exact c
 ·have:=smF_pos h hi (Int.lt_iff_le_and_ne.mpr ⟨h i hi,Ne.symm c⟩)
  omega
theorem sq_nonneg' (x:Int):0≤x * x:=by
 rcases Int.le_total 0 x with z | z
 ·exact Int.mul_nonneg z z
 ·exact Int.mul_nonneg_of_nonpos_of_nonpos z z
theorem mixed_alike {d d':Nat→Int} (g:GoI n h h' M M' P N) (e1:∀ u < n,SmF n (fun x=>P u x * d' x)=N * d u) (e2:∀ w < n,SmF n (fun u=>P u w * d u)=N * d' w):∀ u < n,∀ w < n,0 < P u w→d u=d' w:=by
 have sq:∀ u < n,∀ w < n,0≤P u w * ((d u - d' w) * (d u - d' w)):=fun u hu w hw=>Int.mul_nonneg (g.pos u hu w hw) (sq_nonneg' _)
 have X:SmF n (fun u=>SmF n fun w=>P u w * (d u * d u))=N * SmF n fun u=>d u * d u:=by
  rw [←smF_mul]
  refine smF_congr fun u hu=>?_
  have:SmF n (fun w=>P u w * (d u * d u))=SmF n fun w=>(d u * d u) * P u w:=smF_congr fun w _=>Int.mul_comm _ _
  rw [this,smF_mul,g.row u hu,Int.mul_comm]
 have Y:SmF n (fun u=>SmF n fun w=>P u w * (d' w * d' w))=N * SmF n fun w=>d' w * d' w:=by
  rw [smF_swap,←smF_mul]
  refine smF_congr fun w hw=>?_
  have:SmF n (fun u=>P u w * (d' w * d' w))=SmF n fun u=>(d' w * d' w) * P u w:=smF_congr fun w _=>Int.mul_comm _ _
  rw [this,smF_mul,g.col w hw,Int.mul_comm]
 have Z1:SmF n (fun u=>SmF n fun w=>P u w * (d u * d' w))=N * SmF n fun u=>d u * d u:=by
  rw [←smF_mul]
  refine smF_congr fun u hu=>?_
  have:SmF n (fun w=>P u w * (d u * d' w))=SmF n fun w=>d u * (P u w * d' w):=smF_congr fun w _=>by grind
  rw [this,smF_mul,e1 u hu]
  grind
 have Z2:SmF n (fun u=>SmF n fun w=>P u w * (d u * d' w))=N * SmF n fun w=>d' w * d' w:=by
  rw [smF_swap,←smF_mul]
  refine smF_congr fun w hw=>?_
  have:SmF n (fun u=>P u w * (d u * d' w))=SmF n fun u=>d' w * (P u w * d u):=smF_congr fun w _=>by grind
  rw [this,smF_mul,e2 w hw]
  grind
 have S:SmF n (fun u=>SmF n fun w=>P u w * ((d u - d' w) * (d u - d' w)))=0:=by
  have e:SmF n (fun u=>SmF n fun w=>P u w * ((d u - d' w) * (d u - d' w)))=SmF n fun u=>(SmF n (fun w=>P u w * (d u * d u))+SmF n fun w=>P u w * (d' w * d' w))+(-2) * SmF n fun w=>P u w * (d u * d' w):=smF_congr fun u _=>by
   rw [←smF_mul,←smF_add,←smF_add]
   exact smF_congr fun w _=>by grind
  rw [e,smF_add n (fun u=>SmF n (fun w=>P u w * (d u * d u))+SmF n fun w=>P u w * (d' w * d' w)) fun u=>(-2) * SmF n fun w=>P u w * (d u * d' w),smF_add n (fun u=>SmF n fun w=>P u w * (d u * d u)),smF_mul,X,Y,Z1]
  rw [Z1] at Z2
  omega
 intro u hu w hw p
 have r1:=smF_nought (fun u hu=>smF_nonneg (sq u hu)) S u hu
 have r2:=smF_nought (sq u hu) r1 w hw
 have r3:=(Int.mul_eq_zero.mp r2).resolve_left (Int.ne_of_gt p)
 have r4:d u - d' w=0:=(Int.mul_eq_zero.mp r3).elim id id
 omega
theorem CmpF.even (c:CmpF n P a b) (g:GoI n h h' M M' P N) (y1:SymF n M) (y2:SymF n M'):EvF n n h h' M M' a b:=by
 have hue:∀ u < n,∀ w < n,0 < P u w→h u=h' w:=fun u hu w hw p=>(g.hue u hu w hw (Int.ne_of_gt p)).symm
 have sums:∀ o,∀ u < n,∀ w < n,0 < P u w→rsF n M a u o=rsF n M' b w o:=fun o =>
  mixed_alike (d:=fun u=>rsF n M a u o) (d':=fun w=>rsF n M' b w o) g (fun u hu=>g.sums c.pos o hu) fun w hw=>(g.turn y1 y2).sums (a:=b) (b:=a) (fun w hw u hu p=>(c.pos u hu w hw p).symm) o hw
 exact ⟨fun u hu v hv e=>⟨c.here hue u hu v hv e,fun o=>c.here (sums o) u hu v hv e⟩,fun u hu v hv e=>⟨c.there hue u hu v hv e,fun o=>c.there (sums o) u hu v hv e⟩,fun u hu w hw e=>⟨c.cross hue u hu w hw e,fun o=>c.cross (sums o) u hu w hw e⟩⟩
theorem CmpF.as (c:CmpF n P a b) (g:GoI n h h' M M' P N) (hN:0 < N):AsF n n a b:=by
 intro o
 refine Int.eq_of_mul_eq_mul_left (a:=N) (Int.ne_of_gt hN) ?_
 unfold cntF
 rw [←smF_mul,←smF_mul]
 have e1:SmF n (fun u=>N * qF a o u)=SmF n fun u=>SmF n fun w=>qF b o w * P u w:=smF_congr fun u hu=>(g.lot c.pos o hu).symm
 rw [e1,smF_swap]
 refine smF_congr fun w hw=>?_
 rw [smF_mul,g.col w hw,Int.mul_comm]
theorem goes_of {hs hs':List Int} {M M':List (List Int)} (h1:hs.length=n) (h2:hs'.length=n) (S:SqN n M) (S':SqN n M') (g:GoI n (hueF hs) (hueF hs') (ent M) (ent M') P N) (hN:0 < N) (hb:N.natAbs < 2 ^ 20):goesB n hs hs' M M' (lowM n P N)=true:=by
 have hB:∀ f ∈ (lowM n P N).flatten,Bt f:=fun f hf=>by
  obtain ⟨r,hr,hf⟩:=mem_flat hf
  obtain ⟨u,hu,rfl⟩:=mem_mat.mp hr
  obtain ⟨w,_,rfl⟩:=mem_map.mp hf
  exact ⟨M11.low_pos (Int.ne_of_gt hN),Nat.lt_of_le_of_lt (M11.low_le (Int.ne_of_gt hN)).2 hb⟩
 obtain ⟨b1,b2,_⟩:=bot_spec hB
 unfold goesB
 generalize botL (lowM n P N).flatten=W at b1 b2
 obtain ⟨T,eT⟩:∃ T:Nat→Nat→Int,T=fun u w=>topF (M11.low (P u w) N) W:=⟨_,rfl⟩
 have key:∀ u < n,∀ w < n,T u w * N=P u w * W:=fun u hu w hw=>by
  have dv:(M11.low (P u w) N).2 ∣ W:=b2 _ (mem_flatten.mpr ⟨_,mem_mat.mpr ⟨u,hu,rfl⟩,mem_map.mpr ⟨w,mem_range.mpr hw,rfl⟩⟩)
  have c:=M11.low_cross (t:=P u w) (Int.ne_of_gt hN)
  have p:=M11.low_pos (t:=P u w) (Int.ne_of_gt hN)
  rw [eT]
  show topF (M11.low (P u w) N) W * N=_
  unfold topF
  generalize M11.low (P u w) N=f at dv c p
  obtain ⟨q,e,e2⟩:=M11.fdiv_of_dvd p dv
  rw [e2]
  have:f.1 * q * N=(f.1 * N) * q:=by grind
  rw [this,c,e]
  grind
 have eT2:topsI (lowM n P N) W=mat n T:=by
  unfold topsI lowM mat
  rw [map_map]
  refine map_congr_left fun u _=>?_
  show List.map _ (List.map _ _)=_
  rw [map_map,eT]
  rfl
 have eM:M=mat n (ent M):=mat_of S.len fun x hx=>by
  obtain ⟨i,hi⟩:=mem_iff_getElem?.mp hx
  exact (S.row i x hi).1
 have eM':M'=mat n (ent M'):=mat_of S'.len fun x hx=>by
  obtain ⟨i,hi⟩:=mem_iff_getElem?.mp hx
  exact (S'.row i x hi).1
 have sq:isSqF n (lowM n P N)=true:=by
  unfold isSqF
  rw [Bool.and_eq_true,decide_eq_true_iff,all_eq_true]
  refine ⟨by unfold lowM mat; rw [length_map,length_range],fun r hr=>?_⟩
  obtain ⟨u,hu,rfl⟩:=mem_mat.mp hr
  exact decide_eq_true (by rw [length_map,length_range])
 have nN:=Int.ne_of_gt hN
 rw [eT2,sq,decide_eq_true h2,Bool.true_and,Bool.true_and,Bool.and_eq_true,Bool.and_eq_true,decide_eq_true_iff]
 refine ⟨shared_mat.mpr ⟨fun u hu w hw=>?_,fun u hu=>?_,fun w hw=>?_⟩,(keep_mat h1 h2).mpr fun u hu w hw=>?_,?_⟩
 ·have:=Int.mul_nonneg (g.pos u hu w hw) (Int.le_of_lt b1)
  rw [←key u hu w hw] at this
  exact Int.nonneg_of_mul_nonneg_left this hN
 ·show SmF n (fun w=>T u w)=W
  refine Int.eq_of_mul_eq_mul_left nN ?_
  rw [←smF_mul]
  have:SmF n (fun w=>N * T u w)=SmF n fun w=>W * P u w:=smF_congr fun w hw=>by rw [Int.mul_comm,key u hu w hw,Int.mul_comm]
  rw [this,smF_mul,g.row u hu,Int.mul_comm]
 ·show SmF n (fun u=>T u w)=W
  refine Int.eq_of_mul_eq_mul_left nN ?_
  rw [←smF_mul]
  have:SmF n (fun u=>N * T u w)=SmF n fun u=>W * P u w:=smF_congr fun u hu=>by rw [Int.mul_comm,key u hu w hw,Int.mul_comm]
  rw [this,smF_mul,g.col w hw,Int.mul_comm]
 ·by_cases z:P u w=0
  ·left
   have:=key u hu w hw
   rw [z,Int.zero_mul] at this
   exact (Int.mul_eq_zero.mp this).resolve_right nN
  ·right
   have:=g.hue u hu w hw z
   unfold hueF at this
   rw [getD_eq_getElem?_getD,getD_eq_getElem?_getD]
   exact this
 ·conv=>lhs; rw [eM]
  conv=>rhs; rw [eM']
  rw [prod_mat,prod_mat]
  refine mat_eq.mpr fun u hu w hw=>?_
  show SmF n (fun v=>T v w * ent M u v)=SmF n fun x=>ent M' x w * T u x
  refine Int.eq_of_mul_eq_mul_left nN ?_
  rw [←smF_mul,←smF_mul]
  have q1:SmF n (fun v=>N * (T v w * ent M u v))=SmF n fun v=>W * (P v w * ent M u v):=smF_congr fun v hv=>by
   have:=key v hv w hw
   grind
  have q2:SmF n (fun x=>N * (ent M' x w * T u x))=SmF n fun x=>W * (ent M' x w * P u x):=smF_congr fun x hx=>by
   have:=key u hu x hx
   grind
  rw [q1,q2,smF_mul,smF_mul,g.go u hu w hw]
end
theorem cmp_of {n:Nat} {P:Nat→Nat→Int} {N:Int} {ms:List Int} (hN:0 < N) (G:LotG n n (lowM n P N) (posF (lowM n P N)) ms):CmpF n P (aF (nI (numb ms))) (bF n (nI (numb ms)))∧(nI (numb ms)).length=n+n:=by
 have lm:=G.len
 have ll:(nI (numb ms)).length=n+n:=by unfold nI; rw [length_map,numb_len,lm]
 have e:=lot_two ll
 have at_:∀ i < n+n,∃ x k,ms[i]? = some x∧(numb ms)[i]? = some k∧(nI (numb ms))[i]? = some ((k:Nat):Int):=fun i hi=>by
  obtain ⟨x,hx⟩:=get_lt (l:=ms) (i:=i) (by omega)
  obtain ⟨k,hk⟩:=get_lt (l:=numb ms) (i:=i) (by rw [numb_len]; omega)
  exact ⟨x,k,hx,hk,by rw [nI_get,hk]; rfl⟩
 have same:∀ i < n+n,∀ j < n+n,(nI (numb ms)).getD i 0=(nI (numb ms)).getD j 0↔ms[i]? = ms[j]?:=fun i hi j hj=>by
  obtain ⟨x,k,h1,h2,h3⟩:=at_ i hi
  obtain ⟨y,l,g1,g2,g3⟩:=at_ j hj
  rw [getD_eq_getElem?_getD,getD_eq_getElem?_getD,h3,g3,h1,g1]
  show ((k:Int)=(l:Int))↔_
  rw [Int.ofNat_inj,numb_get h1 g1 h2 g2]
  exact ⟨fun z=>by rw [z],fun z=>Option.some.inj z⟩
 have fin:∀ {a' b':Nat→Int},(∀ u < n,∀ w < n,0 < P u w→a' u=b' w)→Finer ms (lotL n n a' b'):=fun h=>(G _ _ fun u w hu hw p=>h u hu w hw ((pos_low hN hu hw).mp p)).sound
 refine ⟨⟨fun u hu w hw p=>?_,fun h u hu v hv z=>?_,fun h u hu v hv z=>?_,fun h u hu w hw z=>?_⟩,ll⟩
 ·show (nI (numb ms)).getD u 0=(nI (numb ms)).getD (n+w) 0
  rw [same u (by omega) (n+w) (by omega)]
  obtain ⟨x,k,h1,_,_⟩:=at_ u (by omega)
  obtain ⟨y,l,g1,_,_⟩:=at_ (n+w) (by omega)
  rw [h1,g1,(G (fun _=>0) (fun _=>0) fun _ _ _ _ _=>rfl).done u w ((pos_low hN hu hw).mpr p) x y h1 g1]
 ·have z':=(same u (by omega) v (by omega)).mp z
  obtain ⟨x,k,h1,_,_⟩:=at_ u (by omega)
  exact fin h u v x _ _ h1 (by rw [←z',h1]) (lotL_here hu) (lotL_here hv)
 ·have z':=(same (n+u) (by omega) (n+v) (by omega)).mp z
  obtain ⟨x,k,h1,_,_⟩:=at_ (n+u) (by omega)
  exact fin h (n+u) (n+v) x _ _ h1 (by rw [←z',h1]) (lotL_there hu) (lotL_there hv)
 ·have z':=(same u (by omega) (n+w) (by omega)).mp z
  obtain ⟨x,k,h1,_,_⟩:=at_ u (by omega)
  exact fin h u (n+w) x _ _ h1 (by rw [←z',h1]) (lotL_here hu) (lotL_there hw)
end
section
variable {P:Program} {w:World} {K:Frag} {mg:Str→Option Value} {base:Heap}
def OrdL (H:Hp) (k:Nat) (rs:List Addr):Prop:=∀ r ∈ rs,∃ os:List Int,H r=some (.lst (os.map V.int))∧os.Perm (rI k)
def OrdI (H:Hp) (k:Nat) (rs:List Addr):Prop:=∃ r ∈ rs,H r=some (.lst ((rI k).map V.int))
theorem OrdL.mono {H H':Hp} {k:Nat} {rs:List Addr} (h:OrdL H k rs) (s:Same H H'):OrdL H' k rs:=fun r hr=>let ⟨os,e,p⟩:=h r hr; ⟨os,s _ _ e,p⟩
theorem OrdI.mono {H H':Hp} {k:Nat} {rs:List Addr} (h:OrdI H k rs) (s:Same H H'):OrdI H' k rs:=let ⟨r,hr,e⟩:=h; ⟨r,hr,s _ _ e⟩
def facN:Nat→Nat
 | 0=>1
 | k+1=>facN k * (k+1)
theorem facN_le {k:Nat} (h:k≤5):facN k≤120:=by
 match k,h with
 | 0,_=>decide
 | 1,_=>decide
 | 2,_=>decide
 | 3,_=>decide
 | 4,_=>decide
 | 5,_=>decide
def insO (os:List Int) (k i:Nat):List Int:=os.take i++[(k:Int)]++os.drop i
theorem insO_perm {os:List Int} {k:Nat} (h:os.Perm (rI k)) (i:Nat):(insO os k i).Perm (rI (k+1)):=by
 unfold insO
 rw [rI_succ]
 have e:(os.take i++[(k:Int)]++os.drop i).Perm (os.take i++(os.drop i++[(k:Int)])):=by
  rw [List.append_assoc]
  exact List.Perm.append_left _ List.perm_append_comm
 refine e.trans ?_
 rw [←List.append_assoc,take_append_drop]
 exact h.append_right _
theorem insO_last (k:Nat):insO (rI k) k k=rI (k+1):=by
 unfold insO
 rw [take_of_length_le (by rw [rI_len]; exact Nat.le_refl _),drop_of_length_le (by rw [rI_len]; exact Nat.le_refl _),List.append_nil,rI_succ]
abbrev nOrds:List Str:=["_law_many","_law_found","_law_k","_law_more","_law_order_here"]
theorem scOrds:FnScope nOrds ["_law_many"] (defScope sOrders):=by constructor<;>first|rfl|decide +kernel
def binR (e:Expr):Expr:=match e with
 | .BinOp _ _ r _=>r
 | _=>.Constant .none 0 ⟨0,0,0,0⟩
theorem lcOrds:LcScopes (defScope sOrders) nOrds (lcScope (binR (asgVal (forBody (forBody (bodyAt sOrders 1) 1) 0)))) ["_law_at"]:=by constructor<;>first|rfl|decide +kernel
def spOrds:Sp:=fun vs H Q _=>∃ n:Nat,vs=[.int (n:Int)]∧n≤5∧∀ (D:Addr) (rs:List Addr) (H':Hp),Same H H'→H' D=some (.lst (rs.map V.ref))→OrdL H' n rs→OrdI H' n rs→rs.length≤120→(∀ r ∈ rs,H r=none)→Q (.ref D) H'
theorem ok_ords {f:Addr} {fd:FuncData} (B:BltL mg) (F:Fun K "_law_orders" "_law_orders" sOrders f fd):FnOk P w K mg base CX0 1 f fd ["_law_many"] spOrds:=by
 refine F.ok scOrds (fun vs H Q E h=>?_) (fun cdv A outer s H vs Q E hr h=>?_)
 ·obtain ⟨n,rfl,_⟩:=h
  rfl
 ·obtain ⟨n,rfl,hn,q⟩:=h
  refine ⟨_,pss_cons (ps_set (i:=1) scOrds.nd rfl (Or.inl rfl) (pe_lst (pa_cons (pe_lst pa_nil) pa_nil)))
   (pss_cons (ps_for PassesOwn.never rfl (pi_range1 rfl B.range (pa_cons (pv 0) pa_nil)) (pg_name (i:=2) scOrds.nd rfl (Or.inr rfl))
    (pss_cons (ps_set (i:=3) scOrds.nd rfl (Or.inl rfl) (pe_lst pa_nil))
    (pss_cons (ps_for PassesOwn.never rfl (pi_list (pv 1)) (pg_name (i:=4) scOrds.nd rfl (Or.inr rfl))
     (pss_one (ps_set (i:=3) scOrds.nd rfl (Or.inl rfl) (pe_op op_cat (pv 3) (pe_lc1 rfl lcOrds rfl (pi_range1 rfl B.range (pa_cons (pe_op op_add (pv 2) pe_int) pa_nil)) (fun _ _ _=>pe_op op_cat (pe_op op_cat (pe_slice (sl_listK (K:=K)) (pv 4) po_none (po_some (pv 5))) (pe_lst (pa_cons (pv 2) pa_nil))) (pe_slice (sl_listK (K:=K)) (pv 4) (po_some (pv 5)) po_none)))))))
    (pss_one (ps_set (i:=1) scOrds.nd rfl (Or.inl rfl) (pv 3))))))
   (pss_one (ps_ret (pv 1)))),?_⟩
  refine ⟨Nat.zero_le _,fun e he=>⟨sz1,fun L hL=>?_⟩⟩
  have s0:Same H (upd (upd H e (.lst [])) L (.lst [.ref e])):=(Same.upd he).trans (Same.upd hL)
  have neL:e≠L:=ne_of_none upd_same hL
  have ee:upd (upd H e (.lst [])) L (.lst [.ref e]) e=some (.lst []):=by rw [upd_ne neL]; exact upd_same
  have eL:upd (upd H e (.lst [])) L (.lst [.ref e]) L=some (.lst [.ref e]):=upd_same
  generalize upd (upd H e (.lst [])) L (.lst [.ref e])=H0 at s0 ee eL ⊢
  refine ⟨_,rfl,(n:Int),rfl,by omega,by omega,for_range (n:=n) (fun k σ H'=>∃ (o2 o3 o4:Option V) (FD:Addr) (rs:List Addr),σ=[some (.int (n:Int)),some (.ref FD),o2,o3,o4]∧Same H H'∧H' FD=some (.lst (rs.map V.ref))∧OrdL H' k rs∧OrdI H' k rs∧rs.length=facN k∧∀ r ∈ rs,H r=none) ⟨none,none,none,L,[e],rfl,s0,eL,fun r hr'=>⟨[],by rw [mem_singleton.mp hr']; exact ee,List.Perm.refl _⟩,⟨e,List.mem_singleton_self _,ee⟩,rfl,fun r hr'=>by rw [mem_singleton.mp hr']; exact he⟩ ?_ ?_⟩
  ·rintro k σ H1 hk ⟨o2,o3,o4,FD,rs,rfl,s1,eF,OL,OI,lr,nr⟩
   have fk:facN (k+1)≤120:=facN_le (by omega)
   refine ⟨Nat.zero_le _,fun Mo hMo=>?_⟩
   have s2:Same H1 (upd H1 Mo (.lst [])):=Same.upd hMo
   refine ⟨_,rfl,FD,rfl,⟨_,SqL.of (s2 _ _ eF)⟩,for_list (xs:=rs.map V.ref) (fun j σ H'=>∃ (o4:Option V) (MD:Addr) (ms:List Addr),σ=[some (.int (n:Int)),some (.ref FD),some (.int (0+(k:Nat):Int)),some (.ref MD),o4]∧Same H1 H'∧H' MD=some (.lst (ms.map V.ref))∧OrdL H' (k+1) ms∧((∃ i r,i < j∧rs[i]? = some r∧H1 r=some (.lst ((rI k).map V.int)))→OrdI H' (k+1) ms)∧ms.length=j * (k+1)∧∀ r ∈ ms,H1 r=none) ⟨_,Mo,[],rfl,s2,upd_same,(fun r hr'=>by cases hr'),(fun ⟨i,r,z,_⟩=>absurd z (Nat.not_lt_zero _)),(by rw [Nat.zero_mul]; rfl),(fun r hr'=>by cases hr')⟩ (fun j σ H' _ ⟨_,_,_,_,s',_⟩=>SqL.of (s' _ _ eF)) ?_ ?_⟩
   ·rintro j v σ H2 hv ⟨o4',MD,ms,rfl,s2',eM,OM,OMI,lm,nm⟩
    obtain ⟨r,hr',rfl⟩:=map_get hv
    have hj:j < rs.length:=lt_get hr'
    obtain ⟨os,er,po⟩:=OL r (mem_of_getElem? hr')
    have lo:os.length=k:=by rw [po.length_eq,rI_len]
    have hjk:(j+1) * (k+1)≤120:=by
     have:(j+1) * (k+1)≤rs.length * (k+1):=Nat.mul_le_mul_right _ hj
     rw [lr] at this
     exact Nat.le_trans this fk
    have hjk':j * (k+1)+(k+1)≤120:=by rw [←Nat.succ_mul]; exact hjk
    refine ⟨_,rfl,_,rfl,_,_,rfl,rfl,((0+(k:Nat):Int)+1),rfl,by omega,by omega,fun D hD=>?_⟩
    rw [show ((0+(k:Nat):Int)+1).toNat=k+1 by omega]
    have lX:((List.range (k+1)).map fun i=>(insO os k i).map V.int).length=k+1:=by rw [length_map,length_range]
    refine lc_range (n:=k+1) (fun i ys H'=>GrdI H2 D ((List.range (k+1)).map fun i=>(insO os k i).map V.int) i ys H'∧∀ y ∈ ys,∃ r,y=.ref r∧H2 r=none) ⟨GrdI.start hD,(fun y hy=>by cases hy)⟩ (fun i ys H' _ ⟨⟨_,_,_,_,eD,_⟩,_⟩=>eD) ?_ ?_ ?_
    ·rintro i ys H3 hi ⟨g,gn⟩
     have e0:((0:Int)+(i:Nat))=(i:Int):=by omega
     rw [e0]
     have s3:Same H2 H3:=let ⟨_,_,_,z,_⟩:=g; z
     have er3:=s3 _ _ (s2' _ _ er)
     refine ⟨_,rfl,_,rfl,_,rfl,r,_,rfl,SqL.of er3,fun p1 hp1=>?_⟩
     rw [cut_take os i (by omega)]
     have s4:Same H3 (upd H3 p1 (.lst ((os.take i).map V.int))):=Same.upd hp1
     have e4:upd H3 p1 (.lst ((os.take i).map V.int)) p1=some (.lst ((os.take i).map V.int)):=upd_same
     generalize upd H3 p1 (.lst ((os.take i).map V.int))=H4 at s4 e4 ⊢
     refine ⟨_,rfl,sz1,fun p2 hp2=>?_⟩
     have s5:Same H4 (upd H4 p2 (.lst [.int (0+(k:Nat):Int)])):=Same.upd hp2
     have e5:upd H4 p2 (.lst [.int (0+(k:Nat):Int)]) p2=some (.lst [.int (0+(k:Nat):Int)]):=upd_same
     generalize upd H4 p2 (.lst [.int (0+(k:Nat):Int)])=H5 at s5 e5 ⊢
     refine ⟨p1,p2,_,_,rfl,rfl,s5 _ _ e4,e5,Nat.le_of_lt (small1000 (by rw [length_map,length_take]; show min i os.length+1≤1000; omega)),fun p3 hp3=>?_⟩
     have s6:Same H5 (upd H5 p3 (.lst ((os.take i).map V.int++[.int (0+(k:Nat):Int)]))):=Same.upd hp3
     have e6:upd H5 p3 (.lst ((os.take i).map V.int++[.int (0+(k:Nat):Int)])) p3=some (.lst ((os.take i).map V.int++[.int (0+(k:Nat):Int)])):=upd_same
     generalize upd H5 p3 (.lst ((os.take i).map V.int++[.int (0+(k:Nat):Int)]))=H6 at s6 e6 ⊢
     have s36:=(s4.trans s5).trans s6
     refine ⟨_,rfl,_,rfl,(i:Int),rfl,r,_,rfl,SqL.of (s36 _ _ er3),fun p4 hp4=>?_⟩
     rw [cut_drop os i (by omega)]
     have s7:Same H6 (upd H6 p4 (.lst ((os.drop i).map V.int))):=Same.upd hp4
     have e7:upd H6 p4 (.lst ((os.drop i).map V.int)) p4=some (.lst ((os.drop i).map V.int)):=upd_same
     generalize upd H6 p4 (.lst ((os.drop i).map V.int))=H7 at s7 e7 ⊢
     refine ⟨p3,p4,_,_,rfl,rfl,s7 _ _ e6,e7,Nat.le_of_lt (small1000 (by rw [length_append,length_map,length_map,length_take,length_drop]; show min i os.length+1+(os.length - i)≤1000; omega)),fun p5 hp5=>?_⟩
     have s37:=s36.trans s7
     have new5:NewR H3 (upd H7 p5 (.lst ((os.take i).map V.int++[.int (0+(k:Nat):Int)]++(os.drop i).map V.int))) (.ref p5) ((insO os k i).map V.int):=⟨p5,rfl,?_,s37.free hp5⟩
     obtain ⟨k1,k2,k3⟩:=g.step hD (by rw [getElem?_map,getElem?_range hi]; rfl) new5 (s37.trans (Same.upd hp5)) (by omega)
     refine ⟨k1,k2,k3,fun y hy=>?_⟩
     rcases mem_append.mp hy with z | z
     ·exact gn y z
     ·exact ⟨p5,mem_singleton.mp z,s3.free (s37.free hp5)⟩
     rw [upd_same]
     unfold insO
     rw [map_append,map_append,Int.zero_add]
     rfl
    ·rintro ys H3 ⟨g,gn⟩
     have eDy:H3 D=some (.lst ys):=let ⟨_,_,_,_,z,_⟩:=g; z
     obtain ⟨s3,zs,eD,V3⟩:=GrdI.done (X:=(List.range (k+1)).map fun i=>(insO os k i).map V.int) (by rw [lX]; exact g)
     have lz:zs.length=k+1:=by rw [V3.len,lX]
     refine ⟨MD,D,_,_,rfl,rfl,s3 _ _ eM,eD,Nat.le_of_lt (small1000 (by rw [length_map,length_map,lm,lz]; omega)),fun p6 hp6=>?_⟩
     have s6:Same H3 (upd H3 p6 (.lst (ms.map V.ref++zs.map V.ref))):=Same.upd hp6
     have s16:=(s2'.trans s3).trans s6
     refine ⟨_,p6,ms++zs,rfl,s16,by rw [map_append]; exact upd_same,fun r' hr2=>?_,fun hx=>?_,by rw [length_append,lm,lz,Nat.succ_mul],fun r' hr2=>?_⟩
     ·rcases mem_append.mp hr2 with z | z
      ·exact (OM.mono (s3.trans s6)) r' z
      ·obtain ⟨i,hi⟩:=mem_iff_getElem?.mp z
       have hi':i < k+1:=by rw [←lz]; exact lt_get hi
       exact ⟨insO os k i,s6 _ _ (V3.row i r' _ hi (by rw [getElem?_map,getElem?_range hi']; rfl)),insO_perm po i⟩
     ·obtain ⟨i,r',hi,h1,h2⟩:=hx
      by_cases c:i < j
      ·obtain ⟨r2,m2,e2⟩:=(OMI ⟨i,r',c,h1,h2⟩).mono (s3.trans s6)
       exact ⟨r2,mem_append.mpr (.inl m2),e2⟩
      ·obtain rfl:i=j:=by omega
       rw [hr'] at h1
       cases h1
       rw [er] at h2
       have eo:os=rI k:=by
        injection h2 with h2
        injection h2 with h2
        exact (List.map_inj_right (fun _ _ q=>V.int.inj q)).mp h2
       obtain ⟨c,hc⟩:=get_lt (l:=zs) (i:=k) (by omega)
       refine ⟨c,mem_append.mpr (.inr (mem_of_getElem? hc)),?_⟩
       have:=s6 _ _ (V3.row k c _ hc (by rw [getElem?_map,getElem?_range (by omega)]; rfl))
       rw [eo] at this
       rw [←insO_last]
       exact this
     ·rcases mem_append.mp hr2 with z | z
      ·exact nm r' z
      ·rw [eD] at eDy
       injection eDy with eDy
       injection eDy with eDy
       obtain ⟨r2,e2,n2⟩:=gn (.ref r') (by rw [←eDy]; exact mem_map.mpr ⟨r',z,rfl⟩)
       cases e2
       exact s2'.free n2
    ·rintro σ H' Q1 Q2 hq ⟨v,e,u,eu,i,ei,a,xs,ea,hx,g⟩
     exact ⟨v,e,u,eu,i,ei,a,xs,ea,hx,fun p hp=>let ⟨v2,e2,z2,g2⟩:=g p hp; ⟨v2,e2,z2,fun l hl=>let ⟨l1,b1,x1,y1,c1,c2,c3,c4,c5,g3⟩:=g2 l hl; ⟨l1,b1,x1,y1,c1,c2,c3,c4,c5,fun p3 hp3=>let ⟨v3,e3,u3,eu3,i3,ei3,a3,xs3,ea3,hx3,g4⟩:=g3 p3 hp3; ⟨v3,e3,u3,eu3,i3,ei3,a3,xs3,ea3,hx3,fun p4 hp4=>let ⟨l4,b4,x4,y4,d1,d2,d3,d4,d5,g5⟩:=g4 p4 hp4; ⟨l4,b4,x4,y4,d1,d2,d3,d4,d5,fun p5 hp5=>hq _ _ (g5 p5 hp5)⟩⟩⟩⟩⟩
   ·rintro σ H2 ⟨o4',MD,ms,rfl,s2',eM,OM,OMI,lm,nm⟩
    refine ⟨_,rfl,_,_,_,MD,ms,rfl,s1.trans s2',eM,OM,OMI ?_,by rw [lm,length_map,lr]; rfl,fun r' hr2=>s1.free (nm r' hr2)⟩
    obtain ⟨r,mr,er⟩:=OI
    obtain ⟨i,hi⟩:=mem_iff_getElem?.mp mr
    exact ⟨i,r,by rw [length_map]; exact lt_get hi,hi,er⟩
  ·rintro σ H1 ⟨o2,o3,o4,FD,rs,rfl,s1,eF,OL,OI,lr,nr⟩
   exact ⟨_,rfl,q FD rs H1 s1 eF OL OI (by rw [lr]; exact facN_le hn) nr⟩
theorem _root_.L2.Same.over {H H':Hp} {D:Addr} {o:HO} (s:Same H H') (h:H D=none):Same H (upd H' D o):=fun b u e=>by
 rw [upd_ne (ne_of_none e h)]
 exact s _ _ e
theorem eqv_dW (hs hs':List Int) (M M':List (List Int)):PyData.eqv (dW hs M) (dW hs' M')=decide (hs=hs'∧M=M'):=by
 unfold dW
 simp only [PyData.eqv,PyData.eqvAll,eqv_dI,eqv_gI]
 by_cases h1:hs=hs'
 ·by_cases h2:M=M'
  ·simp [h1,h2]
  ·simp [h2]
 ·simp [h1]
def OntoL (H:Hp) (n:Nat) (hs:List Int) (M:List (List Int)) (rs:List Addr):Prop:=∀ r ∈ rs,∃ os:List Int,H r=some (.lst (os.map V.int))∧os.Perm (rI n)∧renH hs os=hs∧renM M os=M
theorem OntoL.mono {H H':Hp} {n:Nat} {hs:List Int} {M:List (List Int)} {rs:List Addr} (h:OntoL H n hs M rs) (s:Same H H'):OntoL H' n hs M rs:=fun r hr=>let ⟨os,e,p⟩:=h r hr; ⟨os,s _ _ e,p⟩
theorem renH_id (xs:List Int):renH xs (rI xs.length)=xs:=by
 unfold renH
 exact map_rI xs 0
theorem renM_id {n:Nat} {M:List (List Int)} (S:SqN n M):renM M (rI n)=M:=by
 apply ext_getElem?
 intro i
 by_cases hi:i < n
 ·obtain ⟨x,hx⟩:=get_lt (l:=M) (i:=i) (by rw [S.len]; exact hi)
  rw [renM_at (rI_get hi) hx,hx]
  have:=renH_id x
  rw [(S.row i x hx).1] at this
  rw [this]
 ·rw [getElem?_eq_none (by unfold renM; rw [length_map,rI_len]; omega),getElem?_eq_none (by rw [S.len]; omega)]
abbrev nOnto:List Str:=["_law_web_here","_law_hues","_law_rows","_law_found","_law_order_here"]
theorem scOnto:FnScope nOnto ["_law_web_here"] (defScope sOnto):=by constructor<;>first|rfl|decide +kernel
def lstAt (e:Expr) (i:Nat):Expr:=match e with
 | .List xs _=>xs.getD i (.Constant .none 0 ⟨0,0,0,0⟩)
 | _=>.Constant .none 0 ⟨0,0,0,0⟩
theorem lcOnto:LcScopes (defScope sOnto) nOnto (lcScope (lstAt (asgVal (ifBody (bodyAt sOnto 2) 0)) 0)) ["_law_u"]:=by constructor<;>first|rfl|decide +kernel
def spOnto:Sp:=fun vs H Q _=>∃ (wA:Addr) (n:Nat) (hs:List Int) (M:List (List Int)),vs=[.ref wA]∧Wz H wA n hs M∧n≤8∧∀ (D:Addr) (rs:List Addr) (H':Hp),Same H H'→H' D=some (.lst (rs.map V.ref))→rs≠[]→rs.length≤120→OntoL H' n hs M rs→Q (.ref D) H'
theorem ok_onto {f fO fR:Addr} {fd fdO fdR:FuncData} (B:BltL mg) (F:Fun K "_law_onto" "_law_onto" sOnto f fd) (DO:Dn K mg "_law_orders" sOrders ["_law_many"] fO fdO) (GO:FnOk P w K mg base CX0 1 fO fdO ["_law_many"] spOrds)
  (DR:Dn K mg "_law_renamed" sLRen ["_law_web_here","_law_order_here"] fR fdR) (GR:FnOk P w K mg base CX0 1 fR fdR ["_law_web_here","_law_order_here"] spLRen):FnOk P w K mg base CX0 2 f fd ["_law_web_here"] spOnto:=by
 refine F.ok scOnto (fun vs H Q E h=>?_) (fun cdv A outer s H vs Q E hr h=>?_)
 ·obtain ⟨wA,n,hs,M,rfl,_⟩:=h
  rfl
 ·obtain ⟨wA,n,hs,M,rfl,W,hn,q⟩:=h
  obtain ⟨hA,rA,rs0,w1,w2,w3,RM⟩:=W.wr.ex
  refine ⟨_,pss_cons (ps_asg (pv 0) (pg_tup rfl (pgs_cons (pg_name (i:=1) scOnto.nd rfl (Or.inl rfl)) (pgs_cons (pg_name (i:=2) scOnto.nd rfl (Or.inl rfl)) pgs_nil))))
   (pss_cons (ps_set (i:=3) scOnto.nd rfl (Or.inl rfl) (pe_lst pa_nil))
   (pss_cons (ps_if (pt_cmpR op_gt (pe_callB call_len_seq (by rfl) B.len boot_len (pa_cons (pv 1) pa_nil)) pe_int (nomark _)) (pss_one (ps_ret (pe_lst (pa_cons (pe_lc1 rfl lcOnto rfl (pi_range1 rfl B.range (pa_cons (pe_callB call_len_seq (by rfl) B.len boot_len (pa_cons (pv 1) pa_nil)) pa_nil)) (fun _ _ _=>pv 5)) pa_nil)))) pss_nil)
   (pss_cons (ps_for PassesOwn.never rfl (pi_list (pe_fn DO GO hr rfl (pa_cons (pe_callB call_len_seq (by rfl) B.len boot_len (pa_cons (pv 1) pa_nil)) pa_nil))) (pg_name (i:=4) scOnto.nd rfl (Or.inl rfl))
    (pss_one (ps_if (pt_cmpR (op_eqD hr.units) (pe_fn DR GR hr rfl (pa_cons (pv 0) (pa_cons (pv 4) pa_nil))) (pv 0) (nomark _)) (pss_one (ps_expr (pe_bm plainAttrs_list PySem.F.slot_list_append PySem.F.type_list_append mt_append (pv 3) (pa_cons (pv 4) pa_nil)))) pss_nil)))
   (pss_one (ps_ret (pv 3)))))),?_⟩
  refine ⟨_,rfl,wA,_,rfl,SqT.of w1,rfl,_,_,rfl,_,_,rfl,rfl,?_⟩
  refine ⟨Nat.zero_le _,fun FD hFD=>?_⟩
  have s0:Same H (upd H FD (.lst [])):=Same.upd hFD
  have e0:upd H FD (.lst []) FD=some (.lst []):=upd_same
  generalize upd H FD (.lst [])=H0 at s0 e0 ⊢
  have lh:(hs.map V.int).length=n:=by rw [length_map,W.len]
  refine ⟨_,rfl,hA,_,rfl,.inl (SqL.of (s0 _ _ w2)),_,_,rfl,rfl,_,rfl,?_⟩
  rw [lh]
  by_cases h5:(5:Int) < (n:Int)
  ·refine itDP h5 ?_
   refine ⟨_,rfl,hA,_,rfl,.inl (SqL.of (s0 _ _ w2)),?_⟩
   rw [lh]
   refine ⟨(n:Int),rfl,by omega,by omega,fun D hD=>?_⟩
   rw [Int.toNat_natCast]
   refine lc_range (n:=n) (fun i ys H'=>ys=(rI i).map V.int∧H'=upd H0 D (.lst ys)) ⟨rfl,rfl⟩ (fun i ys H' _ ⟨_,e⟩=>by rw [e]; exact upd_same) ?_ ?_ ?_
   ·rintro i ys H1 hi ⟨rfl,rfl⟩
    have ei:((0:Int)+(i:Nat))=(i:Int):=by omega
    rw [ei]
    refine ⟨_,rfl,upd_same,small1000 (by rw [length_map,rI_len]; omega),by rw [rI_succ,map_append]; rfl,by rw [upd_upd]⟩
   ·rintro ys H1 ⟨rfl,rfl⟩
    refine ⟨sz1,fun L hL=>?_⟩
    have nDL:D≠L:=ne_of_none upd_same hL
    refine q L [D] _ ((s0.trans (Same.upd hD)).trans (Same.upd hL)) upd_same (by simp) (by show 1≤120; decide) fun r hr'=>?_
    rw [mem_singleton.mp hr']
    refine ⟨rI n,by rw [upd_ne nDL]; exact upd_same,List.Perm.refl _,?_,renM_id W.sq⟩
    have:=renH_id hs
    rw [W.len] at this
    exact this
   ·rintro σ H' Q1 Q2 hq ⟨v,e,g⟩
    exact ⟨v,e,hq _ _ g⟩
  ·refine itDN h5 ?_
   refine ⟨_,rfl,hA,_,rfl,.inl (SqL.of (s0 _ _ w2)),?_⟩
   rw [lh]
   refine ⟨n,rfl,by omega,fun OD rs H1 s1 eO OL OI lo no=>?_⟩
   have s01:=s0.trans s1
   have nO:OD≠FD∧∀ r ∈ rs,r≠FD:=by
    refine ⟨fun z=>?_,fun r hr' z=>?_⟩
    ·rw [z,s1 _ _ e0] at eO
     obtain ⟨r,mr,_⟩:=OI
     injection eO with eO
     injection eO with eO
     rw [List.map_eq_nil_iff.mp eO.symm] at mr
     cases mr
    ·have:=no r hr'
     rw [z,e0] at this
     cases this
   refine ⟨OD,rfl,⟨_,SqL.of eO⟩,for_list (xs:=rs.map V.ref) (fun i σ H'=>∃ (o4:Option V) (fs:List Addr),σ=[some (.ref wA),some (.ref hA),some (.ref rA),some (.ref FD),o4]∧Same H H'∧(∀ b o,b≠FD→H1 b=some o→H' b=some o)∧H' FD=some (.lst (fs.map V.ref))∧fs.length≤i∧OntoL H' n hs M fs∧(∀ r ∈ fs,r≠FD)∧((∃ j r,j < i∧rs[j]? = some r∧H1 r=some (.lst ((rI n).map V.int)))→fs≠[])) ⟨none,[],rfl,s01,fun b o _ e=>e,s1 _ _ e0,Nat.le_refl _,(fun r hr'=>by cases hr'),(fun r hr'=>by cases hr'),fun ⟨j,r,z,_⟩=>absurd z (Nat.not_lt_zero _)⟩ (fun i σ H' _ ⟨_,_,_,_,kp,_⟩=>SqL.of (kp _ _ nO.1 eO)) ?_ ?_⟩
   ·rintro i v σ H2 hv ⟨o4,fs,rfl,s2,kp,eF,lf,ON,nF,hid⟩
    obtain ⟨r,hr',rfl⟩:=map_get hv
    have hi:i < rs.length:=lt_get hr'
    obtain ⟨os,er,po⟩:=OL r (mem_of_getElem? hr')
    have er2:=kp _ _ (nO.2 r (mem_of_getElem? hr')) er
    refine ⟨_,rfl,_,rfl,wA,r,n,hs,M,os,rfl,(W.same s2).wr,W.len,W.sq,hn,er2,po,fun p H3 s3 WN3=>?_⟩
    obtain ⟨hR,rR,rsR,g1,g2,g3,RR,_⟩:=WN3.ex
    refine ⟨_,rfl,dW _ _,dW _ _,WR.da ⟨hR,rR,rsR,g1,g2,g3,RR⟩,((W.same s2).wr.mono s3).da,⟨(lay_dW _ _).1,(lay_dW _ _).1,Nat.le_trans (lay_dW _ _).2 (by decide)⟩,_,rfl,?_⟩
    rw [eqv_dW]
    have eF3:=s3 _ _ eF
    have kp3:∀ b o,b≠FD→H1 b=some o→H3 b=some o:=fun b o nb e=>s3 _ _ (kp b o nb e)
    by_cases c:renH hs os=hs∧renM M os=M
    ·refine itDP c ?_
     refine ⟨_,rfl,.inl ⟨rfl,_,SqL.of eF3⟩,_,rfl,FD,_,_,rfl,rfl,eF3,small1000 (by rw [length_map]; omega),?_⟩
     refine ⟨_,fs++[r],rfl,(s2.trans s3).over hFD,fun b o nb e=>by rw [upd_ne nb]; exact kp3 b o nb e,by rw [map_append]; exact upd_same,by rw [length_append]; show fs.length+1≤i+1; omega,fun r' hr2=>?_,fun r' hr2=>?_,fun _=>by simp⟩
     ·rcases mem_append.mp hr2 with z | z
      ·obtain ⟨os',e',x⟩:=ON r' z
       exact ⟨os',by rw [upd_ne (nF r' z)]; exact s3 _ _ e',x⟩
      ·rw [mem_singleton.mp z]
       exact ⟨os,by rw [upd_ne (nO.2 r (mem_of_getElem? hr'))]; exact s3 _ _ er2,po,c⟩
     ·rcases mem_append.mp hr2 with z | z
      ·exact nF r' z
      ·rw [mem_singleton.mp z]; exact nO.2 r (mem_of_getElem? hr')
    ·refine itDN c ?_
     refine ⟨_,fs,rfl,s2.trans s3,kp3,eF3,by omega,ON.mono s3,nF,fun ⟨j,r',hj,h1,h2⟩=>?_⟩
     by_cases cj:j < i
     ·exact hid ⟨j,r',cj,h1,h2⟩
     ·obtain rfl:j=i:=by omega
      rw [hr'] at h1
      cases h1
      rw [er] at h2
      have eo:os=rI n:=by
       injection h2 with h2
       injection h2 with h2
       exact (List.map_inj_right (fun _ _ q=>V.int.inj q)).mp h2
      rw [eo] at c
      have:=renH_id hs
      rw [W.len] at this
      exact absurd ⟨this,renM_id W.sq⟩ c
   ·rintro σ H2 ⟨o4,fs,rfl,s2,kp,eF,lf,ON,nF,hid⟩
    rw [length_map] at lf
    obtain ⟨r,mr,er⟩:=OI
    obtain ⟨j,hj⟩:=mem_iff_getElem?.mp mr
    exact ⟨_,rfl,q FD fs H2 s2 eF (hid ⟨j,r,by rw [length_map]; exact lt_get hj,hj,er⟩) (by omega) ON⟩
def ordM (n:Nat) (os:List Int) (u w:Nat):Int:=if sg os u=w then 1 else 0
abbrev nTabO:List Str:=["_law_order_here","_law_found","_law_place"]
theorem scTabO:FnScope nTabO ["_law_order_here"] (defScope sTabO):=by constructor<;>first|rfl|decide +kernel
def exprOf (s:Stmt):Expr:=match s with
 | .Expr e _=>e
 | _=>.Constant .none 0 ⟨0,0,0,0⟩
theorem lcTabO:LcScopes (defScope sTabO) nTabO (lcScope (argAt (exprOf (forBody (bodyAt sTabO 1) 0)) 0)) ["_law_w"]:=by constructor<;>first|rfl|decide +kernel
def spTabO:Sp:=fun vs H Q _=>∃ (oA:Addr) (n:Nat) (os:List Int),vs=[.ref oA]∧H oA=some (.lst (os.map V.int))∧os.Perm (rI n)∧n≤8∧∀ (D:Addr) (H':Hp),Same H H'→FGrN H H' D (lowM n (ordM n os) 1)→Q (.ref D) H'
theorem low_ord {x:Int}:M11.low x 1=(x,1):=M11.low_one x
theorem ok_tabO {f:Addr} {fd:FuncData} (B:BltL mg) (F:Fun K "_law_table" "_law_table" sTabO f fd):FnOk P w K mg base CX0 1 f fd ["_law_order_here"] spTabO:=by
 refine F.ok scTabO (fun vs H Q E h=>?_) (fun cdv A outer s H vs Q E hr h=>?_)
 ·obtain ⟨oA,n,os,rfl,_⟩:=h
  rfl
 ·obtain ⟨oA,n,os,rfl,ho,po,hn,q⟩:=h
  have lo:os.length=n:=by rw [po.length_eq,rI_len]
  refine ⟨_,pss_cons (ps_set (i:=1) scTabO.nd rfl (Or.inl rfl) (pe_lst pa_nil))
   (pss_cons (ps_for PassesOwn.never rfl (pi_list (pv 0)) (pg_name (i:=2) scTabO.nd rfl (Or.inr rfl))
    (pss_one (ps_expr (pe_bm plainAttrs_list PySem.F.slot_list_append PySem.F.type_list_append mt_append (pv 1) (pa_cons (pe_lc1 rfl lcTabO rfl (pi_range1 rfl B.range (pa_cons (pe_callB call_len_seq (by rfl) B.len boot_len (pa_cons (pv 0) pa_nil)) pa_nil)) (fun _ _ _=>pe_tup (pa_cons (pe_callTy call_int1 (by rfl) B.int boot_int (pa_cons (pe_cmpR op_eq (pv 2) (pv 3) (nomark _)) pa_nil)) (pa_cons pe_int pa_nil)))) pa_nil)))))
   (pss_one (ps_ret (pv 1)))),?_⟩
  refine ⟨Nat.zero_le _,fun D hD=>?_⟩
  have s0:Same H (upd H D (.lst [])):=Same.upd hD
  refine ⟨_,rfl,oA,rfl,⟨_,SqL.of (s0 _ _ ho)⟩,for_list (xs:=os.map V.int) (fun i σ H'=>∃ (o2:Option V) (ys:List V),σ=[some (.ref oA),some (.ref D),o2]∧FGrI H D (lowM n (ordM n os) 1) i ys H') ⟨none,[],rfl,FGrI.start hD⟩ (fun i σ H' _ ⟨_,_,_,g⟩=>SqL.of (g.same _ _ ho)) ?_ ?_⟩
  ·rintro i v σ H1 hv ⟨o2,ys,rfl,g⟩
   obtain ⟨o,ho',rfl⟩:=map_get hv
   have hi:i < n:=by rw [←lo]; exact lt_get ho'
   have eo:o=((sg os i:Nat):Int):=by
    have:=(sg_at po hi).1
    rw [ho'] at this
    exact Option.some.inj this
   have s1:=g.same
   refine ⟨_,rfl,.inl ⟨rfl,_,SqL.of g.at⟩,?_⟩
   refine ⟨_,rfl,oA,_,rfl,.inl (SqL.of (s1 _ _ ho)),?_⟩
   rw [length_map,lo]
   refine ⟨(n:Int),rfl,by omega,by omega,fun R hR=>?_⟩
   rw [Int.toNat_natCast]
   have lX:((List.range n).map fun w=>M11.low (ordM n os i w) 1).length=n:=by rw [length_map,length_range]
   refine lc_range (n:=n) (FrI H1 R ((List.range n).map fun w=>M11.low (ordM n os i w) 1)) (FrI.start hR) (fun j zs H' _ g2=>g2.at) ?_ ?_ ?_
   ·rintro j zs H2 hj g2
    have ej:((0:Int)+(j:Nat))=(j:Int):=by omega
    rw [ej]
    refine ⟨_,rfl,_,rfl,rfl,.inr ⟨_,rfl,sz2,fun p hp=>?_⟩⟩
    have ev:(HO.tup [V.int (if decide (V.int o=V.int (j:Int))=true then 1 else 0),V.int 1])=tupF (M11.low (ordM n os i j) 1):=by
     rw [low_ord,dec_intE]
     unfold tupF ordM
     by_cases c:sg os i=j
     ·rw [if_pos c,decide_eq_true (by rw [eo,c])]; rfl
     ·rw [if_neg c,decide_eq_false (by rw [eo]; omega)]; rfl
    exact g2.step hR (by rw [getElem?_map,getElem?_range hj]; rfl) (by rw [ev]; exact upd_same) hp (Same.upd hp) (by omega)
   ·intro zs H2 g2
    obtain ⟨eR,fr⟩:=g2.done lX
    obtain ⟨k1,k2,k3⟩:=g.step hD (fs:=(List.range n).map fun w=>M11.low (ordM n os i w) 1) (by unfold lowM mat; rw [getElem?_map,getElem?_range hi]; rfl) hR eR fr g2.same (by omega)
    exact ⟨D,_,_,rfl,rfl,k1,k2,_,_,rfl,k3⟩
   ·rintro σ H' Q1 Q2 hq ⟨v1,e1,v2,e2,e3,g⟩
    refine ⟨v1,e1,v2,e2,e3,?_⟩
    rcases g with ⟨i,f1,z,g⟩ | ⟨b,f1,z,g⟩
    ·exact .inl ⟨i,f1,z,fun p hp=>hq _ _ (g p hp)⟩
    ·exact .inr ⟨b,f1,z,fun p hp=>hq _ _ (g p hp)⟩
  ·rintro σ H1 ⟨o2,ys,rfl,g⟩
   exact ⟨_,rfl,q D H1 g.same (g.done hD (by unfold lowM mat; rw [length_map,length_range,length_map,lo]))⟩
def mixP (ss:List Int) (Ps:List (Nat→Nat→Int)) (u w:Nat):Int:=((ss.zip Ps).map fun p=>p.1 * p.2 u w).sum
def mixU (ss:List Int) (Ps:List (Nat→Nat→Int)) (t:Int) (u w:Nat):List (Int × Int):=(ss.zip Ps).map fun p=>((M11.low (p.2 u w) 60).1 * p.1,(M11.low (p.2 u w) 60).2 * t)
theorem low60_dvd (x:Int):(M11.low x 60).2 ∣ 60:=lw_dvd (low_lw (by decide)) (M11.low_cross (t:=x) (b:=60) (by decide))
theorem mix_low {ss:List Int} {Ps:List (Nat→Nat→Int)} {t:Int} (ht:0 < t) (u w:Nat):sumL (mixU ss Ps t u w)=M11.low (mixP ss Ps u w) (60 * t):=by
 have dv:∀ f ∈ mixU ss Ps t u w,f.2 ∣ 60 * t:=fun f hf=>by
  obtain ⟨p,_,rfl⟩:=mem_map.mp hf
  exact Int.mul_dvd_mul (low60_dvd _) (Int.dvd_refl _)
 have ps:PosF (mixU ss Ps t u w):=fun f hf=>by
  obtain ⟨p,_,rfl⟩:=mem_map.mp hf
  exact Int.mul_pos (M11.low_pos (by decide)) ht
 rw [sumL_low (Int.mul_pos (by decide) ht) ps dv]
 congr 1
 unfold mixP mixU
 rw [map_map]
 refine congrArg List.sum (map_congr_left fun p hp=>?_)
 have c:=M11.low_cross (t:=p.2 u w) (b:=60) (by decide)
 have q:=M11.low_pos (t:=p.2 u w) (b:=60) (by decide)
 have d:=low60_dvd (p.2 u w)
 show over (60 * t) ((M11.low (p.2 u w) 60).1 * p.1,(M11.low (p.2 u w) 60).2 * t)=p.1 * p.2 u w
 generalize M11.low (p.2 u w) 60=z at c q d
 refine over_val (f:=(z.1 * p.1,z.2 * t)) (Int.mul_pos q ht) (Int.mul_dvd_mul d (Int.dvd_refl _)) ?_
 show z.1 * p.1 * (60 * t)=p.1 * p.2 u w * (z.2 * t)
 have:z.1 * p.1 * (60 * t)=(z.1 * 60) * p.1 * t:=by grind
 rw [this,c]
 grind
def PB (n:Nat) (P:Nat→Nat→Int):Prop:=∀ u < n,∀ w < n,(P u w).natAbs≤60
theorem low_b {x:Int} (h:x.natAbs≤60):(M11.low x 60).1.natAbs≤60∧(M11.low x 60).2.natAbs≤60∧0 < (M11.low x 60).2 :=
 ⟨Nat.le_trans (M11.low_le (by decide)).1 h,(M11.low_le (by decide)).2,M11.low_pos (by decide)⟩
theorem bn8 {z:Int} {k:Nat} (h:z.natAbs≤100) (hk:8≤k):M11.Bn k z:=M11.Bn.mono (n:=8) (show z.natAbs < 2 ^ 8 by have:(2:Nat) ^ 8=256:=rfl; omega) hk
theorem mixU_q {n:Nat} {ss:List Int} {Ps:List (Nat→Nat→Int)} {t:Int} (ht:0 < t) (tb:t.natAbs≤1000) (bP:∀ P ∈ Ps,PB n P) (bs:∀ s ∈ ss,s.natAbs≤100) {u w:Nat} (hu:u < n) (hw:w < n):∀ f ∈ mixU ss Ps t u w,FrQ f:=fun f hf=>by
 obtain ⟨⟨s,P⟩,hp,rfl⟩:=mem_map.mp hf
 obtain ⟨m1,m2⟩:=List.of_mem_zip hp
 obtain ⟨c1,c2,c3⟩:=low_b (bP P m2 u hu w hw)
 have t10:M11.Bn 10 t:=show t.natAbs < 2 ^ 10 by have:(2:Nat) ^ 10=1024:=rfl; omega
 refine ⟨Int.mul_pos c3 ht,?_,?_⟩
 ·exact ((bn8 (k:=8) (Nat.le_trans c1 (by decide)) (Nat.le_refl _)).mul (bn8 (k:=8) (bs s m1) (Nat.le_refl _))).mono (by decide)
 ·exact ((bn8 (k:=8) (Nat.le_trans c2 (by decide)) (Nat.le_refl _)).mul t10).mono (by decide)
abbrev nMix:List Str:=["_law_tables","_law_shares","_law_total","_law_found","_law_u","_law_row","_law_w","_law_top","_law_bottom","_law_table_here","_law_share","_law_part"]
theorem scMix:FnScope nMix ["_law_tables","_law_shares"] (defScope sMix):=by constructor<;>first|rfl|decide +kernel
def spMix:Sp:=fun vs H Q _=>∃ (a b:Addr) (ts:List Addr) (Ps:List (Nat→Nat→Int)) (ss:List Int) (n:Nat),vs=[.ref a,.ref b]∧H a=some (.lst (ts.map V.ref))∧H b=some (.lst (ss.map V.int))∧ts.length=Ps.length∧ss.length=Ps.length∧0 < Ps.length∧Ps.length≤8∧n≤8 ∧
 (∀ (i:Nat) (t:Addr) (P:Nat→Nat→Int),ts[i]? = some t→Ps[i]? = some P→FGrd H t (lowM n P 60))∧(∀ P ∈ Ps,PB n P)∧(∀ s ∈ ss,s.natAbs≤100)∧0 < ss.sum∧ss.sum≤1000 ∧
 ∀ (D:Addr) (H':Hp),Same H H'→FGrN H H' D (lowM n (mixP ss Ps) (60 * ss.sum))→Q (.ref D) H'
theorem ok_mixture {f fL:Addr} {fd fdL:FuncData} (B:BltL mg) (F:Fun K "_law_mixture" "_law_mixture" sMix f fd) (DL:Dn K mg "_law_lowest" sLow aLow fL fdL) (GL:FnOk P w K mg base CX0 1 fL fdL aLow spLow):FnOk P w K mg base CX0 2 f fd ["_law_tables","_law_shares"] spMix:=by
 refine F.ok scMix (fun vs H Q E h=>?_) (fun cdv A outer s H vs Q E hr h=>?_)
 ·obtain ⟨a,b,ts,Ps,ss,n,rfl,_⟩:=h
  rfl
 ·obtain ⟨a,b,ts,Ps,ss,n,rfl,ha,hb,lt,ls,l0,l8,hn,hT,bP,bs,t0,t1,q⟩:=h
  obtain ⟨tt,ett⟩:∃ tt:Int,tt=ss.sum:=⟨_,rfl⟩
  rw [←ett] at t0 t1
  have tb:tt.natAbs≤1000:=by omega
  obtain ⟨T0,eT0⟩:=get_lt (l:=ts) (i:=0) (by omega)
  obtain ⟨P0,eP0⟩:=get_lt (l:=Ps) (i:=0) l0
  obtain ⟨rs0,h0,lr0,_⟩:=(hT 0 T0 P0 eT0 eP0).rows
  have ln:∀ P:Nat→Nat→Int,(lowM n P 60).length=n:=fun P=>by unfold lowM mat; rw [length_map,length_range]
  have lr0':rs0.length=n:=by rw [lr0,ln]
  have aT0:atI (ts.map V.ref) 0=some (.ref T0):=atI_nat (j:=0) (by rw [getElem?_map,eT0]; rfl)
  refine ⟨_,pss_cons (ps_set (i:=2) scMix.nd rfl (Or.inl rfl) (pe_callB (call_sum rfl) (by rfl) B.sum boot_sum (pa_cons (pv 1) pa_nil)))
   (pss_cons (ps_set (i:=3) scMix.nd rfl (Or.inl rfl) (pe_lst pa_nil))
   (pss_cons (ps_for PassesOwn.never rfl (pi_range1 rfl B.range (pa_cons (pe_callB call_len_seq (by rfl) B.len boot_len (pa_cons (pe_ix ix_list (pv 0) pe_int (fun _ _=>rfl)) pa_nil)) pa_nil)) (pg_name (i:=4) scMix.nd rfl (Or.inl rfl))
    (pss_cons (ps_set (i:=5) scMix.nd rfl (Or.inl rfl) (pe_lst pa_nil))
    (pss_cons (ps_for PassesOwn.never rfl (pi_range1 rfl B.range (pa_cons (pe_callB call_len_seq (by rfl) B.len boot_len (pa_cons (pe_ix ix_list (pv 0) pe_int (fun _ _=>rfl)) pa_nil)) pa_nil)) (pg_name (i:=6) scMix.nd rfl (Or.inl rfl))
     (pss_cons (ps_set (i:=7) scMix.nd rfl (Or.inl rfl) pe_int)
     (pss_cons (ps_set (i:=8) scMix.nd rfl (Or.inl rfl) pe_int)
     (pss_cons (ps_for PassesOwn.never rfl (pi_zip rfl B.zip (pa_cons (pv 0) (pa_cons (pv 1) pa_nil))) (pg_tup rfl (pgs_cons (pg_name (i:=9) scMix.nd rfl (Or.inl rfl)) (pgs_cons (pg_name (i:=10) scMix.nd rfl (Or.inl rfl)) pgs_nil)))
      (pss_cons (ps_set (i:=11) scMix.nd rfl (Or.inl rfl) (pe_tup (pa_cons (pe_op op_mulN (pe_ix ix_tup (pe_ix ix_list (pe_ix ix_list (pv 9) (pv 4) (fun _ _=>rfl)) (pv 6) (fun _ _=>rfl)) pe_int (fun _ _=>rfl)) (pv 10)) (pa_cons (pe_op op_mulN (pe_ix ix_tup (pe_ix ix_list (pe_ix ix_list (pv 9) (pv 4) (fun _ _=>rfl)) (pv 6) (fun _ _=>rfl)) pe_int (fun _ _=>rfl)) (pv 2)) pa_nil))))
      (pss_one (ps_asg (pe_fn DL GL hr rfl (pa_cons (pe_op op_add (pe_op op_mulN (pv 7) (pe_ix ix_tup (pv 11) pe_int (fun _ _=>rfl))) (pe_op op_mulN (pe_ix ix_tup (pv 11) pe_int (fun _ _=>rfl)) (pv 8))) (pa_cons (pe_op op_mulN (pv 8) (pe_ix ix_tup (pv 11) pe_int (fun _ _=>rfl))) pa_nil)))
       (pg_tup rfl (pgs_cons (pg_name (i:=7) scMix.nd rfl (Or.inl rfl)) (pgs_cons (pg_name (i:=8) scMix.nd rfl (Or.inl rfl)) pgs_nil)))))))
     (pss_one (ps_expr (pe_bm plainAttrs_list PySem.F.slot_list_append PySem.F.type_list_append mt_append (pv 5) (pa_cons (pe_tup (pa_cons (pv 7) (pa_cons (pv 8) pa_nil))) pa_nil))))))))
    (pss_one (ps_expr (pe_bm plainAttrs_list PySem.F.slot_list_append PySem.F.type_list_append mt_append (pv 3) (pa_cons (pv 5) pa_nil)))))))
   (pss_one (ps_ret (pv 3))))),?_⟩
  refine ⟨_,rfl,b,ss,rfl,SqL.of hb,?_⟩
  rw [←ett]
  refine ⟨Nat.zero_le _,fun D hD=>?_⟩
  have s0:Same H (upd H D (.lst [])):=Same.upd hD
  refine ⟨_,rfl,a,_,_,.ref T0,rfl,rfl,SqL.of (s0 _ _ ha),aT0,T0,_,rfl,.inl (SqL.of (s0 _ _ h0)),?_⟩
  rw [length_map,lr0']
  refine ⟨(n:Int),rfl,by omega,by omega,for_range (n:=n) (fun i σ H'=>∃ (o4 o5 o6 o7 o8 o9 o10 o11:Option V) (ys:List V),σ=[some (.ref a),some (.ref b),some (.int tt),some (.ref D),o4,o5,o6,o7,o8,o9,o10,o11]∧FGrI H D (lowM n (mixP ss Ps) (60 * tt)) i ys H') ⟨none,none,none,none,none,none,none,none,[],rfl,FGrI.start hD⟩ ?_ ?_⟩
  ·rintro i σ H1 hi ⟨o4,o5,o6,o7,o8,o9,o10,o11,ys,rfl,g⟩
   have s1:=g.same
   refine ⟨Nat.zero_le _,fun S hS=>?_⟩
   have sS:Same H1 (upd H1 S (.lst [])):=Same.upd hS
   refine ⟨_,rfl,a,_,_,.ref T0,rfl,rfl,SqL.of ((s1.trans sS) _ _ ha),aT0,T0,_,rfl,.inl (SqL.of ((s1.trans sS) _ _ h0)),?_⟩
   rw [length_map,lr0']
   have eRow:(lowM n (mixP ss Ps) (60 * tt))[i]? = some ((List.range n).map fun w=>M11.low (mixP ss Ps i w) (60 * tt)):=by unfold lowM mat; rw [getElem?_map,getElem?_range hi]; rfl
   refine ⟨(n:Int),rfl,by omega,by omega,for_range (n:=n) (fun j σ H'=>∃ (o6 o7 o8 o9 o10 o11:Option V) (zs:List V),σ=[some (.ref a),some (.ref b),some (.int tt),some (.ref D),some (.int (0+(i:Nat):Int)),some (.ref S),o6,o7,o8,o9,o10,o11]∧FrI H1 S ((List.range n).map fun w=>M11.low (mixP ss Ps i w) (60 * tt)) j zs H') ⟨_,_,_,_,_,_,[],rfl,FrI.start hS⟩ ?_ ?_⟩
   ·rintro j σ H2 hj ⟨o6,o7,o8,o9,o10,o11,zs,rfl,g2⟩
    have s2:=s1.trans g2.same
    have bU:=mixU_q t0 tb bP bs hi hj
    have lU:(mixU ss Ps tt i j).length=Ps.length:=by unfold mixU; rw [length_map,length_zip,ls,Nat.min_self]
    have bS:∀ k,k≤Ps.length→0 < (sumL ((mixU ss Ps tt i j).take k)).2∧M11.Bn 4000 (sumL ((mixU ss Ps tt i j).take k)).1∧M11.Bn 4000 (sumL ((mixU ss Ps tt i j).take k)).2:=fun k hk=>by
     obtain ⟨c1,c2,c3⟩:=sumL_bn _ ((mixU ss Ps tt i j).take k) rfl (fun f hf=>(bU f (mem_of_mem_take hf)).1) (fun f hf=>(bU f (mem_of_mem_take hf)).2)
     have hle:1+201 * ((mixU ss Ps tt i j).take k).length≤4000:=by rw [length_take]; omega
     exact ⟨c1,c2.mono hle,c3.mono hle⟩
    refine ⟨_,rfl,_,rfl,a,b,rfl,⟨_,SqL.of (s2 _ _ ha)⟩,⟨_,SqL.of (s2 _ _ hb)⟩,for_zip (xs:=ts.map V.ref) (ys:=ss.map V.int) (by rw [length_map,length_map,lt,ls]) (fun k σ H'=>∃ (o9 o10 o11:Option V) (z:Int × Int),σ=[some (.ref a),some (.ref b),some (.int tt),some (.ref D),some (.int (0+(i:Nat):Int)),some (.ref S),some (.int (0+(j:Nat):Int)),some (.int z.1),some (.int z.2),o9,o10,o11]∧Same H2 H'∧z=sumL ((mixU ss Ps tt i j).take k)) ⟨_,_,_,(0,1),rfl,Same.refl _,rfl⟩ (fun k σ H' _ ⟨_,_,_,_,_,s',_⟩=>⟨SqL.of (s' _ _ (s2 _ _ ha)),SqL.of (s' _ _ (s2 _ _ hb))⟩) ?_ ?_⟩
    ·rintro k x y t1' σ H3 hx hy ⟨o9,o10,o11,z,rfl,s3,ez⟩ nt
     obtain ⟨T,hT1,rfl⟩:=map_get hx
     obtain ⟨sh,hs1,rfl⟩:=map_get hy
     have hk:k < Ps.length:=by rw [←lt]; exact lt_get hT1
     obtain ⟨Pk,hP⟩:=get_lt (l:=Ps) (i:=k) hk
     obtain ⟨rs,hTr,lr,hR⟩:=(hT k T Pk hT1 hP).rows
     obtain ⟨r,hr'⟩:=get_lt (l:=rs) (i:=i) (by rw [lr,ln]; exact hi)
     obtain ⟨x,ex,fx⟩:=hR i r ((List.range n).map fun w=>M11.low (Pk i w) 60) hr' (by unfold lowM mat; rw [getElem?_map,getElem?_range hi]; rfl)
     obtain ⟨p,hp,ep⟩:=fx.get (i:=j) (f:=M11.low (Pk i j) 60) (by rw [getElem?_map,getElem?_range hj]; rfl)
     have mS:=bs sh (mem_of_getElem? hs1)
     obtain ⟨c1,c2,c3⟩:=low_b (bP Pk (mem_of_getElem? hP) i hi j hj)
     have hU:(mixU ss Ps tt i j)[k]? = some ((M11.low (Pk i j) 60).1 * sh,(M11.low (Pk i j) 60).2 * tt):=by
      unfold mixU
      rw [getElem?_map,getElem?_zip_eq_some (z:=(sh,Pk)) |>.mpr ⟨hs1,hP⟩]
      rfl
     have QU:=bU _ (mem_of_getElem? hU)
     generalize M11.low (Pk i j) 60=f1 at ep c1 c2 c3 hU QU
     obtain ⟨z0,z1,z2⟩:=bS k (by omega)
     rw [←ez] at z0 z1 z2
     refine ⟨t1',_,rfl,SqT.of upd_same,rfl,_,_,rfl,_,_,rfl,rfl,?_⟩
     have s4:Same H2 (upd H3 t1' (.tup [.ref T,.int sh])):=s3.trans (Same.upd nt)
     generalize upd H3 t1' (.tup [.ref T,.int sh])=H4 at s4 ⊢
     have t4:=s2.trans s4
     have ai:atI (rs.map V.ref) (0+(i:Nat):Int)=some (.ref r):=by rw [Int.zero_add]; exact at_ref hr'
     have aj:atI x (0+(j:Nat):Int)=some (.ref p):=by rw [Int.zero_add]; exact atI_nat hp
     refine ⟨_,rfl,_,rfl,T,_,_,.ref r,rfl,rfl,SqL.of (t4 _ _ hTr),ai,_,rfl,r,_,_,.ref p,rfl,rfl,SqL.of (t4 _ _ ex),aj,p,_,_,.int f1.1,rfl,rfl,SqT.of (t4 _ _ ep),at_hd _ _,_,rfl,_,_,rfl,rfl,⟨20,by decide,bn8 (Nat.le_trans c1 (by decide)) (by decide),bn8 mS (by decide)⟩,?_⟩
     refine ⟨_,rfl,_,rfl,T,_,_,.ref r,rfl,rfl,SqL.of (t4 _ _ hTr),ai,_,rfl,r,_,_,.ref p,rfl,rfl,SqL.of (t4 _ _ ex),aj,p,_,_,.int f1.2,rfl,rfl,SqT.of (t4 _ _ ep),at_snd _ _ _,_,rfl,_,_,rfl,rfl,⟨20,by decide,bn8 (Nat.le_trans c2 (by decide)) (by decide),M11.Bn.mono (n:=10) (show tt.natAbs < 2 ^ 10 by have:(2:Nat) ^ 10=1024:=rfl; omega) (by decide)⟩,?_⟩
     refine ⟨sz2,fun pt hpt=>?_⟩
     have s5:Same H4 (upd H4 pt (tupF (f1.1 * sh,f1.2 * tt))):=Same.upd hpt
     have e5:upd H4 pt (tupF (f1.1 * sh,f1.2 * tt)) pt=some (tupF (f1.1 * sh,f1.2 * tt)):=upd_same
     have eq5:(HO.tup [V.int (f1.1 * sh),V.int (f1.2 * tt)])=tupF (f1.1 * sh,f1.2 * tt):=rfl
     dsimp only
     rw [eq5]
     generalize upd H4 pt (tupF (f1.1 * sh,f1.2 * tt))=H5 at s5 e5 ⊢
     generalize (f1.1 * sh,f1.2 * tt)=m at e5 hU QU
     refine ⟨_,rfl,_,rfl,pt,_,_,.int m.2,rfl,rfl,SqT.of e5,at_snd _ _ _,_,_,rfl,rfl,⟨4000,by decide,z1,QU.2.2.mono (by decide)⟩,?_⟩
     refine ⟨_,rfl,pt,_,_,.int m.1,rfl,rfl,SqT.of e5,at_hd _ _,_,rfl,_,_,rfl,rfl,⟨4000,by decide,QU.2.1.mono (by decide),z2⟩,_,_,rfl,rfl,?_⟩
     refine ⟨_,rfl,_,rfl,pt,_,_,.int m.2,rfl,rfl,SqT.of e5,at_snd _ _ _,_,_,rfl,rfl,⟨4000,by decide,z2,QU.2.2.mono (by decide)⟩,?_⟩
     refine ⟨_,_,rfl,Int.mul_pos z0 QU.1,(z2.mul QU.2.2).mono (by decide),fun p5 H6 s6 n6 e6=>?_⟩
     refine ⟨p5,_,rfl,SqT.of e6,rfl,_,_,rfl,_,_,rfl,rfl,?_⟩
     refine ⟨_,_,_,addL z m,rfl,(s4.trans s5).trans s6,?_⟩
     rw [take_snoc hU,sumL_snoc,←ez]
    ·rintro σ H3 ⟨o9,o10,o11,z,rfl,s3,ez⟩
     rw [length_map,lt,take_of_length_le (by omega),mix_low t0] at ez
     refine ⟨_,rfl,.inl ⟨rfl,_,SqL.of (s3 _ _ g2.at)⟩,?_⟩
     refine ⟨_,rfl,_,rfl,sz2,fun pt hpt=>?_⟩
     have hg:((List.range n).map fun w=>M11.low (mixP ss Ps i w) (60 * tt))[j]? = some z:=by rw [getElem?_map,getElem?_range hj,ez]; rfl
     obtain ⟨k1,k2,k3⟩:=g2.step hS hg (H5:=upd H3 pt (tupF z)) upd_same (s3.free hpt) (s3.trans (Same.upd hpt)) (by omega)
     exact ⟨S,_,_,rfl,rfl,k1,k2,_,_,_,_,_,_,_,rfl,k3⟩
   ·rintro σ H2 ⟨o6,o7,o8,o9,o10,o11,zs,rfl,g2⟩
    obtain ⟨eS,fS⟩:=g2.done (by rw [length_map,length_range])
    obtain ⟨k1,k2,k3⟩:=g.step hD eRow hS eS fS g2.same (by omega)
    refine ⟨_,rfl,.inl ⟨rfl,_,SqL.of k1⟩,_,rfl,D,_,_,rfl,rfl,k1,k2,_,_,_,_,_,_,_,_,_,rfl,k3⟩
  ·rintro σ H1 ⟨o4,o5,o6,o7,o8,o9,o10,o11,ys,rfl,g⟩
   refine ⟨_,rfl,q D H1 g.same ?_⟩
   rw [←ett]
   exact g.done hD (by unfold lowM mat; rw [length_map,length_range])
end
section
theorem least_ex {p:Nat→Prop} {i:Nat} (h:p i):∃ c,p c∧∀ k,p k→c≤k:=by
 induction i using Nat.strongRecOn with
 | ind i ih =>
  by_cases c:∃ k,k < i∧p k
  ·obtain ⟨k,hk,pk⟩:=c
   exact ih k hk pk
  ·exact ⟨i,h,fun k pk=>Nat.le_of_not_lt fun z=>c ⟨k,z,pk⟩⟩
theorem countP_lt {p q:Nat→Bool}:∀ {l:List Nat},(∀ i ∈ l,p i=true→q i=true)→∀ {i:Nat},i ∈ l→p i=false→q i=true→l.countP p < l.countP q
 | [],_,_,hi,_,_=>by cases hi
 | x :: l,h,i,hi,h1,h2=>by
  have le:=List.countP_mono_left (p:=p) (q:=q) (l:=l) fun i hi=>h i (mem_cons_of_mem _ hi)
  rcases mem_cons.mp hi with e | m
  ·subst e
   rw [List.countP_cons_of_neg (by rw [h1]; decide),List.countP_cons_of_pos h2]
   omega
  ·have ih:=countP_lt (l:=l) (fun i hi=>h i (mem_cons_of_mem _ hi)) m h1 h2
   by_cases c:p x=true
   ·rw [List.countP_cons_of_pos c,List.countP_cons_of_pos (h x mem_cons_self c)]
    omega
   ·rw [List.countP_cons_of_neg c,List.countP_cons]
    omega
structure LotW (n:Nat) (pos:Nat→Nat→Prop) (lf:Nat→Int) (c:Nat→Nat):Prop where
 done:∀ u < n,∀ w < n,pos u w→lf u=lf (n+w)
 univ:∀ g:Nat→Int,(∀ u < n,∀ w < n,pos u w→g u=g (n+w))→∀ i < n+n,∀ j < n+n,lf i=lf j→g i=g j
 low:∀ i < n+n,c i < n+n∧lf (c i)=lf i
 least:∀ i < n+n,∀ k < n+n,lf k=lf i→c i≤k
abbrev Rch (c:Nat→Nat) (ms:List Int) (i:Nat):Prop:=ms[i]? = some ((c i:Nat):Int)
structure MkJ (n:Nat) (lf:Nat→Int) (ms:List Int):Prop where
 len:ms.length=n+n
 at_:∀ i < n+n,∃ k:Nat,ms[i]? = some (k:Int)∧k≤i∧lf k=lf i
structure MkK (n:Nat) (pos:Nat→Nat→Prop) (lf:Nat→Int) (c:Nat→Nat) (ms0:List Int) (dn:Nat→Nat→Prop) (ms:List Int):Prop where
 j:MkJ n lf ms
 keep:∀ i < n+n,Rch c ms0 i→Rch c ms i
 edge:∀ u < n,∀ w < n,dn u w→pos u w→(Rch c ms0 u→Rch c ms (n+w))∧(Rch c ms0 (n+w)→Rch c ms u)
section
variable {n:Nat} {pos:Nat→Nat→Prop} {lf:Nat→Int} {c:Nat→Nat} {ms ms0:List Int} {dn dn':Nat→Nat→Prop}
theorem LotW.same (L:LotW n pos lf c) {i j:Nat} (hi:i < n+n) (hj:j < n+n) (e:lf i=lf j):c i=c j:=by
 have h1:=L.least i hi (c j) (L.low j hj).1 (by rw [(L.low j hj).2,e])
 have h2:=L.least j hj (c i) (L.low i hi).1 (by rw [(L.low i hi).2,e])
 omega
theorem MkK.mono (k:MkK n pos lf c ms0 dn ms) (h:∀ u w,dn' u w→pos u w→dn u w):MkK n pos lf c ms0 dn' ms:=⟨k.j,k.keep,fun u hu w hw d p=>k.edge u hu w hw (h u w d p) p⟩
theorem MkK.start (j:MkJ n lf ms):MkK n pos lf c ms (fun _ _=>False) ms:=⟨j,fun _ _ h=>h,fun _ _ _ _ d=>d.elim⟩
theorem MkK.step (L:LotW n pos lf c) (k:MkK n pos lf c ms0 dn ms) {u w:Nat} (hu:u < n) (hw:w < n) (p:pos u w) {x y:Int} (hx:ms[u]? = some x) (hy:ms[n+w]? = some y) :
  MkK n pos lf c ms0 (fun u' w'=>dn u' w' ∨ (u'=u∧w'=w)) ((ms.set u (if y < x then y else x)).set (n+w) (if y < x then y else x)):=by
 obtain ⟨kx,ex,lx,fx⟩:=k.j.at_ u (by omega)
 obtain ⟨ky,ey,ly,fy⟩:=k.j.at_ (n+w) (by omega)
 rw [hx] at ex
 rw [hy] at ey
 have ex':x=(kx:Int):=Option.some.inj ex
 have ey':y=(ky:Int):=Option.some.inj ey
 have euw:=L.done u hu w hw p
 have ecc:c u=c (n+w):=L.same (by omega) (by omega) euw
 obtain ⟨m,em,m1,m2,m3⟩:∃ m:Nat,(if y < x then y else x)=(m:Int)∧m≤kx∧m≤ky∧lf m=lf u:=by
  by_cases z:y < x
  ·exact ⟨ky,by rw [if_pos z]; exact ey',by omega,Nat.le_refl _,by rw [fy,euw]⟩
  ·exact ⟨kx,by rw [if_neg z]; exact ex',Nat.le_refl _,by omega,fx⟩
 rw [em]
 have cm:c u≤m:=L.least u (by omega) m (by omega) m3
 have lm:=k.j.len
 have at_:∀ i,i < n+n→((ms.set u (m:Int)).set (n+w) (m:Int))[i]? = if i=n+w then some (m:Int) else if i=u then some (m:Int) else ms[i]?:=fun i hi=>by
  by_cases e1:i=n+w
  ·subst e1
   rw [if_pos rfl,getElem?_set_self (by rw [length_set]; omega)]
  ·rw [if_neg e1,getElem?_set_ne (Ne.symm e1)]
   by_cases e2:i=u
   ·subst e2
    rw [if_pos rfl,getElem?_set_self (by omega)]
   ·rw [if_neg e2,getElem?_set_ne (Ne.symm e2)]
 have hitU:Rch c ms u→m=c u:=fun z=>by
  unfold Rch at z
  rw [hx] at z
  have:=Option.some.inj z
  omega
 have hitW:Rch c ms (n+w)→m=c u:=fun z=>by
  unfold Rch at z
  rw [hy] at z
  have:=Option.some.inj z
  omega
 have keep':∀ i < n+n,Rch c ms i→Rch c ((ms.set u (m:Int)).set (n+w) (m:Int)) i:=fun i hi z=>by
  unfold Rch
  rw [at_ i hi]
  by_cases e1:i=n+w
  ·rw [if_pos e1,hitW (by rw [←e1]; exact z),e1,ecc]
  ·rw [if_neg e1]
   by_cases e2:i=u
   ·rw [if_pos e2,hitU (by rw [←e2]; exact z),e2]
   ·rw [if_neg e2]; exact z
 refine ⟨⟨by rw [length_set,length_set,lm],fun i hi=>?_⟩,fun i hi z=>keep' i hi (k.keep i hi z),fun u' hu' w' hw' d p'=>?_⟩
 ·rw [at_ i hi]
  by_cases e1:i=n+w
  ·rw [if_pos e1]
   exact ⟨m,rfl,by omega,by rw [e1,m3,euw]⟩
  ·rw [if_neg e1]
   by_cases e2:i=u
   ·rw [if_pos e2]
    exact ⟨m,rfl,by omega,by rw [e2,m3]⟩
   ·rw [if_neg e2]
    exact k.j.at_ i hi
 ·rcases d with d | ⟨rfl,rfl⟩
  ·obtain ⟨q1,q2⟩:=k.edge u' hu' w' hw' d p'
   exact ⟨fun z=>keep' _ (by omega) (q1 z),fun z=>keep' _ (by omega) (q2 z)⟩
  ·refine ⟨fun z=>?_,fun z=>?_⟩
   ·have:=hitU (k.keep _ (by omega) z)
    unfold Rch
    rw [at_ _ (by omega),if_pos rfl,this,ecc]
   ·have:=hitW (k.keep _ (by omega) z)
    unfold Rch
    rw [at_ _ (by omega)]
    by_cases e1:u'=n+w'
    ·omega
    ·rw [if_neg e1,if_pos rfl,this]
def rcnt (n:Nat) (c:Nat→Nat) (ms:List Int):Nat:=(List.range (n+n)).countP fun i=>decide (ms[i]? = some ((c i:Nat):Int))
def MkR (n:Nat) (lf:Nat→Int) (c:Nat→Nat) (t:Nat) (ms:List Int):Prop:=MkJ n lf ms∧((∀ i < n+n,Rch c ms i) ∨ t≤rcnt n c ms)
theorem MkR.next (L:LotW n pos lf c) {t:Nat} (r:MkR n lf c t ms0) (k:MkK n pos lf c ms0 (fun _ _=>True) ms):MkR n lf c (t+1) ms:=by
 refine ⟨k.j,?_⟩
 rcases r.2 with a | b
 ·exact .inl fun i hi=>k.keep i hi (a i hi)
 ·by_cases z:∃ i,i < n+n∧Rch c ms i∧¬ Rch c ms0 i
  ·obtain ⟨i,hi,z1,z2⟩:=z
   right
   have:=countP_lt (l:=List.range (n+n)) (p:=fun i=>decide (ms0[i]? = some ((c i:Nat):Int))) (q:=fun i=>decide (ms[i]? = some ((c i:Nat):Int))) (fun j hj h=>decide_eq_true (k.keep j (mem_range.mp hj) (of_decide_eq_true h))) (mem_range.mpr hi) (decide_eq_false z2) (decide_eq_true z1)
   unfold rcnt at b ⊢
   omega
  ·left
   have back:∀ i < n+n,Rch c ms i→Rch c ms0 i:=fun i hi h=>Classical.byContradiction fun h'=>z ⟨i,hi,h,h'⟩
   have all0:∀ i < n+n,Rch c ms0 i:=fun i hi=>by
    have g:=L.univ (fun i=>if ms0[i]? = some ((c i:Nat):Int) then 1 else 0) (fun u hu w hw p=>by
     obtain ⟨q1,q2⟩:=k.edge u hu w hw trivial p
     show (if Rch c ms0 u then (1:Int) else 0)=if Rch c ms0 (n+w) then 1 else 0
     by_cases h1:Rch c ms0 u
     ·rw [if_pos h1,if_pos (back _ (by omega) (q1 h1))]
     ·rw [if_neg h1,if_neg fun h2=>h1 (back _ (by omega) (q2 h2))]) i hi (c i) (L.low i hi).1 (L.low i hi).2.symm
    have low:Rch c ms0 (c i):=by
     obtain ⟨k',e1,e2,e3⟩:=r.1.at_ (c i) (L.low i hi).1
     have h1:=L.least (c i) (L.low i hi).1 k' (by have:=(L.low i hi).1; omega) e3
     have h2:c (c i)=c i:=L.same (L.low i hi).1 hi (L.low i hi).2
     unfold Rch
     rw [e1,h2]
     congr 1
     omega
    have g':(if Rch c ms0 i then (1:Int) else 0)=if Rch c ms0 (c i) then 1 else 0:=g
    rw [if_pos low] at g'
    by_cases h1:Rch c ms0 i
    ·exact h1
    ·rw [if_neg h1] at g'
     cases g'
   exact fun i hi=>k.keep i hi (all0 i hi)
theorem MkR.fin {t:Nat} (r:MkR n lf c t ms) (ht:n+n≤t):∀ i < n+n,Rch c ms i:=by
 rcases r.2 with a | b
 ·exact a
 ·intro i hi
  unfold rcnt at b
  have le:=List.countP_le_length (p:=fun i=>decide (ms[i]? = some ((c i:Nat):Int))) (l:=List.range (n+n))
  rw [length_range] at le
  have e:(List.range (n+n)).countP (fun i=>decide (ms[i]? = some ((c i:Nat):Int)))=(List.range (n+n)).length:=by rw [length_range]; omega
  exact of_decide_eq_true (List.countP_eq_length.mp e i (mem_range.mpr hi))
theorem mk_start:MkJ n lf (rI (n+n)):=⟨rI_len _,fun i hi=>⟨i,rI_get hi,Nat.le_refl _,rfl⟩⟩
theorem MkR.numb {ls:List Int} (L:LotW n pos (fun i=>ls.getD i 0) c) {t:Nat} (r:MkR n (fun i=>ls.getD i 0) c t ms) (ht:n+n≤t) (ll:ls.length=n+n) (nm:Norm ls):nI (My.numb ms)=ls:=by
 have all:=r.fin ht
 have lm:=r.1.len
 have q:My.numb ms=My.numb ls:=by
  refine (numb_iff (by rw [lm,ll])).mpr fun i j k k' l l' e1 e2 e3 e4=>?_
  have hi:i < n+n:=by rw [←lm]; exact lt_get e1
  have hj:j < n+n:=by rw [←lm]; exact lt_get e2
  have a1:=all i hi
  have a2:=all j hj
  unfold Rch at a1 a2
  rw [e1] at a1
  rw [e2] at a2
  have a1:=Option.some.inj a1
  have a2:=Option.some.inj a2
  have l1:ls.getD i 0=l:=by rw [getD_eq_getElem?_getD,e3]; rfl
  have l2:ls.getD j 0=l':=by rw [getD_eq_getElem?_getD,e4]; rfl
  constructor
  ·intro e
   have ec:c i=c j:=by omega
   rw [←l1,←l2]
   have h1:=(L.low i hi).2
   have h2:=(L.low j hj).2
   have h1:ls.getD (c i) 0=ls.getD i 0:=h1
   have h2:ls.getD (c j) 0=ls.getD j 0:=h2
   rw [←h1,ec,h2]
  ·intro e
   have:=L.same hi hj (by show ls.getD i 0=ls.getD j 0; rw [l1,l2,e])
   omega
 rw [q]
 exact nm.symm
end
theorem lotw_of {n:Nat} {P:Nat→Nat→Int} {ls:List Int} (C:CmpF n P (aF ls) (bF n ls)):∃ c,LotW n (fun u w=>0 < P u w) (fun i=>ls.getD i 0) c:=by
 have ex:∀ i,∃ c,i < n+n→(c < n+n∧ls.getD c 0=ls.getD i 0)∧∀ k < n+n,ls.getD k 0=ls.getD i 0→c≤k:=fun i=>by
  by_cases hi:i < n+n
  ·obtain ⟨c,h1,h2⟩:=least_ex (p:=fun k=>k < n+n∧ls.getD k 0=ls.getD i 0) (i:=i) ⟨hi,rfl⟩
   exact ⟨c,fun _=>⟨h1,fun k hk e=>h2 k ⟨hk,e⟩⟩⟩
  ·exact ⟨0,fun z=>absurd z hi⟩
 obtain ⟨c,hc⟩:=Classical.axiomOfChoice ex
 refine ⟨c,fun u hu w hw p=>C.pos u hu w hw p,fun g hg i hi j hj e=>?_,fun i hi=>(hc i hi).1,fun i hi=>(hc i hi).2⟩
 by_cases c1:i < n
 ·by_cases c2:j < n
  ·exact C.here (a':=g) (b':=fun w=>g (n+w)) hg i c1 j c2 e
  ·obtain ⟨w,rfl⟩:=Nat.exists_eq_add_of_le (Nat.le_of_not_lt c2)
   exact C.cross (a':=g) (b':=fun w=>g (n+w)) hg i c1 w (by omega) e
 ·obtain ⟨v,rfl⟩:=Nat.exists_eq_add_of_le (Nat.le_of_not_lt c1)
  by_cases c2:j < n
  ·exact (C.cross (a':=g) (b':=fun w=>g (n+w)) hg j c2 v (by omega) e.symm).symm
  ·obtain ⟨w,rfl⟩:=Nat.exists_eq_add_of_le (Nat.le_of_not_lt c2)
   exact C.there (a':=g) (b':=fun w=>g (n+w)) hg v (by omega) w (by omega) e
end
section
variable {P:Program} {w:World} {K:Frag} {mg:Str→Option Value} {base:Heap}
theorem das_snoc {ok:Addr→Prop} {H:Hp} {v:V} {d:PyData} (h:DA K ok H v d):∀ {vs:List V} {ds:List PyData},DAs K ok H vs ds→DAs K ok H (vs++[v]) (ds++[d])
 | _,_,.nil=>.cons h .nil
 | _,_,.cons a r=>.cons a (das_snoc h r)
theorem das_len {ok:Addr→Prop} {H:Hp}:∀ {vs:List V} {ds:List PyData},DAs K ok H vs ds→vs.length=ds.length
 | _,_,.nil=>rfl
 | _,_,.cons a r=>by rw [length_cons,length_cons,das_len r]
structure KD {κ:Type} [DecidableEq κ] (D:κ→PyData):Prop where
 lay:∀ k,(D k).canLay0=true
 dep:∀ k,(D k).depth≤32
 eqv:∀ k k',PyData.eqv (D k) (D k')=decide (k=k')
theorem KD.layAll {κ:Type} [DecidableEq κ] {D:κ→PyData} (h:KD D):∀ ks:List κ,PyData.canLayAll0 (ks.map D)=true
 | []=>rfl
 | k :: ks=>by
  rw [map_cons]
  simp only [PyData.canLayAll0,h.lay k,h.layAll ks,Bool.and_self]
theorem KD.any {κ:Type} [DecidableEq κ] {D:κ→PyData} (h:KD D) (k:κ) (ks:List κ):((ks.map D).any fun e=>PyData.eqv e (D k))=decide (k ∈ ks):=by
 induction ks with
 | nil=>simp
 | cons x ks ih =>
  rw [map_cons,List.any_cons,ih,h.eqv]
  by_cases e:x=k
  ·subst e; simp
  ·by_cases m:k ∈ ks
   ·simp [m]
   ·simp [e,m,Ne.symm e]
theorem KD.idx {κ:Type} [DecidableEq κ] {D:κ→PyData} (h:KD D) (k:κ) (ks:List κ):((ks.map D).findIdx fun e=>PyData.eqv e (D k))=ks.idxOf k:=by
 induction ks with
 | nil=>rfl
 | cons x ks ih =>
  rw [map_cons,List.findIdx_cons,ih,h.eqv,idxOf_cons]
  by_cases e:x=k
  ·subst e; simp
  ·rw [(by simpa using e:(x == k)=false)]; simp [e]
theorem seenAdd_mem {κ:Type} [DecidableEq κ] (s:List κ) (k:κ):k ∈ seenAdd s k:=by
 unfold seenAdd
 split
 ·assumption
 ·simp
theorem seenAdd_idx {κ:Type} [DecidableEq κ] (s:List κ) (k:κ):(seenAdd s k).idxOf k=s.idxOf k:=by
 unfold seenAdd
 split
 ·rfl
 ·rename_i m
  rw [List.idxOf_append,if_neg m,List.idxOf_eq_length m]
  simp
theorem kdInt:KD (κ:=Int) PyData.int:=⟨fun _=>rfl,fun _=>Nat.zero_le _,fun a b=>rfl⟩
abbrev nLL:List Str:=["_law_table_here","_law_many","_law_marks","_law_time","_law_u","_law_w","_law_least","_law_seen","_law_found","_law_mark"]
theorem scLL:FnScope nLL ["_law_table_here"] (defScope sLLots):=by constructor<;>first|rfl|decide +kernel
theorem lcLL:LcScopes (defScope sLLots) nLL (lcScope (asgVal (bodyAt sLLots 1))) ["_law_k"]:=by constructor<;>first|rfl|decide +kernel
def spLL:Sp:=fun vs H Q _=>∃ (t:Addr) (n:Nat) (P:Nat→Nat→Int) (N:Int) (ls:List Int),vs=[.ref t]∧FGrd H t (lowM n P N)∧0 < N∧n≤8∧CmpF n P (aF ls) (bF n ls)∧ls.length=n+n∧Norm ls ∧
 ∀ (p x y:Addr) (H':Hp),Same H H'→H' p=some (.tup [.ref x,.ref y])→H' x=some (.lst ((ls.take n).map V.int))→H' y=some (.lst ((ls.drop n).map V.int))→Q (.ref p) H'
theorem ok_ll {f:Addr} {fd:FuncData} (B:BltL mg) (bM:mg "min" = none) (F:Fun K "_law_lots" "_law_lots" sLLots f fd):FnOk P w K mg base CX0 1 f fd ["_law_table_here"] spLL:=by
 refine F.ok scLL (fun vs H Q E h=>?_) (fun cdv A outer s H vs Q E hr h=>?_)
 ·obtain ⟨t,n,P,N,ls,rfl,_⟩:=h
  rfl
 ·obtain ⟨t,n,P,N,ls,rfl,gT,hN,hn,C,ll,nm,q⟩:=h
  obtain ⟨rs,ht,lr,hR⟩:=gT.rows
  have lr':rs.length=n:=by rw [lr]; unfold lowM mat; rw [length_map,length_range]
  obtain ⟨c,L⟩:=lotw_of C
  refine ⟨_,pss_cons (ps_set (i:=1) scLL.nd rfl (Or.inl rfl) (pe_callB call_len_seq (by rfl) B.len boot_len (pa_cons (pv 0) pa_nil)))
   (pss_cons (ps_setLc1 (i:=2) scLL.nd rfl (Or.inl rfl) rfl lcLL rfl (pi_range1 rfl B.range (pa_cons (pe_op op_mul pe_int (pv 1)) pa_nil)) (fun _ _ _=>pv 10))
   (pss_cons (ps_for PassesOwn.never rfl (pi_range1 rfl B.range (pa_cons (pe_op op_mul pe_int (pv 1)) pa_nil)) (pg_name (i:=3) scLL.nd rfl (Or.inl rfl))
    (pss_one (ps_for PassesOwn.never rfl (pi_range1 rfl B.range (pa_cons (pv 1) pa_nil)) (pg_name (i:=4) scLL.nd rfl (Or.inl rfl))
     (pss_one (ps_for PassesOwn.never rfl (pi_range1 rfl B.range (pa_cons (pv 1) pa_nil)) (pg_name (i:=5) scLL.nd rfl (Or.inl rfl))
      (pss_one (ps_if (pt_cmpR op_gt (pe_ix ix_tup (pe_ix ix_list (pe_ix ix_list (pv 0) (pv 4) (fun _ _=>rfl)) (pv 5) (fun _ _=>rfl)) pe_int (fun _ _=>rfl)) pe_int (nomark _))
       (pss_cons (ps_set (i:=6) scLL.nd rfl (Or.inl rfl) (pe_callB (call_min2 rfl) (by rfl) bM boot_min (pa_cons (pe_ix ix_list (pv 2) (pv 4) (fun _ _=>rfl)) (pa_cons (pe_ix ix_list (pv 2) (pe_op op_add (pv 1) (pv 5)) (fun _ _=>rfl)) pa_nil))))
       (pss_cons (ps_asg (pv 6) (pg_sub (pv 2) (pv 4) set_list))
       (pss_one (ps_asg (pv 6) (pg_sub (pv 2) (pe_op op_add (pv 1) (pv 5)) set_list))))) pss_nil)))))))
   (pss_cons (ps_set (i:=7) scLL.nd rfl (Or.inl rfl) (pe_lst pa_nil))
   (pss_cons (ps_set (i:=8) scLL.nd rfl (Or.inl rfl) (pe_lst pa_nil))
   (pss_cons (ps_for PassesOwn.never rfl (pi_list (pv 2)) (pg_name (i:=9) scLL.nd rfl (Or.inl rfl))
    (pss_mid (ps_if (pt_cmpR (op_notInD hr.units) (pv 9) (pv 7) rfl) (pss_one (ps_expr (pe_bm plainAttrs_list PySem.F.slot_list_append PySem.F.type_list_append mt_append (pv 7) (pa_cons (pv 9) pa_nil)))) pss_nil)
    (pss_one (ps_expr (pe_bm plainAttrs_list PySem.F.slot_list_append PySem.F.type_list_append mt_append (pv 8) (pa_cons (pe_bm plainAttrs_list slot_list_index type_list_index (mt_indexD hr.units) (pv 7) (pa_cons (pv 9) pa_nil)) pa_nil))))))
   (pss_one (ps_ret (pe_tup (pa_cons (pe_slice sl_list (pv 8) po_none (po_some (pv 1))) (pa_cons (pe_slice sl_list (pv 8) (po_some (pv 1)) po_none) pa_nil)))))))))),?_⟩
  refine ⟨_,rfl,t,_,rfl,.inl (SqL.of ht),?_⟩
  rw [length_map,lr']
  have e2n:((2:Int) * (n:Int)).toNat=n+n:=by omega
  refine ⟨_,rfl,_,_,rfl,rfl,cmul_l (by decide) (by decide),((2:Int) * (n:Int)),rfl,by omega,by omega,fun D hD=>?_⟩
  rw [e2n]
  refine lc_range (n:=n+n) (fun i ys H'=>ys=(rI i).map V.int∧H'=upd H D (.lst ys)) ⟨rfl,rfl⟩ (fun i ys H' _ ⟨_,e⟩=>by rw [e]; exact upd_same) ?_ ?_ ?_
  ·rintro i ys H1 hi ⟨rfl,rfl⟩
   have ei:((0:Int)+(i:Nat))=(i:Int):=by omega
   rw [ei]
   exact ⟨_,rfl,upd_same,small1000 (by rw [length_map,rI_len]; omega),by rw [rI_succ,map_append]; rfl,by rw [upd_upd]⟩
  ·rintro ys H1 ⟨rfl,rfl⟩
   have s0:Same H (upd H D (.lst ((rI (n+n)).map V.int))):=Same.upd hD
   have e0:upd H D (.lst ((rI (n+n)).map V.int)) D=some (.lst ((rI (n+n)).map V.int)):=upd_same
   generalize upd H D (.lst ((rI (n+n)).map V.int))=H0 at s0 e0 ⊢
   refine ⟨_,rfl,_,_,rfl,rfl,cmul_l (by decide) (by decide),((2:Int) * (n:Int)),rfl,by omega,by omega,?_⟩
   rw [e2n]
   refine for_range (n:=n+n) (fun k σ H'=>∃ (o3 o4 o5 o6:Option V) (ms:List Int),σ=[some (.ref t),some (.int (n:Int)),some (.ref D),o3,o4,o5,o6,none,none,none]∧Same H H'∧H' D=some (.lst (ms.map V.int))∧MkR n (fun i=>ls.getD i 0) c k ms) ⟨none,none,none,none,_,rfl,s0,e0,mk_start,.inr (Nat.zero_le _)⟩ ?_ ?_
   ·rintro k σ H1 hk ⟨o3,o4,o5,o6,ms0,rfl,s1,e1,R0⟩
    refine ⟨_,rfl,(n:Int),rfl,by omega,by omega,for_range (n:=n) (fun u σ H'=>∃ (o4 o5 o6:Option V) (ms:List Int),σ=[some (.ref t),some (.int (n:Int)),some (.ref D),some (.int (0+(k:Nat):Int)),o4,o5,o6,none,none,none]∧Same H H'∧H' D=some (.lst (ms.map V.int))∧MkK n (fun u w=>0 < P u w) (fun i=>ls.getD i 0) c ms0 (fun u' _=>u' < u) ms) ⟨_,_,_,ms0,rfl,s1,e1,(MkK.start R0.1).mono fun _ _ z=>absurd z (Nat.not_lt_zero _)⟩ ?_ ?_⟩
    ·rintro u σ H2 hu ⟨o4,o5,o6,ms,rfl,s2,e2,K2⟩
     refine ⟨_,rfl,(n:Int),rfl,by omega,by omega,for_range (n:=n) (fun j σ H'=>∃ (o5 o6:Option V) (ms:List Int),σ=[some (.ref t),some (.int (n:Int)),some (.ref D),some (.int (0+(k:Nat):Int)),some (.int (0+(u:Nat):Int)),o5,o6,none,none,none]∧Same H H'∧H' D=some (.lst (ms.map V.int))∧MkK n (fun u w=>0 < P u w) (fun i=>ls.getD i 0) c ms0 (fun u' w'=>u' < u ∨ (u'=u∧w' < j)) ms) ⟨_,_,ms,rfl,s2,e2,K2.mono fun _ _ z _=>by omega⟩ ?_ ?_⟩
     ·rintro j σ H3 hj ⟨o5,o6,ms,rfl,s3,e3,K3⟩
      obtain ⟨r,hr'⟩:=get_lt (l:=rs) (i:=u) (by omega)
      obtain ⟨x,ex,fx⟩:=hR u r ((List.range n).map fun w=>M11.low (P u w) N) hr' (by unfold lowM mat; rw [getElem?_map,getElem?_range hu]; rfl)
      obtain ⟨p,hp,ep⟩:=fx.get (i:=j) (f:=M11.low (P u j) N) (by rw [getElem?_map,getElem?_range hj]; rfl)
      have ai:atI (rs.map V.ref) (0+(u:Nat):Int)=some (.ref r):=by rw [Int.zero_add]; exact at_ref hr'
      have aj:atI x (0+(j:Nat):Int)=some (.ref p):=by rw [Int.zero_add]; exact atI_nat hp
      have lm:=K3.j.len
      refine ⟨_,rfl,_,rfl,t,_,_,.ref r,rfl,rfl,SqL.of (s3 _ _ ht),ai,_,rfl,r,_,_,.ref p,rfl,rfl,SqL.of (s3 _ _ ex),aj,p,_,_,.int (M11.low (P u j) N).1,rfl,rfl,SqT.of (s3 _ _ ep),at_hd _ _,_,_,rfl,rfl,_,rfl,?_⟩
      by_cases pz:0 < P u j
      ·refine itDP ((low_above hN).mpr pz) ?_
       obtain ⟨a,ha⟩:=get_lt (l:=ms) (i:=u) (by omega)
       obtain ⟨b,hb⟩:=get_lt (l:=ms) (i:=n+j) (by omega)
       have iN:(n:Int)+(0+(j:Nat):Int)=((n+j:Nat):Int):=by omega
       have au:atI (ms.map V.int) (0+(u:Nat):Int)=some (.int a):=by rw [Int.zero_add]; exact atI_nat (by rw [getElem?_map,ha]; rfl)
       have aw:atI (ms.map V.int) ((n:Int)+(0+(j:Nat):Int))=some (.int b):=by rw [iN]; exact atI_nat (by rw [getElem?_map,hb]; rfl)
       refine ⟨_,rfl,_,rfl,D,_,_,.int a,rfl,rfl,SqL.of e3,au,_,rfl,_,rfl,_,rfl,_,_,rfl,rfl,D,_,_,.int b,rfl,rfl,SqL.of e3,aw,a,b,rfl,?_⟩
       generalize hmin:(if b < a then b else a)=mn
       refine ⟨_,rfl,_,rfl,_,rfl,D,_,_,u,rfl,rfl,e3,by rw [Int.zero_add,length_map,lm]; exact ixN_nat (by omega),?_⟩
       rw [←map_set]
       have e4:upd H3 D (.lst ((ms.set u mn).map V.int)) D=some (.lst ((ms.set u mn).map V.int)):=upd_same
       have s4:Same H (upd H3 D (.lst ((ms.set u mn).map V.int))):=s3.over hD
       generalize upd H3 D (.lst ((ms.set u mn).map V.int))=H4 at e4 s4 ⊢
       refine ⟨_,rfl,_,rfl,_,rfl,_,rfl,_,_,rfl,rfl,D,_,_,n+j,rfl,rfl,e4,?_,?_⟩
       ·show ixN _ ((n:Int)+(0+(j:Nat):Int))=_
        rw [iN,length_map,length_set,lm]
        exact ixN_nat (by omega)
       rw [←map_set]
       have K4:=K3.step L hu hj pz ha hb
       rw [hmin] at K4
       refine ⟨_,_,_,rfl,s4.over hD,upd_same,K4.mono fun u' w' z _=>?_⟩
       by_cases cc:u'=u∧w'=j
       ·exact .inr cc
       ·exact .inl (by omega)
      ·refine itDN (fun z=>pz ((low_above hN).mp z)) ?_
       refine ⟨_,_,ms,rfl,s3,e3,K3.mono fun u' w' z p'=>?_⟩
       by_cases cc:u'=u∧w'=j
       ·obtain ⟨rfl,rfl⟩:=cc
        exact absurd p' pz
       ·omega
     ·rintro σ H3 ⟨o5,o6,ms,rfl,s3,e3,K3⟩
      obtain ⟨j3,k3,ed3⟩:=K3
      exact ⟨_,_,_,ms,rfl,s3,e3,j3,k3,fun u' hu' w' hw' z p'=>ed3 u' hu' w' hw' (by omega) p'⟩
    ·rintro σ H2 ⟨o4,o5,o6,ms,rfl,s2,e2,K2⟩
     obtain ⟨j2,k2,ed2⟩:=K2
     exact ⟨_,_,_,_,ms,rfl,s2,e2,R0.next L ⟨j2,k2,fun u' hu' w' hw' _ p'=>ed2 u' hu' w' hw' hu' p'⟩⟩
   ·rintro σ H1 ⟨o3,o4,o5,o6,ms,rfl,s1,e1,R1⟩
    have lm:=R1.1.len
    have enum:=R1.numb L (Nat.le_refl _) ll nm
    refine ⟨Nat.zero_le _,fun S hSn=>⟨Nat.zero_le _,fun R hR=>?_⟩⟩
    have nSR:S≠R:=ne_of_none upd_same hR
    have hR0:H1 R=none:=by rw [upd_ne nSR.symm] at hR; exact hR
    have sH:Same H1 (upd (upd H1 S (.lst [])) R (.lst [])):=(Same.upd hSn).trans (Same.upd hR)
    refine ⟨_,rfl,D,rfl,⟨_,SqL.of (sH _ _ e1)⟩,for_list (K:=K) (a:=D) (xs:=ms.map V.int) (fun i σ H'=>∃ (o:Option V) (ys:List V),σ=[some (.ref t),some (.int (n:Int)),some (.ref D),o3,o4,o5,o6,some (.ref S),some (.ref R),o]∧Same H1 H'∧H' S=some (.lst ys)∧DAs K any H1 ys (((ms.take i).foldl seenAdd []).map PyData.int)∧H' R=some (.lst ((numsFrom [] (ms.take i)).map fun (n:Nat)=>V.int (n:Int)))) ?_ ?_ ?_ ?_⟩
    ·exact ⟨none,[],rfl,sH,by rw [upd_ne nSR]; exact upd_same,.nil,upd_same⟩
    ·rintro i σ H' _ ⟨o,ys,rfl,s2,_⟩
     exact SqL.of (s2 _ _ e1)
    ·rintro i v σ H' hi ⟨o,ys,rfl,s2,eS,dS,eR⟩
     obtain ⟨z,hz,rfl⟩:=map_get hi
     have li:i < ms.length:=lt_get hz
     have tk:ms.take (i+1)=ms.take i++[z]:=take_snoc hz
     have ly:ys.length≤1000:=by
      have:=seen_le (ms.take i) []
      rw [das_len dS,length_map]
      rw [length_take] at this
      simp at this
      omega
     have lr:((numsFrom [] (ms.take i)).map fun (n:Nat)=>V.int (n:Int)).length≤1000:=by
      rw [length_map,numsFrom_len,length_take]
      omega
     have la:=kdInt.layAll ((ms.take i).foldl seenAdd [])
     refine ⟨fun σ' H''=>∃ ys',σ'=[some (.ref t),some (.int (n:Int)),some (.ref D),o3,o4,o5,o6,some (.ref S),some (.ref R),some (.int z)]∧Same H1 H''∧H'' S=some (.lst ys')∧DAs K any H1 ys' ((seenAdd ((ms.take i).foldl seenAdd []) z).map PyData.int)∧H'' R=some (.lst ((numsFrom [] (ms.take i)).map fun (n:Nat)=>V.int (n:Int))),?_,?_⟩
     ·refine ⟨_,rfl,_,rfl,S,ys,_,PyData.int z,rfl,SqL.of eS,dS.mono s2.keep (fun _ h=>h),.int z,⟨la,rfl,Nat.zero_le _⟩,_,rfl,?_⟩
      rw [kdInt.any]
      by_cases m:z ∈ (ms.take i).foldl seenAdd []
      ·refine iteNS m ?_
       refine ⟨ys,rfl,s2,eS,?_,eR⟩
       rw [seenAdd,if_pos m]
       exact dS
      ·refine iteNP m ?_
       refine ⟨_,rfl,.inl ⟨rfl,_,SqL.of eS⟩,_,rfl,S,ys,.int z,rfl,rfl,eS,small1000 ly,?_⟩
       refine ⟨ys++[.int z],rfl,s2.over hSn,upd_same,?_,by rw [upd_ne nSR.symm]; exact eR⟩
       rw [seenAdd,if_neg m,map_append]
       exact das_snoc (.int z) dS
     ·rintro σ' H2 ⟨ys',rfl,s3,eS2,dS2,eR2⟩
      refine ⟨_,rfl,.inl ⟨rfl,_,SqL.of eR2⟩,_,rfl,.inl ⟨rfl,_,SqL.of eS2⟩,_,rfl,S,ys',.int z,_,PyData.int z,rfl,rfl,eS2,dS2.mono s3.keep (fun _ h=>h),.int z,⟨kdInt.layAll _,rfl,Nat.zero_le _⟩,?_,?_⟩
      ·rw [kdInt.idx,length_map]
       exact idxOf_lt_length_iff.mpr (seenAdd_mem _ _)
      ·rw [kdInt.idx,seenAdd_idx]
       refine ⟨R,_,_,rfl,rfl,eR2,small1000 lr,?_⟩
       refine ⟨_,ys',rfl,s3.over hR0,by rw [upd_ne nSR]; exact eS2,?_,?_⟩
       ·rw [tk,foldl_append]
        exact dS2
       ·rw [tk,numsFrom_snoc,map_append]
        exact upd_same
    ·rintro σ H2 ⟨o,ys,rfl,s2,eS,dS,eR⟩
     rw [length_map,take_length] at eR
     have eR':H2 R=some (.lst (ls.map V.int)):=by
      rw [←enum,←nI_V]
      exact eR
     refine ⟨_,rfl,_,rfl,(n:Int),rfl,R,_,rfl,SqL.of eR',fun x hx=>?_⟩
     rw [cut_take _ n (by omega)]
     have s5:Same H2 (upd H2 x (.lst ((ls.take n).map V.int))):=Same.upd hx
     have e5:upd H2 x (.lst ((ls.take n).map V.int)) x=some (.lst ((ls.take n).map V.int)):=upd_same
     generalize upd H2 x (.lst ((ls.take n).map V.int))=H5 at s5 e5 ⊢
     refine ⟨_,rfl,_,rfl,(n:Int),rfl,R,_,rfl,SqL.of (s5 _ _ eR'),fun y hy=>?_⟩
     rw [cut_drop _ n (by omega)]
     have s6:Same H5 (upd H5 y (.lst ((ls.drop n).map V.int))):=Same.upd hy
     have e6:upd H5 y (.lst ((ls.drop n).map V.int)) y=some (.lst ((ls.drop n).map V.int)):=upd_same
     generalize upd H5 y (.lst ((ls.drop n).map V.int))=H6 at s6 e6 ⊢
     refine ⟨sz2,fun p hp=>?_⟩
     have s7:Same H6 (upd H6 p (.tup [.ref x,.ref y])):=Same.upd hp
     exact q p x y _ ((((s1.trans s2).trans s5).trans s6).trans s7) upd_same (s7 _ _ (s6 _ _ e5)) (s7 _ _ e6)
  ·rintro σ H' Q1 Q2 hq ⟨v,e,g⟩
   exact ⟨v,e,hq _ _ g⟩
def toLot (ws ls:List Int) (o:Int):List Int:=((ws.zip ls).filter fun p=>decide (p.2=o)).map (·.1)
theorem toLot_snoc {ws ls:List Int} {o x y:Int} {i:Nat} (hx:ws[i]? = some x) (hy:ls[i]? = some y):toLot (ws.take (i+1)) (ls.take (i+1)) o=toLot (ws.take i) (ls.take i) o++(if y=o then [x] else []):=by
 unfold toLot
 have lx:=(List.getElem?_eq_some_iff.mp hx).1
 have ly:=(List.getElem?_eq_some_iff.mp hy).1
 rw [take_snoc hx,take_snoc hy,zip_append (by rw [length_take,length_take]; omega),List.filter_append,map_append]
 congr 1
 by_cases e:y=o
 ·simp [e]
 ·simp [e]
theorem lc_toLot {a b:Addr} {ws ls:List Int} {o:Int} {tt:TT} {te:TE} {Q:VK} {σ:L2.St} {n:Nat} {H1:Hp} (hn:σ.length=n) (hx:SqL K H1 a (ws.map V.int)) (hy:SqL K H1 b (ls.map V.int)) (hl:ls.length=ws.length) (hm:ws.length≤900)
  (ht:∀ (x y:Int) (H:Hp) (R:Bool→Hp→Prop),R (decide (y=o)) H→tt (σ++[some (.int x),some (.int y)]) H R) (he:∀ (x y:Int) (H:Hp) (R:VK),R (.int x) H→te (σ++[some (.int x),some (.int y)]) H R)
  (hd:∀ D H',Same H1 H'→H' D=some (.lst ((toLot ws ls o).map V.int))→Q (.ref D) H'):LcW 2 (Itz K a b) (g2 K n) tt te σ H1 Q:=by
 subst hn
 intro D hD
 refine ⟨fun i m zs H'=>m=ws.length - i∧i≤ws.length∧zs=(toLot (ws.take i) (ls.take i) o).map V.int∧Same H1 H'∧H' D=some (.lst zs),⟨ws.length,by simp,Nat.zero_le _,rfl,Same.upd hD,upd_same⟩,?_⟩
 rintro i m zs H2 ⟨rfl,hi,rfl,s2,eD⟩
 refine ⟨eD,?_⟩
 by_cases hlt:i < ws.length
 ·have hlt':i < ls.length:=by omega
  have ex:ws[i]? = some ws[i]:=getElem?_eq_getElem hlt
  have ey:ls[i]? = some ls[i]:=getElem?_eq_getElem hlt'
  have ex':(ws.map V.int)[i]? = some (.int ws[i]):=by rw [getElem?_map,ex]; rfl
  have ey':(ls.map V.int)[i]? = some (.int ls[i]):=by rw [getElem?_map,ey]; rfl
  refine .inr ⟨⟨_,_,_,_,Same.sq s2 hx,Same.sq s2 hy,ex',ey'⟩,?_⟩
  rintro z H3 ⟨t,x,y,rfl,tn,rfl,hx',hy'⟩ os los
  have hx1:=hx' _ (Same.sq s2 hx)
  have hy1:=hy' _ (Same.sq s2 hy)
  rw [ex'] at hx1
  rw [ey'] at hy1
  cases hx1
  cases hy1
  match os,los with
  | [o1,o2],_ =>
   have s3:Same H2 (upd H2 t (.tup [.int ws[i],.int ls[i]])):=Same.upd tn
   refine ⟨t,_,rfl,SqT.of upd_same,rfl,_,_,rfl,_,[],rfl,rfl,⟨[some (.int ws[i]),some (.int ls[i])],set2 σ o1 o2 _ _,rfl⟩,?_⟩
   rw [set2 σ o1 o2 _ _]
   refine ht _ _ _ _ ?_
   have sn:=toLot_snoc (o:=o) ex ey
   by_cases e:ls[i]=o
   ·refine itDP e (he _ _ _ _ ?_)
    rw [if_pos e] at sn
    refine ⟨s3 _ _ eD,small1000 ?_,ws.length - (i+1),by omega,rfl,hlt,by rw [sn,map_append]; rfl,fun c ob q=>?_,upd_same⟩
    ·rw [length_map,toLot,length_map]
     refine Nat.le_trans (List.length_filter_le _ _) ?_
     rw [length_zip,length_take]
     omega
    ·rw [upd_ne (ne_of_none q hD)]
     exact s3 _ _ (s2 _ _ q)
   ·refine itDN e ?_
    rw [if_neg e,List.append_nil] at sn
    exact ⟨ws.length - (i+1),by omega,rfl,hlt,by rw [sn],s2.trans s3,s3 _ _ eD⟩
 ·have:i=ws.length:=by omega
  subst this
  rw [take_length,take_of_length_le (by omega)] at eD ⊢
  exact .inl ⟨⟨_,_,Same.sq s2 hx,Same.sq s2 hy,.inl (by rw [length_map]; omega)⟩,hd D H2 s2 eD⟩
abbrev Lk:=Int × List Int
def dLk (x:Lk):PyData:=.tuple [.int x.1,dI x.2]
theorem lay_dLk (x:Lk):(dLk x).canLay0=true∧(dLk x).depth≤3:=by
 obtain ⟨h1,h2⟩:=lay_dI x.2
 unfold dLk
 simp only [PyData.canLay0,PyData.canLayAll0,PyData.depth,PyData.depthAll,h1,Bool.and_self,true_and]
 omega
theorem eqv_dLk (x y:Lk):PyData.eqv (dLk x) (dLk y)=decide (x=y):=by
 obtain ⟨a,b⟩:=x
 obtain ⟨c,d⟩:=y
 unfold dLk
 simp only [PyData.eqv,PyData.eqvAll,eqv_dI]
 by_cases h:a=c
 ·by_cases h2:b=d
  ·subst h h2; simp
  ·simp [h2]
 ·simp [h]
def smL (ls ws:List Int) (n:Nat):List Int:=(List.range n).map fun (o:Nat)=>sumP (ws.zip ls) (o:Int)
theorem smL_succ (ls ws:List Int) (n:Nat):smL ls ws (n+1)=smL ls ws n++[sumP (ws.zip ls) (n:Int)]:=by
 unfold smL
 rw [range_succ,map_append]
 rfl
theorem smL_len (ls ws:List Int) (n:Nat):(smL ls ws n).length=n:=by unfold smL; rw [length_map,length_range]
theorem for_zipT {a b:Addr} {xs ys:List V} {g:TG} {tb:TS} {D:Ends} {σ:L2.St} {H:Hp} (e:ys.length=xs.length) (Pv:Nat→L2.St→Hp→Prop) (h0:Pv 0 σ H) (hl:∀ i σ H,i≤xs.length→Pv i σ H→SqL K H a xs∧SqT K H b ys)
  (hs:∀ (i:Nat) (x y:V) (t:Addr) σ H,xs[i]? = some x→ys[i]? = some y→Pv i σ H→H t=none→g (.ref t) σ (upd H t (.tup [x,y])) fun σ2 H2=>tb { D with nx:=Pv (i+1),ct:=Pv (i+1),bk:=D.nx } σ2 H2) (hd:∀ σ H,Pv xs.length σ H→D.nx σ H) :
  ∃ W:Nat→Nat→L2.St→Hp→Prop,(∃ m,W 0 m σ H)∧∀ i m σ H,W i m σ H →
   ((Itzt K a b).stop i H∧D.nx σ H) ∨ ((Itzt K a b).go i H∧∃ N:L2.St→Hp→Prop,(∀ σ' H',N σ' H'→∃ m',m' < m∧W (i+1) m' σ' H')∧∀ x H',(Itzt K a b).yld i H x H'→g x σ H' fun σ2 H2=>tb { D with nx:=N,ct:=N,bk:=D.nx } σ2 H2):=by
 refine ⟨fun i m σ H=>m=xs.length - i∧i≤xs.length∧Pv i σ H,⟨xs.length,by simp,Nat.zero_le _,h0⟩,?_⟩
 rintro i m σ H ⟨rfl,hi,p⟩
 obtain ⟨q1,q2⟩:=hl i σ H hi p
 by_cases lt:i < xs.length
 ·have lt':i < ys.length:=by omega
  refine .inr ⟨⟨xs,ys,xs[i],ys[i],q1,q2,getElem?_eq_getElem lt,getElem?_eq_getElem lt'⟩,Pv (i+1),fun σ' H' p'=>⟨xs.length - (i+1),by omega,rfl,lt,p'⟩,fun x H' y=>?_⟩
  obtain ⟨t,x1,y1,rfl,ht,rfl,g1,g2⟩:=y
  exact hs i x1 y1 t σ H (g1 xs q1) (g2 ys q2) p ht
 ·have ei:i=xs.length:=by omega
  subst ei
  exact .inl ⟨⟨xs,q1,Nat.le_refl _⟩,hd σ H p⟩
theorem smL_rs {n:Nat} {M:List (List Int)} {a:Nat→Int} {u:Nat} {x:List Int} (S:SqN n M) (hx:M[u]? = some x):smL ((List.range n).map a) x n=(List.range n).map fun (o:Nat)=>rsF n (ent M) a u (o:Int):=by
 unfold smL
 refine map_congr_left fun o _=>?_
 rw [row_ent S hx,sumP_rng]
 rfl
theorem looks_ex {n:Nat} {h h':Nat→Int} {M M':Nat→Nat→Int} {a b:Nat→Int} (E:EvF n n h h' M M' a b):∃ Lo:Int→Lk,(∀ u < n,(h u,(List.range n).map fun (o:Nat)=>rsF n M a u (o:Int))=Lo (a u))∧∀ w < n,(h' w,(List.range n).map fun (o:Nat)=>rsF n M' b w (o:Int))=Lo (b w):=by
 have ex:∀ l:Int,∃ y:Lk,(∀ u < n,a u=l→(h u,(List.range n).map fun (o:Nat)=>rsF n M a u (o:Int))=y)∧∀ w < n,b w=l→(h' w,(List.range n).map fun (o:Nat)=>rsF n M' b w (o:Int))=y:=fun l=>by
  by_cases c:∃ u,u < n∧a u=l
  ·obtain ⟨u,hu,rfl⟩:=c
   refine ⟨(h u,(List.range n).map fun (o:Nat)=>rsF n M a u (o:Int)),fun v hv e=>?_,fun w hw e=>?_⟩
   ·obtain ⟨e1,e2⟩:=E.here v hv u hu e
    rw [e1]
    congr 1
    exact map_congr_left fun o _=>e2 _
   ·obtain ⟨e1,e2⟩:=E.cross u hu w hw e.symm
    rw [e1]
    congr 1
    exact map_congr_left fun o _=>(e2 _).symm
  ·by_cases c2:∃ w,w < n∧b w=l
   ·obtain ⟨w,hw,rfl⟩:=c2
    refine ⟨(h' w,(List.range n).map fun (o:Nat)=>rsF n M' b w (o:Int)),fun v hv e=>absurd ⟨v,hv,e⟩ c,fun v hv e=>?_⟩
    obtain ⟨e1,e2⟩:=E.there v hv w hw e
    rw [e1]
    congr 1
    exact map_congr_left fun o _=>e2 _
   ·exact ⟨(0,[]),fun v hv e=>absurd ⟨v,hv,e⟩ c,fun v hv e=>absurd ⟨v,hv,e⟩ c2⟩
 obtain ⟨Lo,hL⟩:=Classical.axiomOfChoice ex
 exact ⟨Lo,fun u hu=>(hL (a u)).1 u hu rfl,fun w hw=>(hL (b w)).2 w hw rfl⟩
def spLEven (K:Frag):Sp:=fun vs H Q _=>∃ (ws tb w1 w2 a b:Addr) (n:Nat) (hs hs' ls:List Int) (M M':List (List Int)),vs=[.ref ws,.ref tb]∧H ws=some (.lst [.ref w1,.ref w2])∧H tb=some (.tup [.ref a,.ref b])∧n≤8∧Wz H w1 n hs M∧Wz H w2 n hs' M' ∧
 H a=some (.lst ((ls.take n).map V.int))∧H b=some (.lst ((ls.drop n).map V.int))∧ls.length=n+n∧EvF n n (hueF hs) (hueF hs') (ent M) (ent M') (aF ls) (bF n ls)∧∀ H',Same H H'→Q (.bl true) H'
abbrev nLEven:List Str:=["_law_webs","_law_tables","_law_looks","_law_web_here","_law_lots_here","_law_hues","_law_rows","_law_u","_law_lot","_law_sums","_law_other"]
theorem scLEven:FnScope nLEven ["_law_webs","_law_tables"] (defScope sLEven):=by constructor<;>first|rfl|decide +kernel
theorem lcE1:LcScopes (defScope sLEven) nLEven (lcScope (argAt (argAt (exprOf (forBody (forBody (forBody (bodyAt sLEven 1) 1) 1) 0)) 0) 0)) ["_law_weight","_law_one_here"]:=by constructor<;>first|rfl|decide +kernel
structure DFt (K:Frag) (N:Addr) (Lo:Int→Lk) (i:Nat) (H:Hp) (kvs:List (Key × V)):Prop where
 at_:H N=some (.dK kvs)
 len:kvs.length≤i
 obj:∀ l v,valV kvs (Sum.inl l)=some v→DA K (fun a=>a≠N) H v (dLk (Lo l))
theorem ok_leven {f:Addr} {fd:FuncData} (B:BltL mg) (F:Fun K "_law_even" "_law_even" sLEven f fd):FnOk P w K mg base CX0 1 f fd ["_law_webs","_law_tables"] (spLEven K):=by
 refine F.ok scLEven (fun vs H Q E h=>?_) (fun cdv A outer s H vs Q E hr h=>?_)
 ·obtain ⟨ws,tb,w1,w2,a,b,n,hs,hs',ls,M,M',rfl,_⟩:=h
  rfl
 ·obtain ⟨ws,tb,w1,w2,a,b,n,hs,hs',ls,M,M',rfl,hws,htb,hn,W1,W2,ea,eb,ll,Ev,q⟩:=h
  obtain ⟨Lo,lo1,lo2⟩:=looks_ex Ev
  have e2:=lot_two ll
  refine ⟨_,pss_cons (ps_set (i:=2) scLEven.nd rfl (Or.inl rfl) pe_dnewK)
   (pss_cons (ps_for PassesOwn.never rfl (pi_zipT rfl B.zip (pa_cons (pv 0) (pa_cons (pv 1) pa_nil))) (pg_tup rfl (pgs_cons (pg_name (i:=3) scLEven.nd rfl (Or.inl rfl)) (pgs_cons (pg_name (i:=4) scLEven.nd rfl (Or.inl rfl)) pgs_nil)))
    (pss_cons (ps_asg (pv 3) (pg_tup rfl (pgs_cons (pg_name (i:=5) scLEven.nd rfl (Or.inl rfl)) (pgs_cons (pg_name (i:=6) scLEven.nd rfl (Or.inl rfl)) pgs_nil))))
    (pss_one (ps_for PassesOwn.never rfl (pi_enum rfl B.enum (pa_cons (pv 4) pa_nil)) (pg_tup rfl (pgs_cons (pg_name (i:=7) scLEven.nd rfl (Or.inl rfl)) (pgs_cons (pg_name (i:=8) scLEven.nd rfl (Or.inl rfl)) pgs_nil)))
     (pss_cons (ps_set (i:=9) scLEven.nd rfl (Or.inl rfl) (pe_lst pa_nil))
     (pss_cons (ps_for PassesOwn.never rfl (pi_range1 rfl B.range (pa_cons (pe_callB call_len_seq (by rfl) B.len boot_len (pa_cons (pv 4) pa_nil)) pa_nil)) (pg_name (i:=10) scLEven.nd rfl (Or.inr rfl))
      (pss_one (ps_expr (pe_bm plainAttrs_list PySem.F.slot_list_append PySem.F.type_list_append mt_append (pv 9) (pa_cons (pe_callB (call_sum rfl) (by rfl) B.sum boot_sum (pa_cons (pe_lcs rfl lcE1 rfl (pi_zip rfl B.zip (pa_cons (pe_ix ix_list (pv 6) (pv 7) (fun _ _=>rfl)) (pa_cons (pv 4) pa_nil))) (pg_two rfl lcE1) (fun _ _ _=>pts_one (pt_cmpR op_eq (pv 12) (pv 10) (nomark _))) (fun _ _ _=>pv 11)) pa_nil)) pa_nil)))))
     (pss_cons (ps_if (pt_cmpR (op_neD hr.units) (pe_dget2 (hu_of hr) (pv 2) (pv 8) (pe_tup (pa_cons (pe_ix ix_list (pv 5) (pv 7) (fun _ _=>rfl)) (pa_cons (pv 9) pa_nil))) ⟨rfl,rfl,rfl,rfl⟩) (pe_tup (pa_cons (pe_ix ix_list (pv 5) (pv 7) (fun _ _=>rfl)) (pa_cons (pv 9) pa_nil))) (nomark _)) (pss_one (ps_ret pe_bl)) pss_nil)
     (pss_one (ps_dput (hu_of hr) (pv 2) (pv 8) (pe_tup (pa_cons (pe_ix ix_list (pv 5) (pv 7) (fun _ _=>rfl)) (pa_cons (pv 9) pa_nil))) rfl)))))))))
   (pss_one (ps_ret pe_bl))),?_⟩
  intro N hN
  have sN:Same H (upd H N (.dK [])):=Same.upd hN
  have eN0:upd H N (.dK []) N=some (.dK []):=upd_same
  generalize upd H N (.dK [])=H0 at sN eN0 ⊢
  refine ⟨_,rfl,_,rfl,ws,tb,rfl,⟨_,SqL.of (sN _ _ hws)⟩,⟨_,SqT.of (sN _ _ htb)⟩,for_zipT (xs:=[.ref w1,.ref w2]) (ys:=[.ref a,.ref b]) rfl
   (fun k σ H'=>∃ (o3 o4 o5 o6 o7 o8 o9 o10:Option V) (kvs:List (Key × V)),σ=[some (.ref ws),some (.ref tb),some (.ref N),o3,o4,o5,o6,o7,o8,o9,o10]∧Same H H'∧DFt K N Lo (k * n) H' kvs) ?_ ?_ ?_ ?_⟩
  ·exact ⟨none,none,none,none,none,none,none,none,[],rfl,sN,eN0,Nat.zero_le _,fun _ _ z=>by cases z⟩
  ·exact fun i σ H' _ ⟨_,_,_,_,_,_,_,_,_,_,s',_⟩=>⟨SqL.of (s' _ _ hws),SqT.of (s' _ _ htb)⟩
  ·rintro k x y t σ H' hx hy ⟨o3,o4,o5,o6,o7,o8,o9,o10,kvs,rfl,s1,df⟩ ht
   have prt:∃ (wk tk:Addr) (hk lk:List Int) (Mk:List (List Int)) (ak:Nat→Int),x=.ref wk∧y=.ref tk∧Wz H wk n hk Mk∧H tk=some (.lst (lk.map V.int))∧lk=(List.range n).map ak∧k < 2∧∀ u < n,(hueF hk u,(List.range n).map fun (o:Nat)=>rsF n (ent Mk) ak u (o:Int))=Lo (ak u):=by
    match k,hx,hy with
    | 0,hx,hy =>
     cases hx
     cases hy
     refine ⟨w1,a,hs,ls.take n,M,aF ls,rfl,rfl,W1,ea,?_,by decide,lo1⟩
     conv=>lhs; rw [e2]
     rw [lotL_take]
    | 1,hx,hy =>
     cases hx
     cases hy
     refine ⟨w2,b,hs',ls.drop n,M',bF n ls,rfl,rfl,W2,eb,?_,by decide,lo2⟩
     conv=>lhs; rw [e2]
     rw [lotL_drop]
    | k+2,hx,_=>simp at hx
   obtain ⟨wk,tk,hk,lk,Mk,ak,rfl,rfl,Wk,etk,elk,k2,lok⟩:=prt
   have llk:lk.length=n:=by rw [elk,length_map,length_range]
   have k2n:k * n≤8:=by
    have:k * n≤1 * n:=Nat.mul_le_mul_right n (by omega)
    omega
   refine ⟨t,_,rfl,SqT.of upd_same,rfl,_,_,rfl,_,_,rfl,rfl,?_⟩
   have s2:Same H' (upd H' t (.tup [.ref wk,.ref tk])):=Same.upd ht
   generalize upd H' t (.tup [.ref wk,.ref tk])=H2 at s2 ⊢
   have t2:=s1.trans s2
   have df2:DFt K N Lo (k * n+0) H2 kvs:=⟨s2 _ _ df.at_,df.len,fun l v e=>(df.obj l v e).mono s2.keep fun _ h=>h⟩
   obtain ⟨hA,rA,rs,v1,v2,v3,RM⟩:=(Wk.same t2).wr.ex
   refine ⟨_,rfl,wk,_,rfl,SqT.of v1,rfl,_,_,rfl,_,_,rfl,rfl,?_⟩
   refine ⟨_,rfl,tk,rfl,⟨_,SqL.of (t2 _ _ etk)⟩,for_enum (K:=K) (xs:=lk.map V.int) (fun i σ H'=>∃ (o7 o8 o9 o10:Option V) (kvs:List (Key × V)),σ=[some (.ref ws),some (.ref tb),some (.ref N),some (.ref wk),some (.ref tk),some (.ref hA),some (.ref rA),o7,o8,o9,o10]∧(∀ b' o',b'≠N→H2 b'=some o'→H' b'=some o')∧DFt K N Lo (k * n+i) H' kvs) ?_ ?_ ?_ ?_⟩
   ·exact ⟨_,_,_,_,kvs,rfl,fun _ _ _ e=>e,df2⟩
   ·rintro i σ H' _ ⟨_,_,_,_,_,_,kp,_⟩
    exact SqL.of (kp _ _ (ne_of_none (H:=H) etk hN) (t2 _ _ etk))
   ·rintro i x t' σ H3 hx ⟨o7,o8,o9,o10,kvs,rfl,kp,df3⟩ ht'
    obtain ⟨l,el,rfl⟩:=map_get hx
    have li:i < n:=by rw [←llk]; exact lt_get el
    have eal:l=ak i:=by
     rw [elk,getElem?_map,getElem?_range li] at el
     exact (Option.some.inj el).symm
    obtain ⟨h,eh⟩:=get_lt (l:=hk) (i:=i) (by rw [Wk.len]; exact li)
    have ehue:hueF hk i=h:=by unfold hueF; rw [eh]; rfl
    obtain ⟨ru,xu,gu1,gu2,gu3⟩:=RM.get (i:=i) (by rw [RM.len,Wk.sq.len]; exact li)
    have lxu:=(Wk.sq.row i xu gu2).1
    have look:(h,smL lk xu n)=Lo l:=by
     rw [eal,←lok i li,ehue,elk,smL_rs Wk.sq gu2]
    have nN:∀ {b':Addr} {zs:List V},H2 b'=some (HO.lst zs)→b'≠N:=fun e z=>by subst z; rw [df2.at_] at e; cases e
    refine ⟨t',_,rfl,SqT.of upd_same,rfl,_,_,rfl,_,_,rfl,rfl,?_⟩
    have s4:Same H3 (upd H3 t' (.tup [.int (i:Int),.int l])):=Same.upd ht'
    generalize upd H3 t' (.tup [.int (i:Int),.int l])=H4 at s4 ⊢
    refine ⟨Nat.zero_le _,fun S hSn=>?_⟩
    have s5:Same H4 (upd H4 S (.lst [])):=Same.upd hSn
    have e5:upd H4 S (.lst []) S=some (.lst []):=upd_same
    generalize upd H4 S (.lst [])=H5 at s5 e5 ⊢
    have up:∀ {H6:Hp},Same H4 H6→∀ {b':Addr} {zs:List V},H2 b'=some (HO.lst zs)→H6 b'=some (.lst zs):=by
     intro H6 s6 b' zs e
     exact s6 _ _ (s4 _ _ (kp _ _ (nN e) e))
    refine ⟨_,rfl,tk,_,rfl,.inl (SqL.of (up s5 (t2 _ _ etk))),?_⟩
    rw [length_map,llk]
    refine ⟨(n:Int),rfl,by omega,by omega,for_range (n:=n) (fun k σ H''=>∃ o10:Option V,σ=[some (.ref ws),some (.ref tb),some (.ref N),some (.ref wk),some (.ref tk),some (.ref hA),some (.ref rA),some (.int (i:Int)),some (.int l),some (.ref S),o10]∧Same H4 H''∧H'' S=some (.lst ((smL lk xu k).map V.int))) ⟨_,rfl,s5,e5⟩ ?_ ?_⟩
    ·rintro k' σ H6 hk' ⟨o10,rfl,s6,eS⟩
     have aru:atI (rs.map V.ref) (i:Int)=some (.ref ru):=at_ref gu1
     have dec:∀ y:Int,decide (V.int y=V.int (0+(k':Nat):Int))=decide (y=(k':Int)):=fun y=>decide_eq_decide.mpr ⟨fun z=>by rw [V.int.inj z,Int.zero_add],fun z=>by rw [z,Int.zero_add]⟩
     refine ⟨_,rfl,.inl ⟨rfl,_,SqL.of eS⟩,_,rfl,_,rfl,rA,_,_,_,rfl,rfl,SqL.of (up s6 v3),aru,_,rfl,ru,tk,rfl,⟨_,SqL.of (up s6 gu3)⟩,⟨_,SqL.of (up s6 (t2 _ _ etk))⟩,?_⟩
     refine lc_toLot (o:=(k':Int)) rfl (SqL.of (up s6 gu3)) (SqL.of (up s6 (t2 _ _ etk))) (by omega) (by omega) ?_ ?_ ?_
     ·intro x y Hx R hR
      refine ⟨_,rfl,_,rfl,rfl,_,rfl,?_⟩
      rw [dec]
      exact hR
     ·intro x y Hx R hR
      exact ⟨_,rfl,hR⟩
     intro D H7 s7 eD
     refine ⟨D,_,rfl,SqL.of eD,S,_,_,rfl,rfl,s7 _ _ eS,small1000 (by rw [length_map,smL_len]; omega),?_⟩
     refine ⟨_,rfl,(s6.trans s7).over hSn,?_⟩
     rw [upd_same,smL_succ,map_append]
     rfl
    ·rintro σ H6 ⟨o10,rfl,s6,eS⟩
     have eN6:=s6 _ _ (s4 _ _ df3.at_)
     have nNS:S≠N:=(ne_of_none (s4 _ _ df3.at_) hSn).symm
     have ah:atI (hk.map V.int) (i:Int)=some (.int h):=atI_nat (by rw [getElem?_map,eh]; rfl)
     have mk:∀ {Ha:Hp} {ta:Addr} {ok:Addr→Prop},ok ta→ok S→Ha ta=some (.tup [.int h,.ref S])→Ha S=some (.lst ((smL lk xu n).map V.int))→DA K ok Ha (.ref ta) (dLk (Lo l)):=fun o1 o2 e1 e2=>by rw [←look]; exact .tup o1 (SqT.of e1) (.cons (.int _) (.cons (daI o2 (SqL.of e2)) .nil))
     refine ⟨_,rfl,N,rfl,.inl ⟨_,.inl eN6⟩,_,rfl,_,rfl,_,rfl,hA,_,_,_,rfl,rfl,SqL.of (up s6 v2),ah,_,rfl,sz2,fun t0 ht0=>?_⟩
     have s7:Same H6 (upd H6 t0 (.tup [.int h,.ref S])):=Same.upd ht0
     have e7:upd H6 t0 (.tup [.int h,.ref S]) t0=some (.tup [.int h,.ref S]):=upd_same
     generalize upd H6 t0 (.tup [.int h,.ref S])=H7 at s7 e7 ⊢
     have eN7:=s7 _ _ eN6
     refine ⟨_,(show DGet _ N (V.int l) (valV kvs (Sum.inl l)) from DGet.k (k:=Sum.inl l) eN7),?_⟩
     refine ⟨_,rfl,_,rfl,hA,_,_,_,rfl,rfl,SqL.of (up (s6.trans s7) v2),ah,_,rfl,sz2,fun t1 ht1=>?_⟩
     have s8:Same H7 (upd H7 t1 (.tup [.int h,.ref S])):=Same.upd ht1
     have e8:upd H7 t1 (.tup [.int h,.ref S]) t1=some (.tup [.int h,.ref S]):=upd_same
     generalize upd H7 t1 (.tup [.int h,.ref S])=H8 at s8 e8 ⊢
     have s68:=s7.trans s8
     have s38:=(s4.trans s6).trans s68
     have d1:DA K any H8 (.ref t1) (dLk (Lo l)):=mk trivial trivial e8 (s68 _ _ eS)
     have old:DA K any H8 ((valV kvs (Sum.inl l)).getD (.ref t0)) (dLk (Lo l)):=by
      cases e:valV kvs (Sum.inl l) with
      | none=>exact mk trivial trivial (s8 _ _ e7) (s68 _ _ eS)
      | some v=>exact (df3.obj l v e).mono s38.keep fun _ _=>trivial
     refine ⟨_,_,old,d1,⟨(lay_dLk _).1,(lay_dLk _).1,Nat.le_trans (lay_dLk _).2 (by decide)⟩,_,rfl,?_⟩
     rw [eqv_dLk]
     refine iteNS rfl ?_
     refine ⟨_,rfl,_,rfl,hA,_,_,_,rfl,rfl,SqL.of (up (s6.trans s68) v2),ah,_,rfl,sz2,fun t3 ht3=>?_⟩
     have s9:Same H8 (upd H8 t3 (.tup [.int h,.ref S])):=Same.upd ht3
     have e9:upd H8 t3 (.tup [.int h,.ref S]) t3=some (.tup [.int h,.ref S]):=upd_same
     generalize upd H8 t3 (.tup [.int h,.ref S])=H9 at s9 e9 ⊢
     have s39:=s38.trans s9
     have eN9:=s39 _ _ df3.at_
     have nt3:t3≠N:=(ne_of_none (s38 _ _ df3.at_) ht3).symm
     have dl:=df3.len
     refine ⟨_,rfl,_,rfl,N,_,rfl,(show DPut _ N (V.int l) _ _ from DPut.k (k:=Sum.inl l) eN9 (small1000 (by omega))),?_⟩
     have kpN:Keep (fun a=>a≠N) H9 (upd H9 N (.dK (putK kvs (Sum.inl l) (.ref t3)))):=Keep.upd fun z=>z rfl
     refine ⟨_,_,_,_,putK kvs (Sum.inl l) (.ref t3),rfl,fun b' o' nb e=>?_,⟨upd_same,?_,fun l' v' e=>?_⟩⟩
     ·rw [upd_ne nb]
      exact s39 _ _ (kp _ _ nb e)
     ·have:=length_putK kvs (Sum.inl l) (V.ref t3)
      omega
     ·rw [valV_put] at e
      by_cases z:l'=l
      ·rw [if_pos (by rw [z])] at e
       cases e
       rw [z]
       exact (mk (ok:=fun a=>a≠N) nt3 nNS e9 (s9 _ _ (s68 _ _ eS))).mono kpN fun _ h=>h
      ·rw [if_neg (fun y=>z (Sum.inl.inj y))] at e
       exact ((df3.obj l' v' e).mono s39.keep fun _ h=>h).mono kpN fun _ h=>h
   ·rintro σ H3 ⟨o7,o8,o9,o10,kvs',rfl,kp,df3⟩
    rw [length_map,llk] at df3
    refine ⟨_,_,_,_,_,_,_,_,kvs',rfl,fun b' o' e=>kp b' o' (ne_of_none e hN) (t2 _ _ e),?_⟩
    rw [Nat.succ_mul]
    exact df3
  ·rintro σ H' ⟨o3,o4,o5,o6,o7,o8,o9,o10,kvs,rfl,s1,df⟩
   exact q H' s1
def spWithin:Sp:=fun vs H Q _=>∃ (a b a0 a1 b0 b1:Addr) (n:Nat) (ls cs:List Int),vs=[.ref a,.ref b]∧H a=some (.tup [.ref a0,.ref a1])∧H a0=some (.lst ((ls.take n).map V.int))∧H a1=some (.lst ((ls.drop n).map V.int))∧H b=some (.tup [.ref b0,.ref b1])∧H b0=some (.lst ((cs.take n).map V.int))∧H b1=some (.lst ((cs.drop n).map V.int)) ∧
 ls.length=n+n∧cs.length=n+n∧n≤8∧Finer ls cs∧∀ H',Same H H'→Q (.bl true) H'
abbrev nWithin:List Str:=["_law_finer","_law_coarser","_law_there","_law_lot","_law_other"]
theorem scWithin:FnScope nWithin ["_law_finer","_law_coarser"] (defScope sWithin):=by constructor<;>first|rfl|decide +kernel
theorem ok_within {f:Addr} {fd:FuncData} (B:BltL mg) (F:Fun K "_law_within" "_law_within" sWithin f fd):FnOk P w K mg base CX0 1 f fd ["_law_finer","_law_coarser"] spWithin:=by
 refine F.ok scWithin (fun vs H Q E h=>?_) (fun cdv A outer s H vs Q E hr h=>?_)
 ·obtain ⟨a,b,a0,a1,b0,b1,n,ls,cs,rfl,_⟩:=h
  rfl
 ·obtain ⟨a,b,a0,a1,b0,b1,n,ls,cs,rfl,ha,ha0,ha1,hb,hb0,hb1,ll,lc,hn,fin,q⟩:=h
  refine ⟨_,pss_cons (ps_set (i:=2) scWithin.nd rfl (Or.inl rfl) pe_dnewK)
   (pss_cons (ps_for PassesOwn.never rfl (pi_zip rfl B.zip (pa_cons (pe_op op_cat (pe_ix ix_tup (pv 0) pe_int (fun _ _=>rfl)) (pe_ix ix_tup (pv 0) pe_int (fun _ _=>rfl))) (pa_cons (pe_op op_cat (pe_ix ix_tup (pv 1) pe_int (fun _ _=>rfl)) (pe_ix ix_tup (pv 1) pe_int (fun _ _=>rfl))) pa_nil))) (pg_tup rfl (pgs_cons (pg_name (i:=3) scWithin.nd rfl (Or.inl rfl)) (pgs_cons (pg_name (i:=4) scWithin.nd rfl (Or.inl rfl)) pgs_nil)))
    (pss_cons (ps_if (pt_cmpR op_ne (pe_dget2 (hu_of hr) (pv 2) (pv 3) (pv 4) ⟨rfl,rfl,rfl,rfl⟩) (pv 4) (nomark _)) (pss_one (ps_ret pe_bl)) pss_nil)
    (pss_one (ps_dput (hu_of hr) (pv 2) (pv 3) (pv 4) rfl))))
   (pss_one (ps_ret pe_bl))),?_⟩
  intro N hN
  have s0:Same H (upd H N (.dK [])):=Same.upd hN
  have e0:upd H N (.dK []) N=some (.dK []):=upd_same
  generalize upd H N (.dK [])=H0 at s0 e0 ⊢
  have catL:(ls.take n).map V.int++(ls.drop n).map V.int=ls.map V.int:=by rw [←map_append,take_append_drop]
  have catC:(cs.take n).map V.int++(cs.drop n).map V.int=cs.map V.int:=by rw [←map_append,take_append_drop]
  refine ⟨_,rfl,a,_,_,.ref a0,rfl,rfl,SqT.of (s0 _ _ ha),at_hd _ _,_,rfl,a,_,_,.ref a1,rfl,rfl,SqT.of (s0 _ _ ha),at_snd _ _ _,a0,a1,_,_,rfl,rfl,s0 _ _ ha0,s0 _ _ ha1,Nat.le_of_lt (small1000 (by rw [length_map,length_map,length_take,length_drop]; omega)),fun D hD=>?_⟩
  rw [catL]
  have s1:Same H0 (upd H0 D (.lst (ls.map V.int))):=Same.upd hD
  have e1:upd H0 D (.lst (ls.map V.int)) D=some (.lst (ls.map V.int)):=upd_same
  generalize upd H0 D (.lst (ls.map V.int))=H1 at s1 e1 ⊢
  have s01:=s0.trans s1
  refine ⟨_,rfl,b,_,_,.ref b0,rfl,rfl,SqT.of (s01 _ _ hb),at_hd _ _,_,rfl,b,_,_,.ref b1,rfl,rfl,SqT.of (s01 _ _ hb),at_snd _ _ _,b0,b1,_,_,rfl,rfl,s01 _ _ hb0,s01 _ _ hb1,Nat.le_of_lt (small1000 (by rw [length_map,length_map,length_take,length_drop]; omega)),fun D' hD'=>?_⟩
  rw [catC]
  have s2:Same H1 (upd H1 D' (.lst (cs.map V.int))):=Same.upd hD'
  have e2:upd H1 D' (.lst (cs.map V.int)) D'=some (.lst (cs.map V.int)):=upd_same
  generalize upd H1 D' (.lst (cs.map V.int))=H2 at s2 e2 ⊢
  have e1':=s2 _ _ e1
  have s02:=s01.trans s2
  have eN2:=s2 _ _ (s1 _ _ e0)
  have DN:D≠N:=fun z=>by rw [z,e0] at hD; cases hD
  have DN':D'≠N:=fun z=>by rw [z,s1 _ _ e0] at hD'; cases hD'
  refine ⟨D,D',rfl,⟨_,SqL.of e1'⟩,⟨_,SqL.of e2⟩,?_⟩
  refine for_zip (K:=K) (xs:=ls.map V.int) (ys:=cs.map V.int) (by rw [length_map,length_map,ll,lc]) (fun i σ H'=>∃ (o3 o4:Option V) (kvs:List (Key × V)),σ=[some (.ref a),some (.ref b),some (.ref N),o3,o4]∧Same H H'∧(∀ c o,c≠N→H2 c=some o→H' c=some o)∧H' N=some (.dK kvs)∧kvs.length≤i ∧
   ∀ (k:Int) (x:V),valV kvs (Sum.inl k)=some x→∃ (j:Nat) (c:Int),ls[j]? = some k∧cs[j]? = some c∧x=.int c) ?_ ?_ ?_ ?_
  ·exact ⟨none,none,[],rfl,s02,fun c o _ e=>e,eN2,Nat.le_refl _,fun k x z=>by cases z⟩
  ·rintro i σ H' _ ⟨o3,o4,kvs,rfl,_,kp,_⟩
   exact ⟨SqL.of (kp _ _ DN e1'),SqL.of (kp _ _ DN' e2)⟩
  ·rintro i x y t σ H3 hx hy ⟨o3,o4,kvs,rfl,s3,kp,eN,lk,iv⟩ ht
   have hi:=lt_get hx
   rw [length_map,ll] at hi
   obtain ⟨k,hk,rfl⟩:=map_get hx
   obtain ⟨c,hc,rfl⟩:=map_get hy
   refine ⟨t,_,rfl,SqT.of upd_same,rfl,_,_,rfl,_,_,rfl,rfl,?_⟩
   have s4:Same H3 (upd H3 t (.tup [.int k,.int c])):=Same.upd ht
   generalize upd H3 t (.tup [.int k,.int c])=H4 at s4 ⊢
   have eN4:=s4 _ _ eN
   have get:(valV kvs (Sum.inl k)).getD (V.int c)=V.int c:=by
    cases e:valV kvs (Sum.inl k) with
    | none=>rfl
    | some x =>
     obtain ⟨j,c',h1,h2,rfl⟩:=iv k x e
     rw [fin j i k c' c h1 hk h2 hc]
     rfl
   refine ⟨_,rfl,N,rfl,.inl ⟨_,.inl eN4⟩,_,rfl,_,rfl,_,(show DGet _ N (V.int k) (valV kvs (Sum.inl k)) from DGet.k (k:=Sum.inl k) eN4),_,rfl,?_⟩
   rw [get]
   refine ⟨rfl,_,rfl,iteNS rfl ?_⟩
   refine ⟨_,rfl,_,rfl,_,rfl,N,_,rfl,(show DPut _ N (V.int k) _ _ from DPut.k (k:=Sum.inl k) eN4 (small1000 (by omega))),?_⟩
   refine ⟨_,_,_,rfl,(s3.trans s4).over hN,fun d o ne e=>?_,upd_same,?_,fun k' x h=>?_⟩
   ·rw [upd_ne ne]
    exact s4 _ _ (kp _ _ ne e)
   ·have:=length_putK kvs (Sum.inl k) (V.int c)
    omega
   ·rw [valV_put] at h
    split at h
    ·rename_i e
     cases h
     exact ⟨i,c,by rw [hk,Sum.inl.inj e],hc,rfl⟩
    ·exact iv k' x h
  ·rintro σ H3 ⟨o3,o4,kvs,rfl,s3,_⟩
   exact q H3 s3
theorem smF_le {n:Nat} {f:Nat→Int} (h:∀ i < n,0≤f i) {k:Nat} (hk:k < n):f k≤SmF n f:=by
 induction n with
 | zero=>omega
 | succ n ih =>
  rw [smF_succ]
  have hn:=h n (by omega)
  by_cases e:k=n
  ·subst e
   have:=smF_nonneg (n:=k) fun i hi=>h i (by omega)
   omega
  ·have:=ih (fun i hi=>h i (by omega)) (by omega)
   omega
theorem GoI.le {n:Nat} {h h':Nat→Int} {M M' P:Nat→Nat→Int} {N:Int} (g:GoI n h h' M M' P N) {u w:Nat} (hu:u < n) (hw:w < n):(P u w).natAbs≤N.natAbs:=by
 have h1:=smF_le (f:=fun w=>P u w) (fun i hi=>g.pos u hu i hi) hw
 rw [g.row u hu] at h1
 have h2:=g.pos u hu w hw
 have h1':P u w≤N:=h1
 omega
theorem lowM_rows {n:Nat} {h h':Nat→Int} {M M' P:Nat→Nat→Int} {N:Int} (g:GoI n h h' M M' P N) (hN:0 < N) (hb:N.natAbs < 2 ^ 20):(lowM n P N).length=n∧∀ r ∈ lowM n P N,r.length=n∧∀ f ∈ r,FrT f∧FrB f:=by
 refine ⟨by unfold lowM mat; rw [length_map,length_range],fun r hr=>?_⟩
 obtain ⟨u,hu,rfl⟩:=mem_mat.mp hr
 refine ⟨by rw [length_map,length_range],fun f hf=>?_⟩
 obtain ⟨w,hw,rfl⟩:=mem_map.mp hf
 obtain ⟨l1,l2⟩:=M11.low_le (t:=P u w) (Int.ne_of_gt hN)
 have lp:=M11.low_pos (t:=P u w) (Int.ne_of_gt hN)
 have b1:(M11.low (P u w) N).1.natAbs < 2 ^ 20:=Nat.lt_of_le_of_lt (Nat.le_trans l1 (g.le hu (mem_range.mp hw))) hb
 have b2:(M11.low (P u w) N).2.natAbs < 2 ^ 20:=Nat.lt_of_le_of_lt l2 hb
 exact ⟨⟨lp,M11.Bn.mono (n:=20) b1 (by decide),M11.Bn.mono (n:=20) b2 (by decide)⟩,⟨lp,b2⟩,M11.Bn.mono (n:=20) b1 (by decide)⟩
abbrev nOne:List Str:=["_law_web_here","_law_other","_law_table_here","_law_kept","_law_told"]
abbrev aOne:List Str:=["_law_web_here","_law_other","_law_table_here"]
theorem scOne:FnScope nOne aOne (defScope sOne):=by constructor<;>first|rfl|decide +kernel
theorem lcOne:LcScopes (defScope sOne) nOne (lcScope (asgVal (bodyAt sOne 0))) ["_law_row"]:=by constructor<;>first|rfl|decide +kernel
def spOne:Sp:=fun vs H Q _=>∃ (w1 w2 t:Addr) (n:Nat) (hs hs':List Int) (M M':List (List Int)) (P:Nat→Nat→Int) (N:Int),vs=[.ref w1,.ref w2,.ref t]∧Wz H w1 n hs M∧Wz H w2 n hs' M'∧SymF n (ent M)∧SymF n (ent M')∧n≤8∧FGrd H t (lowM n P N)∧0 < N∧N.natAbs < 2 ^ 20∧GoI n (hueF hs) (hueF hs') (ent M) (ent M') P N ∧
 ∀ H',Same H H'→Q (.bl true) H'
theorem ok_one {f fG fL fLL fE fW fC:Addr} {fd fdG fdL fdLL fdE fdW fdC:FuncData} (B:BltL mg) (F:Fun K "_law_one" "_law_one" sOne f fd)
  (DG:Dn K mg "goes_through" sGoes aGoes fG fdG) (GG:FnOk P w K mg base CX0 4 fG fdG aGoes spGoes)
  (DL:Dn K mg "lots_of" sLotsOf ["table"] fL fdL) (GL:FnOk P w K mg base CX0 3 fL fdL ["table"] spLotsOf)
  (DLL:Dn K mg "_law_lots" sLLots ["_law_table_here"] fLL fdLL) (GLL:FnOk P w K mg base CX0 1 fLL fdLL ["_law_table_here"] spLL)
  (DE:Dn K mg "_law_even" sLEven ["_law_webs","_law_tables"] fE fdE) (GE:FnOk P w K mg base CX0 1 fE fdE ["_law_webs","_law_tables"] (spLEven K))
  (DW:Dn K mg "_law_within" sWithin ["_law_finer","_law_coarser"] fW fdW) (GW:FnOk P w K mg base CX0 1 fW fdW ["_law_finer","_law_coarser"] spWithin)
  (DC:Dn K mg "coarsest_together" sTogether ["web","other"] fC fdC) (GC:FnOk P w K mg base CX0 4 fC fdC ["web","other"] spTogether):FnOk P w K mg base CX0 5 f fd aOne spOne:=by
 refine F.ok scOne (fun vs H Q E h=>?_) (fun cdv A outer s H vs Q E hr h=>?_)
 ·obtain ⟨w1,w2,t,n,hs,hs',M,M',P,N,rfl,_⟩:=h
  rfl
 ·obtain ⟨w1,w2,t,n,hs,hs',M,M',P,N,rfl,W1,W2,y1,y2,hn,gT,hN,hb,g,q⟩:=h
  have r1:=hr.mono (j:=1) (by decide)
  have r3:=hr.mono (j:=3) (by decide)
  have h16:n≤16:=by omega
  obtain ⟨lE,rE⟩:=lowM_rows g hN hb
  have wE:∀ r ∈ lowM n P N,r.length=n:=fun r hr'=>(rE r hr').1
  obtain ⟨rs,ht,lr,hR⟩:=gT.rows
  refine ⟨_,pss_cons (ps_setLc1 (i:=3) scOne.nd rfl (Or.inl rfl) rfl lcOne rfl (pi_list (pv 2)) (fun _ _ _=>pe_callTy (call_list_ofK (K:=K)) (by rfl) B.list boot_list (pa_cons (pv 5) pa_nil)))
   (pss_cons (ps_if (pt_not (pt_val (pe_fn DG GG hr rfl (pa_cons (pv 0) (pa_cons (pv 1) (pa_cons (pv 2) pa_nil)))))) (pss_one (ps_ret pe_bl)) pss_nil)
   (pss_cons (ps_set (i:=4) scOne.nd rfl (Or.inl rfl) (pe_fn DL GL r3 rfl (pa_cons (pv 2) pa_nil)))
   (pss_cons (ps_if (PW.pt (pw_or (pt_cmpR (op_neD hr.units) (pv 4) (pe_fn DLL GLL r1 rfl (pa_cons (pv 3) pa_nil)) (nomark _)) (pw_or (pt_not (pt_val (pe_fn DE GE r1 rfl (pa_cons (pe_lst (pa_cons (pv 0) (pa_cons (pv 1) pa_nil))) (pa_cons (pv 4) pa_nil)))))
    (pw_or1 (pt_cmpR (op_neD hr.units) (pe_callB call_sorted (by rfl) B.sorted boot_sorted (pa_cons (pe_ix ix_tup (pv 4) pe_int (fun _ _=>rfl)) pa_nil)) (pe_callB call_sorted (by rfl) B.sorted boot_sorted (pa_cons (pe_ix ix_tup (pv 4) pe_int (fun _ _=>rfl)) pa_nil)) (nomark _)))))) (pss_one (ps_ret pe_bl)) pss_nil)
   (pss_one (ps_ret (pe_and (pe_fn DW GW r1 rfl (pa_cons (pv 4) (pa_cons (pe_fn DC GC hr rfl (pa_cons (pv 0) (pa_cons (pv 1) pa_nil))) pa_nil))) (pe_one (pe_cmpR (op_eqD hr.units) (pv 2) (pv 3) (nomark _))))))))),?_⟩
  refine ⟨_,rfl,t,rfl,⟨_,SqL.of ht⟩,fun KD hKD=>?_⟩
  refine lc_list (K:=K) (xs:=rs.map V.ref) (FGrI H KD (lowM n P N)) (FGrI.start hKD) (fun i ys H' _ g=>⟨SqL.of (g.same _ _ ht),g.at⟩) ?_ ?_ ?_
  ·rintro j v ys Ho hv gI
   obtain ⟨r,hr',rfl⟩:=map_get hv
   obtain ⟨fs,hf⟩:=get_lt (l:=lowM n P N) (i:=j) (by rw [←lr]; exact lt_get hr')
   obtain ⟨x,hx,fx⟩:=hR j r fs hr' hf
   refine ⟨_,rfl,r,x,rfl,.inl (SqL.of (gI.same _ _ hx)),fun l hl=>?_⟩
   exact gI.step hKD hf hl upd_same (fx.mono (gI.same.trans (Same.upd hl))) (Same.upd hl) (by have:=lt_get hf; omega)
  ·intro ys H1 gI
   have s1:=gI.same
   have gK:=(gI.done hKD (by rw [length_map,lr])).grd
   refine ⟨_,rfl,_,rfl,_,rfl,w1,w2,t,n,n,hs,hs',M,M',_,rfl,(W1.same s1).wr,(W2.same s1).wr,W1.len,W2.len,W1.sq,W2.sq,hn,hn,gT.mono s1,by rw [lE]; exact h16,fun r hr'=>⟨by rw [wE r hr']; exact h16,fun f hf=>((rE r hr').2 f hf).2⟩,fun b2 H2 e2 s2=>⟨_,rfl,?_⟩⟩
   rw [e2,goes_of W1.len W2.len W1.sq W2.sq g hN hb]
   refine iteF ?_
   have s12:=s1.trans s2
   refine ⟨_,rfl,t,_,n,n,rfl,gT.mono s12,lE,h16,h16,wE,(fun z=>by rw [←lE,z]; rfl),fun p3 x3 z3 ms H3 s3 LG f1 f2 f3=>?_⟩
   obtain ⟨C,ll⟩:=cmp_of hN LG
   have nm:Norm (nI (numb ms)):=norm_numb ms
   generalize nI (numb ms)=ls at C ll nm f2 f3
   have Ev:=C.even g y1 y2
   have As:=C.as g hN
   have et:=lot_two ll
   have s13:=s12.trans s3
   refine ⟨_,rfl,_,rfl,KD,n,P,N,ls,rfl,gK.mono (s2.trans s3),hN,hn,C,ll,nm,fun p4 x4 z4 H4 s4 g1 g2 g3=>?_⟩
   refine ⟨dP _ _,dP _ _,daP (s4 _ _ f1) (s4 _ _ f2) (s4 _ _ f3),daP g1 g2 g3,⟨(lay_dP _ _).1,(lay_dP _ _).1,(lay_dP _ _).2⟩,_,rfl,?_⟩
   rw [eqv_dP]
   refine iteF ?_
   have s14:=s13.trans s4
   refine ⟨_,rfl,_,rfl,sz2,fun L5 hL5=>?_⟩
   have s5:Same H4 (upd H4 L5 (.lst [.ref w1,.ref w2])):=Same.upd hL5
   have e5:upd H4 L5 (.lst [.ref w1,.ref w2]) L5=some (.lst [.ref w1,.ref w2]):=upd_same
   generalize upd H4 L5 (.lst [.ref w1,.ref w2])=H5 at s5 e5 ⊢
   have s15:=s14.trans s5
   have s35:=s4.trans s5
   refine ⟨_,rfl,L5,p3,w1,w2,x3,z3,n,hs,hs',ls,M,M',rfl,e5,s35 _ _ f1,hn,W1.same s15,W2.same s15,s35 _ _ f2,s35 _ _ f3,ll,Ev,fun H6 s6=>⟨_,rfl,iteF ?_⟩⟩
   have s36:=s35.trans s6
   have pm:(ls.take n).Perm (ls.drop n):=by
    have t1:ls.take n=(List.range n).map (aF ls):=by
     conv=>lhs; rw [et]
     rw [lotL_take]
    have t2:ls.drop n=(List.range n).map (bF n ls):=by
     conv=>lhs; rw [et]
     rw [lotL_drop]
    rw [t1,t2]
    refine List.perm_iff_count.mpr fun o=>?_
    have:=As o
    rw [cnt_rng,cnt_rng] at this
    omega
   refine ⟨_,rfl,p3,_,_,_,rfl,rfl,SqT.of (s36 _ _ f1),rfl,x3,_,rfl,SqL.of (s36 _ _ f2),by rw [length_take]; omega,fun l1 ns1 hl1 pm1 so1=>?_⟩
   have s7:Same H6 (upd H6 l1 (.lst (ns1.map V.int))):=Same.upd hl1
   have e7:upd H6 l1 (.lst (ns1.map V.int)) l1=some (.lst (ns1.map V.int)):=upd_same
   generalize upd H6 l1 (.lst (ns1.map V.int))=H7 at s7 e7 ⊢
   have s37:=s36.trans s7
   refine ⟨_,rfl,p3,_,_,_,rfl,rfl,SqT.of (s37 _ _ f1),rfl,z3,_,rfl,SqL.of (s37 _ _ f3),by rw [length_drop]; omega,fun l2 ns2 hl2 pm2 so2=>?_⟩
   have s8:Same H7 (upd H7 l2 (.lst (ns2.map V.int))):=Same.upd hl2
   have e8:upd H7 l2 (.lst (ns2.map V.int)) l2=some (.lst (ns2.map V.int)):=upd_same
   generalize upd H7 l2 (.lst (ns2.map V.int))=H8 at s8 e8 ⊢
   refine ⟨dI ns1,dI ns2,daI trivial (SqL.of (s8 _ _ e7)),daI trivial (SqL.of e8),⟨(lay_dI _).1,(lay_dI _).1,Nat.le_trans (lay_dI _).2 (by decide)⟩,_,rfl,?_⟩
   rw [eqv_dI]
   refine iteNS ((sort_iff pm1 so1 pm2 so2).mpr pm) ?_
   have s38:=s37.trans s8
   have s18:=s13.trans s38
   refine ⟨_,rfl,_,rfl,_,rfl,w1,w2,n,n,hs,hs',M,M',rfl,W1.same s18,W2.same s18,hn,hn,fun p9 x9 z9 cs H9 s9 k1 k2 k3 Co=>?_⟩
   have lc:cs.length=n+n:=by rw [←Co.len,length_append,W1.len,W2.len]
   have fin:Finer ls cs:=Co.top ls (by rw [ll,lc]) (by rw [et]; exact (pr_ev W1.len W2.len W1.sq W2.sq).mpr Ev)
   have s39:=s38.trans s9
   refine ⟨p3,p9,x3,z3,x9,z9,n,ls,cs,rfl,s39 _ _ f1,s39 _ _ f2,s39 _ _ f3,k1,k2,k3,ll,lc,hn,fin,fun Ha sa=>⟨_,rfl,iteT ?_⟩⟩
   have s2a:=(s3.trans s39).trans sa
   have s1a:=s12.trans s2a
   refine ⟨_,rfl,_,rfl,dT _,dT _,(gT.mono s1a).da,(gK.mono (s2.trans s2a)).da,⟨(lay_dT _).1,(lay_dT _).1,(lay_dT _).2⟩,?_⟩
   rw [eqv_dT]
   exact q Ha s1a
  ·rintro σ H' Q1 Q2 hq ⟨v,e,p',ys,a1,a2,g⟩
   exact ⟨v,e,p',ys,a1,a2,fun l hl'=>hq _ _ (g l hl')⟩
end
section
section
variable {n:Nat} {h h':Nat→Int} {M M':Nat→Nat→Int} {a b:Nat→Int}
theorem go_nil (hn:True):GoI n h h' M M' (fun _ _=>0) 0:=by
 refine ⟨fun _ _ _ _=>Int.le_refl _,fun _ _=>smF_nil n,fun _ _=>smF_nil n,fun _ _ _ _ e=>absurd rfl e,fun u _ w _=>?_⟩
 have e1:SmF n (fun v=>0 * M u v)=SmF n fun _=>0:=smF_congr fun v _=>Int.zero_mul _
 have e2:SmF n (fun x=>M' x w * 0)=SmF n fun _=>0:=smF_congr fun v _=>Int.mul_zero _
 rw [e1,e2]
theorem go_mix:∀ (ss:List Int) (Ps:List (Nat→Nat→Int)),ss.length=Ps.length→(∀ s ∈ ss,0≤s)→(∀ P ∈ Ps,GoI n h h' M M' P 60)→GoI n h h' M M' (mixP ss Ps) (60 * ss.sum)
 | [],[],_,_,_=>go_nil trivial
 | [],_ :: _,l,_,_=>by cases l
 | _ :: _,[],l,_,_=>by cases l
 | s :: ss,P :: Ps,l,hs,hP=>by
  have ih:=go_mix ss Ps (by simpa using l) (fun x hx=>hs x (mem_cons_of_mem _ hx)) fun x hx=>hP x (mem_cons_of_mem _ hx)
  have g:=((hP P mem_cons_self).scale (hs s mem_cons_self)).add ih
  have e1:mixP (s :: ss) (P :: Ps)=fun u w=>s * P u w+mixP ss Ps u w:=by
   funext u w
   unfold mixP
   rw [zip_cons_cons,map_cons,sum_cons]
  rw [e1,sum_cons,Int.mul_add,Int.mul_comm 60 s]
  exact g
def k60 (n:Nat) (a:Nat→Int) (o:Int):Int:=60 / cntF n a o
theorem k60_mul (hn:n≤6) {u:Nat} (hu:u < n):k60 n a (a u) * cntF n a (a u)=60∧0≤k60 n a (a u):=by
 have p:0 < cntF n a (a u):=cntF_pos hu
 have l:cntF n a (a u)≤n:=cnt_le
 unfold k60
 generalize cntF n a (a u)=c at p l
 have:c=1 ∨ c=2 ∨ c=3 ∨ c=4 ∨ c=5 ∨ c=6:=by omega
 rcases this with e | e | e | e | e | e <;> rw [e] <;> decide
theorem even_low (hn:n≤6):evM n a b=lowM n (shF a b (k60 n a)) 60:=by
 unfold evM lowM
 refine mat_eq.mpr fun u hu w hw=>?_
 have p:0 < cntF n a (a u):=cntF_pos hu
 have k:=(k60_mul (a:=a) hn hu).1
 unfold oneF shF
 by_cases e:b w=a u
 ·rw [if_pos (decide_eq_true e),if_pos e.symm]
  refine (M11.low_uniq (by decide) p Int.one_gcd ?_).symm
  rw [k]
  rfl
 ·rw [if_neg (by rw [decide_eq_false e]; decide),if_neg (Ne.symm e)]
  exact (low_nil (by decide)).symm
end
theorem Alk.go {n:Nat} {hs hs':List Int} {M M':List (List Int)} {ls:List Int} (A:Alk n hs hs' M M' ls) (hn:n≤6) (y1:SymF n (ent M)) (y2:SymF n (ent M')):GoI n (hueF hs) (hueF hs') (ent M) (ent M') (shF (aF ls) (bF n ls) (k60 n (aF ls))) 60 :=
 go_even A.co.ev A.as y1 y2 (fun u hu=>(k60_mul hn hu).2) fun u hu=>(k60_mul hn hu).1
theorem onto_go {n:Nat} {hs os:List Int} {M:List (List Int)} (po:os.Perm (rI n)) (e1:renH hs os=hs) (e2:renM M os=M):GoI n (hueF hs) (hueF hs) (ent M) (ent M) (ordM n os) 1:=by
 refine go_turn (sg_perm po) (fun u hu=>?_) fun u hu v hv=>?_
 ·rw [←hue_ren po hu,e1]
 ·rw [←ent_ren po hu hv,e2]
def bakO (n:Nat) (os:List Int):List Int:=(rI n).map fun u=>((os.idxOf u:Nat):Int)
theorem bakO_perm {n:Nat} {os:List Int} (po:os.Perm (rI n)):(bakO n os).Perm (rI n):=by
 have nd:os.Nodup:=po.nodup_iff.mpr (rI_nodup n)
 have lo:=os_len po
 have e:os.map (fun u=>((os.idxOf u:Nat):Int))=rI n:=by
  apply ext_getElem?
  intro i
  by_cases hi:i < n
  ·rw [getElem?_map,getElem?_eq_getElem (by omega),rI_get hi]
   show some ((os.idxOf _:Nat):Int)=_
   rw [List.Nodup.idxOf_getElem nd]
  ·rw [getElem?_eq_none (by rw [length_map]; omega),getElem?_eq_none (by rw [rI_len]; omega)]
 have:=po.map fun u=>((os.idxOf u:Nat):Int)
 rw [e] at this
 exact this.symm
theorem sg_bak {n:Nat} {os:List Int} (po:os.Perm (rI n)) {u:Nat} (hu:u < n):sg os (sg (bakO n os) u)=u:=by
 have m:(u:Int) ∈ os:=po.mem_iff.mpr (mem_of_getElem? (rI_get hu))
 have lt:=idxOf_lt_length_iff.mpr m
 have e1:sg (bakO n os) u=os.idxOf (u:Int):=by
  unfold sg bakO
  rw [getElem?_map,rI_get hu]
  rfl
 rw [e1]
 unfold sg
 rw [getElem?_eq_getElem lt]
 show (os[os.idxOf (u:Int)]).toNat=u
 rw [getElem_idxOf lt]
 rfl
theorem bak_go {n:Nat} {hs os:List Int} {M:List (List Int)} (po:os.Perm (rI n)):GoI n (hueF hs) (hueF (renH hs os)) (ent M) (ent (renM M os)) (ordM n (bakO n os)) 1:=by
 have sl:∀ u < n,sg (bakO n os) u < n:=fun u hu=>(sg_at (bakO_perm po) hu).2
 refine go_turn (sg_perm (bakO_perm po)) (fun u hu=>?_) fun u hu v hv=>?_
 ·rw [hue_ren po (sl u hu),sg_bak po hu]
 ·rw [ent_ren po (sl u hu) (sl v hv),sg_bak po hu,sg_bak po hv]
theorem alk_self {n:Nat} {hs:List Int} {M:List (List Int)} {ls:List Int} (h1:hs.length=n) (S:SqN n M) (C:Coarse (hs++hs) (besM n n M M) ls):Alk n hs hs M M ls:=by
 have ll:ls.length=n+n:=by rw [←C.len,length_append,h1]
 exact alk_of h1 h1 S S C (ren_as (s:=fun u=>u) (by rw [List.map_id']) (fun _ _=>rfl) (fun _ _ _ _=>rfl) (co_of h1 h1 S S (by rw [←lot_two ll]; exact C)))
end
section
variable {P:Program} {w:World} {K:Frag} {mg:Str→Option Value} {base:Heap}
def spLaw (K:Frag):Sp:=fun vs H Q _=>∃ (a:Addr) (ns:List Int),vs=[.ref a]∧SqL K H a (ns.map V.int)∧ns.length≤63∧∀ H',Q (.bl true) H'
abbrev nLaw:List Str:=["_law_script","_law_web_here","_law_other","_law_free","_law_even_here","_law_onto_here","_law_cell","_law_shares","_law_some","_law_here","_law_table_here","_law_order_here","_law_back"]
theorem scLaw:FnScope nLaw ["_law_script"] (defScope sLaw):=by constructor<;>first|rfl|decide +kernel
theorem lcLaw1:LcScopes (defScope sLaw) nLaw (lcScope (asgVal (forBody (bodyAt sLaw 5) 1))) ["_law_k"]:=by constructor<;>first|rfl|decide +kernel
theorem lcLaw2:LcScopes (defScope sLaw) nLaw (lcScope (asgVal (ifBody (forBody (bodyAt sLaw 5) 4) 1))) ["_law_u"]:=by constructor<;>first|rfl|decide +kernel
theorem pe_indexK {X:Cx} {o e:Expr} {to:TE} {t:TA} {apos cpos:Pos} (hu:X.A.units+64 < cLine) (ho:PE X o to) (ha:PA X [e] t) (h:X.K=K:=by rfl) (hbase:attributeBase o "index" X.env (eval o X.env)=eval o X.env:=by rfl)
  (hfew:((backTo cpos (starEach [e] X.env)).all (fun x=>!x.1) && (backToKw cpos (keywordEach [] X.env)).all (fun x=>x.1.isSome) && decide ([e].length+([]:List Keyword).length+(if ([]:List Keyword).isEmpty then 0 else 1) < 30))=true:=by rfl)
  (hline:(apos.endLine == cpos.line)=true:=by rfl) (hs:starEach [e] X.env=(false,eval e X.env) :: starEach [] X.env:=by rfl) (hplain:(backTo cpos (starEach [] X.env)).any (·.1)=false:=by rfl) :
  PE X (.Call (.Attribute o "index" apos) [e] [] cpos) (tBM K "list" (rIndexD K) to t):=by
 subst h
 exact pe_bm plainAttrs_list slot_list_index type_list_index (mt_indexD hu) ho ha hbase hfew hline hs hplain
def TabD (H:Hp) (D t:Addr) (F:List (List (Int × Int))):Prop:=t≠D∧∃ rs:List Addr,H t=some (.lst (rs.map V.ref))∧rs.length=F.length∧(∀ r ∈ rs,r≠t∧r≠D)∧∀ (i:Nat) (r:Addr) (fs:List (Int × Int)),rs[i]? = some r→F[i]? = some fs→∃ x,H r=some (.lst x)∧FrAt H x fs
theorem TabD.mono {H H':Hp} {D t:Addr} {F:List (List (Int × Int))} (g:TabD H D t F) (s:Same H H'):TabD H' D t F:=by
 obtain ⟨n1,rs,e,l,n2,hr⟩:=g
 exact ⟨n1,rs,s _ _ e,l,n2,fun i r fs h1 h2=>let ⟨x,hx,fx⟩:=hr i r fs h1 h2; ⟨x,s _ _ hx,fx.mono s⟩⟩
theorem TabD.upd {H:Hp} {D t:Addr} {F:List (List (Int × Int))} {ys zs:List V} (g:TabD H D t F) (eD:H D=some (.lst ys)):TabD (upd H D (.lst zs)) D t F:=by
 obtain ⟨n1,rs,e,l,n2,hr⟩:=g
 refine ⟨n1,rs,by rw [upd_ne n1]; exact e,l,n2,fun i r fs h1 h2=>?_⟩
 obtain ⟨x,hx,fx⟩:=hr i r fs h1 h2
 exact ⟨x,by rw [upd_ne (n2 r (mem_of_getElem? h1)).2]; exact hx,fx.upd eD⟩
theorem TabD.grd {H:Hp} {D t:Addr} {F:List (List (Int × Int))} (g:TabD H D t F):FGrd H t F:=by
 obtain ⟨n1,rs,e,l,n2,hr⟩:=g
 exact (show FGrN (fun _=>none) H t F from ⟨rs,e,l,rfl,fun r hr'=>⟨(n2 r hr').1,rfl⟩,hr⟩).grd
theorem FGrN.tabD {H0 H:Hp} {D t:Addr} {F:List (List (Int × Int))} {o:HO} (g:FGrN H0 H t F) (eD:H0 D=some o):TabD H D t F:=by
 obtain ⟨rs,e,l,n1,n2,hr⟩:=g
 exact ⟨fun z=>(by rw [z,eD] at n1; cases n1),rs,e,l,fun r hr'=>⟨(n2 r hr').1,fun z=>(by have:=(n2 r hr').2; rw [z,eD] at this; cases this)⟩,hr⟩
theorem ok_law {f fT fA fC fTb fO fD fTo fM fJ fR fOn:Addr} {fd fdT fdA fdC fdTb fdO fdD fdTo fdM fdJ fdR fdOn:FuncData} (B:BltL mg) (F:Fun K "law" "law" sLaw f fd)
  (DT:Dn K mg "_law_two" sTwo ["_law_script","_law_most"] fT fdT) (GT:FnOk P w K mg base CX0 3 fT fdT ["_law_script","_law_most"] (spTwo K))
  (DA:Dn K mg "part_alike" sAlike ["web","other"] fA fdA) (GA:FnOk P w K mg base CX0 5 fA fdA ["web","other"] spAlike)
  (DC:Dn K mg "_law_cell_at" sCellAt ["_law_script","_law_k"] fC fdC) (GC:FnOk P w K mg base CX0 1 fC fdC ["_law_script","_law_k"] (spCell K))
  (DTb:Dn K mg "table_of" sTabOf ["web","other"] fTb fdTb) (GTb:FnOk P w K mg base CX0 5 fTb fdTb ["web","other"] spTabOf)
  (DO:Dn K mg "_law_onto" sOnto ["_law_web_here"] fO fdO) (GO:FnOk P w K mg base CX0 2 fO fdO ["_law_web_here"] spOnto)
  (DD:Dn K mg "_law_draws" sDraws ["_law_cell","_law_many","_law_base","_law_free"] fD fdD) (GD:FnOk P w K mg base CX0 1 fD fdD ["_law_cell","_law_many","_law_base","_law_free"] spDraws)
  (DTo:Dn K mg "_law_table" sTabO ["_law_order_here"] fTo fdTo) (GTo:FnOk P w K mg base CX0 1 fTo fdTo ["_law_order_here"] spTabO)
  (DM:Dn K mg "_law_mixture" sMix ["_law_tables","_law_shares"] fM fdM) (GM:FnOk P w K mg base CX0 2 fM fdM ["_law_tables","_law_shares"] spMix)
  (DJ:Dn K mg "join_tables" sJoin ["table","other"] fJ fdJ) (GJ:FnOk P w K mg base CX0 7 fJ fdJ ["table","other"] spJoin)
  (DR:Dn K mg "_law_order" sOrder aOrder fR fdR) (GR:FnOk P w K mg base CX0 2 fR fdR aOrder spOrder)
  (DOn:Dn K mg "_law_one" sOne aOne fOn fdOn) (GOn:FnOk P w K mg base CX0 5 fOn fdOn aOne spOne) :
  FnOk P w K mg base CX0 8 f fd ["_law_script"] (spLaw K):=by
 refine F.ok scLaw (fun vs H Q E h=>?_) (fun cdv A outer s H vs Q E hr h=>?_)
 ·obtain ⟨a,ns,rfl,_⟩:=h
  rfl
 ·obtain ⟨sa,ss,rfl,hS,hlen,k⟩:=h
  have r1:=hr.mono (j:=1) (by decide)
  have r2:=hr.mono (j:=2) (by decide)
  have r3:=hr.mono (j:=3) (by decide)
  have r5:=hr.mono (j:=5) (by decide)
  refine ⟨_,pss_cons (ps_asg (pe_fn DT GT r3 rfl (pa_cons (pv 0) (pa_cons pe_int pa_nil))) (pg_tup rfl (pgs_cons (pg_name (i:=1) scLaw.nd rfl (Or.inl rfl)) (pgs_cons (pg_name (i:=2) scLaw.nd rfl (Or.inl rfl)) pgs_nil))))
   (pss_cons (ps_if (pt_not (pt_val (pe_fn DA GA r5 rfl (pa_cons (pv 1) (pa_cons (pv 2) pa_nil))))) (pss_one (ps_ret pe_bl)) pss_nil)
   (pss_cons (ps_set (i:=3) scLaw.nd rfl (Or.inl rfl) (pe_cmpR op_eq (pe_op op_mod (pe_fn DC GC r1 rfl (pa_cons (pv 0) (pa_cons pe_int pa_nil))) pe_int) pe_int (nomark _)))
   (pss_cons (ps_set (i:=4) scLaw.nd rfl (Or.inl rfl) (pe_fn DTb GTb r5 rfl (pa_cons (pv 1) (pa_cons (pv 2) pa_nil))))
   (pss_cons (ps_set (i:=5) scLaw.nd rfl (Or.inr rfl) (pe_fn DO GO r2 rfl (pa_cons (pv 1) pa_nil)))
   (pss_cons (ps_for PassesOwn.never rfl (pi_list (pe_op op_cat (pe_slice sl_list (pv 0) (po_some pe_int) (po_some pe_int)) (pe_lst (pa_cons (pe_fn DC GC r1 rfl (pa_cons (pv 0) (pa_cons pe_int pa_nil))) pa_nil)))) (pg_name (i:=6) scLaw.nd rfl (Or.inr rfl))
    (pss_cons (ps_set (i:=7) scLaw.nd rfl (Or.inl rfl) (pe_fn DD GD r1 rfl (pa_cons (pv 6) (pa_cons pe_int (pa_cons pe_int (pa_cons pe_bl pa_nil))))))
    (pss_cons (ps_setLc1 (i:=8) scLaw.nd rfl (Or.inl rfl) rfl lcLaw1 rfl (pi_range1 rfl B.range (pa_cons pe_int pa_nil)) (fun _ _ _=>pe_fn DTo GTo r1 rfl (pa_cons (pe_ix (ix_listK (K:=K)) (pv 5) (pe_op op_mod (pe_op op_add (pv 6) (pe_op op_mul (pv 13) (pv 13))) (pe_callB (call_lenK (K:=K)) (by rfl) B.len boot_len (pa_cons (pv 5) pa_nil))) (fun _ _=>rfl)) pa_nil)))
    (pss_cons (ps_set (i:=9) scLaw.nd rfl (Or.inl rfl) (pe_fn DM GM r2 rfl (pa_cons (pe_op op_cat (pv 8) (pe_lst (pa_cons (pe_fn DTb GTb r5 rfl (pa_cons (pv 1) (pa_cons (pv 1) pa_nil))) pa_nil))) (pa_cons (pe_lst (pa_cons (pe_op op_add pe_int (pe_ix ix_list (pv 7) pe_int (fun _ _=>rfl))) (pa_cons (pe_ix ix_list (pv 7) pe_int (fun _ _=>rfl)) (pa_cons (pe_ix ix_list (pv 7) pe_int (fun _ _=>rfl)) (pa_cons (pe_op op_fdiv (pe_ix ix_list (pv 7) pe_int (fun _ _=>rfl)) pe_int) pa_nil))))) pa_nil))))
    (pss_cons (ps_set (i:=10) scLaw.nd rfl (Or.inl rfl) (pe_fn DJ GJ hr rfl (pa_cons (pv 9) (pa_cons (pv 4) pa_nil))))
    (pss_mid (ps_if (pt_cmpR op_eq (pe_op op_mod (pe_op op_fdiv (pe_fn DC GC r1 rfl (pa_cons (pv 0) (pa_cons pe_int pa_nil))) pe_int) pe_int) pe_int (nomark _))
     (pss_cons (ps_set (i:=11) scLaw.nd rfl (Or.inr rfl) (pe_fn DR GR r2 rfl (pa_cons (pe_fn DC GC r1 rfl (pa_cons (pv 0) (pa_cons pe_int pa_nil))) (pa_cons (pe_callB call_len_seq (by rfl) B.len boot_len (pa_cons (pe_ix ix_tup (pv 1) pe_int (fun _ _=>rfl)) pa_nil)) (pa_cons (pv 3) pa_nil)))))
     (pss_cons (ps_setLc1 (i:=12) scLaw.nd rfl (Or.inl rfl) rfl lcLaw2 rfl (pi_range1 rfl B.range (pa_cons (pe_callB call_len_seq (by rfl) B.len boot_len (pa_cons (pv 11) pa_nil)) pa_nil)) (fun _ _ _=>pe_indexK (K:=K) hr.units (pv 11) (pa_cons (pv 13) pa_nil)))
     (pss_one (ps_set (i:=10) scLaw.nd rfl (Or.inl rfl) (pe_fn DJ GJ hr rfl (pa_cons (pv 9) (pa_cons (pe_fn DTo GTo r1 rfl (pa_cons (pv 12) pa_nil)) pa_nil))))))) pss_nil)
    (pss_one (ps_if (PW.pt (pw_or (pt_not (pt_val (pe_fn DOn GOn r5 rfl (pa_cons (pv 1) (pa_cons (pv 2) (pa_cons (pv 10) pa_nil)))))) (pw_or1 (pt_not (pt_val (pe_fn DOn GOn r5 rfl (pa_cons (pv 1) (pa_cons (pv 1) (pa_cons (pv 9) pa_nil))))))))) (pss_one (ps_ret pe_bl)) pss_nil))))))))
   (pss_one (ps_ret pe_bl))))))),?_⟩
  refine ⟨_,rfl,sa,ss,6,rfl,hS,by decide,fun p w1 w2 n m hs hs' M M' H1 s1 ep W1 W2 hn hm hren y1 y2=>?_⟩
  refine ⟨p,_,rfl,SqT.of ep,rfl,_,_,rfl,_,_,rfl,rfl,?_⟩
  refine ⟨_,rfl,_,rfl,w1,w2,n,m,hs,hs',M,M',rfl,W1,W2,by omega,by omega,fun r ls H2 s2 C1 hr1=>⟨_,rfl,?_⟩⟩
  cases r with
  | false=>exact iteT (k _)
  | true =>
  refine iteF ?_
  have pm:=hr1.mp rfl
  have ll:ls.length=n+m:=by rw [←C1.len,length_append,W1.len,W2.len]
  have enm:m=n:=by
   have:=pm.length_eq
   rw [length_take,length_drop] at this
   omega
  subst enm
  have A1:Alk m hs hs' M M' ls:=alk_of W1.len W2.len W1.sq W2.sq C1 (as_of (by rw [←lot_two ll]; exact pm))
  have goE:=A1.go hm y1 y2
  have h16:m≤16:=by omega
  refine ⟨_,rfl,sa,ss,0,rfl,(s1.trans s2).seq hS,by decide,fun c0 hc0=>⟨_,_,rfl,rfl,(by show (0:Int) < 2; decide),rfl,?_⟩⟩
  generalize hfr:decide ((fun i j=>V.int (i % j)) c0 2=V.int 0)=fr
  have hfr':decide (V.int (cellV ss 0 % 2)=V.int 0)=fr:=by rw [←hc0]; exact hfr
  refine ⟨_,rfl,_,rfl,w1,w2,m,m,hs,hs',M,M',rfl,W1.same s2,W2.same s2,by omega,by omega,fun Ev l2 H3 s3 C2 gE=>?_⟩
  rw [C2.uniq C1,A1.take,even_low hm] at gE
  have gE1:=gE.grd
  have s13:=s2.trans s3
  refine ⟨_,rfl,w1,m,hs,M,rfl,W1.same s13,by omega,fun OD rs H4 s4 eO nO lO ON=>?_⟩
  have s14:=s13.trans s4
  have lrs:0 < rs.length:=List.length_pos_iff.mpr nO
  obtain ⟨ms,hms,lms⟩:=cut_ints ss (some 7) (some 11)
  refine ⟨_,rfl,_,rfl,_,rfl,sa,_,rfl,(s1.trans s14).seq hS,fun l1 hl1=>?_⟩
  rw [hms]
  have s5:Same H4 (upd H4 l1 (.lst (ms.map V.int))):=Same.upd hl1
  have e5:upd H4 l1 (.lst (ms.map V.int)) l1=some (.lst (ms.map V.int)):=upd_same
  generalize upd H4 l1 (.lst (ms.map V.int))=H5 at s5 e5 ⊢
  refine ⟨_,rfl,sa,ss,3,rfl,((s1.trans s14).trans s5).seq hS,by decide,fun c3 _=>⟨sz1,fun l2 hl2=>?_⟩⟩
  have s6:Same H5 (upd H5 l2 (.lst [.int c3])):=Same.upd hl2
  have e6:upd H5 l2 (.lst [.int c3]) l2=some (.lst (([c3]:List Int).map V.int)):=upd_same
  generalize upd H5 l2 (.lst [.int c3])=H6 at s6 e6 ⊢
  refine ⟨l1,l2,_,_,rfl,rfl,s6 _ _ e5,e6,Nat.le_of_lt (small1000 (by rw [length_map,length_map]; show ms.length+1≤1000; omega)),fun l3 hl3=>?_⟩
  rw [←map_append]
  have s7:Same H6 (upd H6 l3 (.lst ((ms++[c3]).map V.int))):=Same.upd hl3
  have e7:upd H6 l3 (.lst ((ms++[c3]).map V.int)) l3=some (.lst ((ms++[c3]).map V.int)):=upd_same
  generalize upd H6 l3 (.lst ((ms++[c3]).map V.int))=H7 at s7 e7 ⊢
  generalize ms++[c3]=cs at e7
  have s47:=(s5.trans s6).trans s7
  have s17:=s14.trans s47
  refine ⟨l3,rfl,⟨_,SqL.of e7⟩,for_list (xs:=cs.map V.int) (fun i σ H'=>∃ o6 o7 o8 o9 o10 o11 o12:Option V,σ=[some (.ref sa),some (.ref w1),some (.ref w2),some (.bl fr),some (.ref Ev),some (.ref OD),o6,o7,o8,o9,o10,o11,o12]∧Same H7 H') ⟨none,none,none,none,none,none,none,rfl,Same.refl _⟩ (fun i σ H' _ ⟨_,_,_,_,_,_,_,_,s'⟩=>SqL.of (s' _ _ e7)) ?_ ?_⟩
  ·rintro i v σ Ha hv ⟨o6,o7,o8,o9,o10,o11,o12,rfl,sa'⟩
   obtain ⟨cell,_,rfl⟩:=map_get hv
   have s4a:=s47.trans sa'
   have s1a:=s14.trans s4a
   refine ⟨_,rfl,cell,4,9,true,rfl,by decide,by decide,.inl (by decide),fun SD ds Hb hd _ sb nS eS=>?_⟩
   obtain ⟨ld,bd⟩:=hd
   have dsE:∃ d0 d1 d2 d3:Int,ds=[d0,d1,d2,d3]:=by
    match ds,ld with
    | [d0,d1,d2,d3],_=>exact ⟨d0,d1,d2,d3,rfl⟩
   obtain ⟨d0,d1,d2,d3,rfl⟩:=dsE
   have b0:=bd d0 (by simp)
   have b1:=bd d1 (by simp)
   have b2:=bd d2 (by simp)
   have b3:=bd d3 (by simp)
   have s4b:=s4a.trans sb
   have s1b:=s14.trans s4b
   refine ⟨3,rfl,by decide,by decide,fun D hD=>?_⟩
   refine lc_range (n:=3) (fun i ys H'=>∃ tq:List (Addr × (Nat→Nat→Int)),ys=tq.map (fun x=>V.ref x.1)∧tq.length=i∧Same Hb H'∧H' D=some (.lst ys)∧∀ x ∈ tq,TabD H' D x.1 (lowM m x.2 60)∧GoI m (hueF hs) (hueF hs) (ent M) (ent M) x.2 60) ⟨[],rfl,rfl,Same.upd hD,upd_same,(fun x hx=>by cases hx)⟩ (fun i ys H' _ ⟨_,_,_,_,eD,_⟩=>eD) ?_ ?_ ?_
   ·rintro j ys Hc hj ⟨tq,rfl,lq,sc,eD,hq⟩
    have ej:((0:Int)+(j:Nat))=(j:Int):=by omega
    rw [ej]
    have s4c:=s4b.trans sc
    obtain ⟨x,ex⟩:=Int.eq_ofNat_of_zero_le (Int.emod_nonneg (cell+(j:Int) * (j:Int)) (by omega:((rs.length:Nat):Int)≠0))
    have hx:x < rs.length:=by
     have:=Int.emod_lt_of_pos (cell+(j:Int) * (j:Int)) (by omega:(0:Int) < ((rs.length:Nat):Int))
     omega
    obtain ⟨r,hr'⟩:=get_lt hx
    obtain ⟨os,er,po,z1,z2⟩:=ON r (mem_of_getElem? hr')
    have ax:atI (rs.map V.ref) ((cell+(j:Int) * (j:Int)) % (((rs.map V.ref).length:Nat):Int))=some (.ref r):=by rw [length_map,ex]; exact at_ref hr'
    refine ⟨_,rfl,_,rfl,_,rfl,_,rfl,_,_,rfl,rfl,cmul_l (by omega) (by omega),_,_,rfl,rfl,_,rfl,OD,_,rfl,.inl (SqL.of (s4c _ _ eO)),?_⟩
    refine ⟨_,_,rfl,rfl,(by show (0:Int) < (((rs.map V.ref).length:Nat):Int); rw [length_map]; omega),OD,_,_,.ref r,rfl,rfl,SqL.of (s4c _ _ eO),ax,?_⟩
    refine ⟨r,m,os,rfl,s4c _ _ er,po,by omega,fun T Hd sd gT=>?_⟩
    have goT:=onto_go po z1 z2
    have eL:lowM m (ordM m os) 1=lowM m (fun u w=>60 * ordM m os u w) 60:=(low_scale (k:=60) (N:=1) (by decide) (by decide)).symm
    rw [eL] at gT
    have tD:=gT.tabD eD
    have eD':=sd _ _ eD
    refine ⟨eD',small1000 (by rw [length_map]; omega),tq++[(T,fun u w=>60 * ordM m os u w)],by rw [map_append]; rfl,by rw [length_append,lq]; rfl,(sc.trans sd).over hD,upd_same,fun y hy=>?_⟩
    rcases mem_append.mp hy with z | z
    ·exact ⟨((hq y z).1.mono sd).upd eD',(hq y z).2⟩
    ·rw [mem_singleton.mp z]
     exact ⟨tD.upd eD',goT.scale (k:=60) (by decide)⟩
   ·rintro ys Hc ⟨tq,rfl,lq,sc,eD,hq⟩
    have tqE:∃ q0 q1 q2:Addr × (Nat→Nat→Int),tq=[q0,q1,q2]:=by
     match tq,lq with
     | [q0,q1,q2],_=>exact ⟨q0,q1,q2,rfl⟩
    obtain ⟨q0,q1,q2,rfl⟩:=tqE
    have t0:=hq q0 (by simp)
    have t1:=hq q1 (by simp)
    have t2:=hq q2 (by simp)
    have s4c:=s4b.trans sc
    have s1c:=s14.trans s4c
    refine ⟨_,rfl,_,rfl,_,rfl,w1,w1,m,m,hs,hs,M,M,rfl,W1.same s1c,W1.same s1c,by omega,by omega,fun T0 l0 Hd sd C0 g0=>⟨sz1,fun L4 hL4=>?_⟩⟩
    have A0:=alk_self W1.len W1.sq C0
    rw [A0.take,even_low hm] at g0
    have go0:=A0.go hm y1 y1
    have s8:Same Hd (upd Hd L4 (.lst [.ref T0])):=Same.upd hL4
    have e8:upd Hd L4 (.lst [.ref T0]) L4=some (.lst [.ref T0]):=upd_same
    generalize upd Hd L4 (.lst [.ref T0])=He at s8 e8 ⊢
    have sde:=sd.trans s8
    refine ⟨D,L4,_,_,rfl,rfl,sde _ _ eD,e8,sz4,fun L5 hL5=>?_⟩
    have s9:Same He (upd He L5 (.lst [.ref q0.1,.ref q1.1,.ref q2.1,.ref T0])):=Same.upd hL5
    have e9:upd He L5 (.lst [.ref q0.1,.ref q1.1,.ref q2.1,.ref T0]) L5=some (.lst [.ref q0.1,.ref q1.1,.ref q2.1,.ref T0]):=upd_same
    show _
    generalize hHf:upd He L5 (.lst [.ref q0.1,.ref q1.1,.ref q2.1,.ref T0])=Hf at s9 e9
    have hHf':upd He L5 (.lst (List.map (fun x=>V.ref x.1) [q0,q1,q2]++[V.ref T0]))=Hf:=hHf
    rw [hHf']
    have scf:=sde.trans s9
    have sbf:=sc.trans scf
    have eSf:=sbf _ _ eS
    have at_:∀ (j:Nat) (d:Int),([d0,d1,d2,d3]:List Int)[j]? = some d→atI (([d0,d1,d2,d3]:List Int).map V.int) (j:Int)=some (.int d):=fun j d h=>atI_nat (by rw [getElem?_map,h]; rfl)
    refine ⟨_,rfl,SD,_,_,.int d0,rfl,rfl,SqL.of eSf,at_ 0 d0 rfl,_,_,rfl,rfl,?_⟩
    refine ⟨_,rfl,SD,_,_,.int d1,rfl,rfl,SqL.of eSf,at_ 1 d1 rfl,?_⟩
    refine ⟨_,rfl,SD,_,_,.int d2,rfl,rfl,SqL.of eSf,at_ 2 d2 rfl,?_⟩
    refine ⟨_,rfl,SD,_,_,.int d3,rfl,rfl,SqL.of eSf,at_ 3 d3 rfl,_,_,rfl,rfl,⟨by decide,by decide⟩,?_⟩
    refine ⟨sz4,fun L6 hL6=>?_⟩
    have s10:Same Hf (upd Hf L6 (.lst (([1+d0,d1,d2,d3 / 4]:List Int).map V.int))):=Same.upd hL6
    have e10:upd Hf L6 (.lst (([1+d0,d1,d2,d3 / 4]:List Int).map V.int)) L6=some (.lst (([1+d0,d1,d2,d3 / 4]:List Int).map V.int)):=upd_same
    generalize hHg:upd Hf L6 (.lst (([1+d0,d1,d2,d3 / 4]:List Int).map V.int))=Hg at s10 e10
    have hHg':upd Hf L6 (.lst [V.int (1+d0),V.int d1,V.int d2,V.int (d3 / 4)])=Hg:=hHg
    show _
    obtain ⟨Ps,ePs⟩:∃ Ps:List (Nat→Nat→Int),Ps=[q0.2,q1.2,q2.2,shF (aF l0) (bF m l0) (k60 m (aF l0))]:=⟨_,rfl⟩
    have gPs:∀ P ∈ Ps,GoI m (hueF hs) (hueF hs) (ent M) (ent M) P 60:=fun P hP=>by
     rw [ePs] at hP
     simp only [mem_cons,List.not_mem_nil,or_false] at hP
     rcases hP with rfl | rfl | rfl | rfl
     ·exact t0.2
     ·exact t1.2
     ·exact t2.2
     ·exact go0
    have sumE:([1+d0,d1,d2,d3 / 4]:List Int).sum=1+d0+d1+d2+d3 / 4:=by simp [sum_cons]; omega
    have scg:=scf.trans s10
    have sdg:=(s8.trans s9).trans s10
    have tabs:∀ (i:Nat) (t:Addr) (P:Nat→Nat→Int),[q0.1,q1.1,q2.1,T0][i]? = some t→Ps[i]? = some P→FGrd Hg t (lowM m P 60):=fun i t P h1 h2=>by
     rw [ePs] at h2
     match i,h1,h2 with
     | 0,h1,h2=>cases h1; cases h2; exact t0.1.grd.mono scg
     | 1,h1,h2=>cases h1; cases h2; exact t1.1.grd.mono scg
     | 2,h1,h2=>cases h1; cases h2; exact t2.1.grd.mono scg
     | 3,h1,h2=>cases h1; cases h2; exact g0.grd.mono sdg
    have lPs:Ps.length=4:=by rw [ePs]; rfl
    dsimp only
    rw [hHg']
    refine ⟨L5,L6,[q0.1,q1.1,q2.1,T0],Ps,[1+d0,d1,d2,d3 / 4],m,rfl,s10 _ _ e9,e10,by rw [lPs]; rfl,by rw [lPs]; rfl,by omega,by omega,by omega,tabs,fun P hP u hu w hw=>(gPs P hP).le hu hw,fun x hx=>?_,by rw [sumE]; omega,by rw [sumE]; omega,fun Hr Hh sh gH=>?_⟩
    ·simp only [mem_cons,List.not_mem_nil,or_false] at hx
     rcases hx with rfl | rfl | rfl | rfl <;> omega
    obtain ⟨tt,ett⟩:∃ tt:Int,tt=([1+d0,d1,d2,d3 / 4]:List Int).sum:=⟨_,rfl⟩
    have goH:=go_mix (h:=hueF hs) (h':=hueF hs) (M:=ent M) (M':=ent M) (n:=m) [1+d0,d1,d2,d3 / 4] Ps (by rw [lPs]; rfl) (fun x hx=>by
     simp only [mem_cons,List.not_mem_nil,or_false] at hx
     rcases hx with rfl | rfl | rfl | rfl <;> omega) gPs
    rw [←ett] at gH goH
    have tt1:1≤tt∧tt≤27:=by rw [ett,sumE]; omega
    generalize mixP [1+d0,d1,d2,d3 / 4] Ps=PM at gH goH
    have gH1:=gH.grd
    have n60:(0:Int) < 60 * tt:=by omega
    have p20:(2:Nat) ^ 20=1048576:=rfl
    have b60:(60 * tt).natAbs < 2 ^ 20:=by omega
    obtain ⟨lH,rH⟩:=lowM_rows goH n60 b60
    obtain ⟨lV,rV⟩:=lowM_rows goE (by decide) (by decide)
    have s4h:=(s4c.trans scg).trans sh
    have s3h:=s4.trans s4h
    have s1h:=s14.trans s4h
    refine ⟨_,rfl,_,rfl,Hr,Ev,_,_,m,rfl,gH1,gE1.mono s3h,by rw [lH]; exact h16,by rw [lV]; exact h16,h16,fun f hf=>⟨by rw [(rH f hf).1,lV],fun z hz=>((rH f hf).2 z hz).1⟩,fun g hg=>⟨(rV g hg).1,fun z hz=>((rV g hg).2 z hz).1⟩,(fun z=>by rw [←lV,z]; rfl),fun J Hi si gJ=>?_⟩
    rw [join_low n60 (by decide)] at gJ
    have gJ1:=gJ.grd
    have goJ:=goH.mul goE
    refine ⟨fun σ' H'=>∃ (o11 o12:Option V) (J:Addr) (PJ:Nat→Nat→Int) (NJ:Int),σ'=[some (.ref sa),some (.ref w1),some (.ref w2),some (.bl fr),some (.ref Ev),some (.ref OD),some (.int cell),some (.ref SD),some (.ref D),some (.ref Hr),some (.ref J),o11,o12]∧Same Hh H'∧FGrd H' J (lowM m PJ NJ)∧0 < NJ∧NJ.natAbs < 2 ^ 20∧GoI m (hueF hs) (hueF hs') (ent M) (ent M') PJ NJ,?_,?_⟩
    ·have s1i:=s1h.trans si
     refine ⟨_,rfl,sa,ss,0,rfl,(s1.trans s1i).seq hS,by decide,fun c0' hc0'=>⟨_,_,rfl,rfl,⟨by decide,by decide⟩,_,_,rfl,rfl,(by show (0:Int) < 5; decide),rfl,_,rfl,?_⟩⟩
     by_cases way:c0' / 14 % 5=1
     ·refine itDP (by show V.int (c0' / 14 % 5)=_; rw [way]) ?_
      obtain ⟨os,po,eos,_,ehs,eM⟩:=hren (by rw [←hc0']; exact way)
      obtain ⟨hA,rA,rsA,v1,v2,v3,RA⟩:=(W1.same s1i).wr.ex
      refine ⟨_,rfl,sa,ss,4,rfl,(s1.trans s1i).seq hS,by decide,fun c4 hc4=>?_⟩
      refine ⟨_,rfl,w1,_,_,_,rfl,rfl,SqT.of v1,rfl,hA,_,rfl,.inl (SqL.of v2),?_⟩
      rw [length_map,W1.len]
      refine ⟨_,rfl,c4,m,fr,rfl,by omega,fun O os' Hk sk nOk eOk po' eos'=>?_⟩
      have eoo:os'=os:=by rw [eos',eos,hc4,hfr']
      rw [eoo] at eOk
      have lo:=os_len po
      refine ⟨_,rfl,O,_,rfl,.inl (SqL.of eOk),?_⟩
      rw [length_map,lo]
      refine ⟨(m:Int),rfl,by omega,by omega,fun BD hBD=>?_⟩
      rw [Int.toNat_natCast]
      refine lc_range (n:=m) (fun i ys H'=>ys=((bakO m os).take i).map V.int∧H'=upd Hk BD (.lst ys)) ⟨rfl,rfl⟩ (fun i ys H' _ ⟨_,e⟩=>by rw [e]; exact upd_same) ?_ ?_ ?_
      ·rintro j ys Hl hj ⟨rfl,rfl⟩
       have ej:((0:Int)+(j:Nat))=(j:Int):=by omega
       rw [ej]
       have mj:(j:Int) ∈ os:=po.mem_iff.mpr (mem_of_getElem? (rI_get hj))
       have sl:Same Hk (upd Hk BD (.lst (((bakO m os).take j).map V.int))):=Same.upd hBD
       refine ⟨_,rfl,.inl ⟨rfl,_,SqL.of (sl _ _ eOk)⟩,_,rfl,O,_,.int (j:Int),os.map PyData.int,PyData.int (j:Int),rfl,rfl,sl _ _ eOk,das_ints _,.int _,⟨kdInt.layAll _,rfl,Nat.zero_le _⟩,?_,?_⟩
       ·rw [kdInt.idx,length_map]
        exact idxOf_lt_length_iff.mpr mj
       ·rw [kdInt.idx]
        have bj:(bakO m os)[j]? = some ((os.idxOf (j:Int):Nat):Int):=by unfold bakO; rw [getElem?_map,rI_get hj]; rfl
        refine ⟨upd_same,small1000 (by rw [length_map,length_take]; omega),?_,by rw [upd_upd]⟩
        rw [take_snoc bj,map_append]
        rfl
      ·rintro ys Hl ⟨rfl,rfl⟩
       have lb:(bakO m os).length=m:=by unfold bakO; rw [length_map,rI_len]
       rw [take_of_length_le (by omega)]
       have sl:Same Hk (upd Hk BD (.lst ((bakO m os).map V.int))):=Same.upd hBD
       have el:upd Hk BD (.lst ((bakO m os).map V.int)) BD=some (.lst ((bakO m os).map V.int)):=upd_same
       generalize upd Hk BD (.lst ((bakO m os).map V.int))=Hl at sl el ⊢
       refine ⟨_,rfl,_,rfl,BD,m,bakO m os,rfl,el,bakO_perm po,by omega,fun T Hm sm gT=>?_⟩
       have goB:=bak_go (hs:=hs) (M:=M) po
       rw [←ehs,←eM] at goB
       obtain ⟨lB,rB⟩:=lowM_rows goB (by decide) (by decide)
       have shm:=((si.trans sk).trans sl).trans sm
       refine ⟨Hr,T,_,_,m,rfl,gH1.mono shm,gT.grd,by rw [lH]; exact h16,by rw [lB]; exact h16,h16,fun f hf=>⟨by rw [(rH f hf).1,lB],fun z hz=>((rH f hf).2 z hz).1⟩,fun g hg=>⟨(rB g hg).1,fun z hz=>((rB g hg).2 z hz).1⟩,(fun z=>by rw [←lB,z]; rfl),fun J2 Ho so gJ2=>?_⟩
       rw [join_low n60 (by decide)] at gJ2
       exact ⟨_,_,J2,_,_,rfl,shm.trans so,gJ2.grd,by omega,by omega,goH.mul goB⟩
      ·rintro σ H' Q1 Q2 hq ⟨v,e,ty,v2,e2,l,xs,y,dd,d,a1,a2,a3,a4,a5,a6,a7,g⟩
       exact ⟨v,e,ty,v2,e2,l,xs,y,dd,d,a1,a2,a3,a4,a5,a6,a7,hq _ _ g⟩
     ·refine itDN (fun z=>way (V.int.inj z)) ?_
      exact ⟨_,_,J,_,_,rfl,si,gJ1,by omega,by omega,goJ⟩
    ·rintro σ' Hk ⟨o11',o12',J,PJ,NJ,rfl,sk,gJ,nJ,bJ,goJ⟩
     have s1k:=s1h.trans sk
     refine ⟨_,rfl,_,rfl,_,rfl,w1,w2,J,m,hs,hs',M,M',PJ,NJ,rfl,W1.same s1k,W2.same s1k,y1,y2,by omega,gJ,nJ,bJ,goJ,fun Hl sl=>⟨_,rfl,iteF ?_⟩⟩
     have s1l:=s1k.trans sl
     refine ⟨_,rfl,_,rfl,_,rfl,w1,w1,Hr,m,hs,hs,M,M,PM,60 * tt,rfl,W1.same s1l,W1.same s1l,y1,y1,by omega,gH1.mono (sk.trans sl),n60,b60,goH,fun Hm sm=>⟨_,rfl,iteF ?_⟩⟩
     have s7h:Same H7 Hh:=(((sa'.trans sb).trans sc).trans scg).trans sh
     exact ⟨_,_,_,_,_,_,_,rfl,((s7h.trans sk).trans sl).trans sm⟩
   ·rintro σ H' Q1 Q2 hq ⟨v,e,v1,e1,v2,e2,v3,e3,i1,j1,a1,a2,a3,i2,j2,a4,a5,v4,e4,p4,y4,b1,b2,i3,j3,b3,b4,b5,p5,xs5,i5,x5,c1,c2,c3,c4,oA,nn,os,d1,d2,d3,d4,g⟩
    exact ⟨v,e,v1,e1,v2,e2,v3,e3,i1,j1,a1,a2,a3,i2,j2,a4,a5,v4,e4,p4,y4,b1,b2,i3,j3,b3,b4,b5,p5,xs5,i5,x5,c1,c2,c3,c4,oA,nn,os,d1,d2,d3,d4,fun D H2 s2 g2=>hq _ _ (g D H2 s2 g2)⟩
  ·rintro σ Ha ⟨o6,o7,o8,o9,o10,o11,o12,rfl,sa'⟩
   exact k Ha
end
structure At (K:Frag) (x:Str) (st:Stmt) (f:Addr) (fd:FuncData):Prop where
 fn:Fun K x x st f fd
 ns:PySem.W.nsIn K mainGlobals x=some (some (.ref f))
theorem at_mk {K:Frag} {x:Str} {st:Stmt} {f:Addr} {oc:Value} {od an:Option Addr} {osl:Array (Option Value)} {kV doc pm cdv ct:Value} (a:PySem.W.nsIn K mainGlobals x=some (some (.ref f))) (l:K.lookup f=some ⟨oc,od,.func (PySem.W.fnOf x x (defArgs st) (defBody st) (defScope st) .none kV doc pm an cdv ct),osl⟩)
  (c:PySem.W.codeIn K cdv x=true) (k:PySem.W.keepIn K (.ref f)=true):∃ f fd,At K x st f fd:=⟨f,_,fun_mk l c k,a⟩
theorem kit_ref {K:Frag} {CN C:Addr} {cd:ClassData} {b:Bool} (h0:(Value.ref CN == Value.ref C)=false) (h1:PySem.W.clsIn K C=some cd) (h2:PySem.W.typeIn K (.ref C)=some (.type "type")) (h3:PySem.W.subIn K (.ref CN) (.ref C)=some b):PySem.W.kitOne K (.ref CN) (.ref C)=some b:=by
 unfold PySem.W.kitOne PySem.W.kitCls
 rw [if_neg (by rw [h0]; decide)]
 show (if ((PySem.W.clsIn K C).isSome && PySem.W.typeIn K (.ref C) == some (.type "type"))=true then PySem.W.subIn K (.ref CN) (.ref C) else none)=some b
 rw [h1,h2,h3]
 rfl
theorem kit_ty {K:Frag} {CN:Addr} {T:String} {b:Bool} (h0:(Value.ref CN == Value.type T)=false) (h1:PySem.W.kitMeta T=true) (h3:PySem.W.subIn K (.ref CN) (.type T)=some b):PySem.W.kitOne K (.ref CN) (.type T)=some b:=by
 unfold PySem.W.kitOne PySem.W.kitCls
 rw [if_neg (by rw [h0]; decide)]
 show (if PySem.W.kitMeta T=true then PySem.W.subIn K (.ref CN) (.type T) else none)=some b
 rw [if_pos h1,h3]
theorem all_mk {l:PySem.W.OpenLaw} {w:World} {K:Frag} {h:Heap} {mg:Str→Option Value} {fa fL:Addr} (X:K.In h) (G:h.Ns mainGlobals mg) (hfa:mg "law" = some (.ref fa)) (A0:∃ f fd,At K "greatest_divisor" sGd f fd) (A1:∃ f fd,At K "fraction_of" sFr f fd) (A2:∃ f fd,At K "sum_of_two" sSum2 f fd) (A3:∃ f fd,At K "product_of" sMul2 f fd) (A4:∃ f fd,At K "sum_of_all" sSumAll f fd) (A5:∃ f fd,At K "common_bottom" sBottom f fd) (A6:∃ f fd,At K "top_over" sTopOver f fd) (A7:∃ f fd,At K "column_of" sCol f fd) (A8:∃ f fd,At K "columns_of" sCols f fd) (A9:∃ f fd,At K "sum_of_products" sDot f fd) (A10:∃ f fd,At K "sums_with_each" sEach f fd) (A11:∃ f fd,At K "product_of_grids" sProd f fd) (A12:∃ f fd,At K "in_one_list" sInOne f fd) (A13:∃ f fd,At K "in_square" sInSq f fd) (A14:∃ f fd,At K "is_square" sIsSq f fd) (A15:∃ f fd,At K "side_by_side" sSide f fd) (A16:∃ f fd,At K "numbered" sNumbered f fd) (A17:∃ f fd,At K "sums_to_lots" sSums f fd) (A18:∃ f fd,At K "split_up" sSplit f fd) (A19:∃ f fd,At K "coarsest_parting" sCoarsest f fd) (A20:∃ f fd,At K "coarsest_together" sTogether f fd) (A21:∃ f fd,At K "part_alike" sAlike f fd) (A22:∃ f fd,At K "come_to" sCome f fd) (A23:∃ f fd,At K "are_shared_out" sShared f fd) (A24:∃ f fd,At K "keeps_hue" sKeepsHue f fd) (A25:∃ f fd,At K "keep_hues" sKeepHues f fd) (A26:∃ f fd,At K "goes_through" sGoes f fd) (A27:∃ f fd,At K "shares_of_lot" sLotSh f fd) (A28:∃ f fd,At K "table_of" sTabOf f fd) (A29:∃ f fd,At K "joined_share" sJShare f fd) (A30:∃ f fd,At K "joined_row" sJRow f fd) (A31:∃ f fd,At K "join_tables" sJoin f fd) (A32:∃ f fd,At K "merged" sMerged f fd) (A33:∃ f fd,At K "lots_of" sLotsOf f fd) (A34:∃ f fd,At K "_law_cell_at" sCellAt f fd) (A35:∃ f fd,At K "_law_draws" sDraws f fd) (A36:∃ f fd,At K "_law_square" sSquare f fd) (A37:∃ f fd,At K "_law_web" sWebP f fd) (A38:∃ f fd,At K "_law_order" sOrder f fd) (A39:∃ f fd,At K "_law_lift" sLift f fd) (A40:∃ f fd,At K "_law_renamed" sLRen f fd) (A41:∃ f fd,At K "_law_two" sTwo f fd) (A42:∃ f fd,At K "_law_lowest" sLow f fd) (A43:∃ f fd,At K "_law_orders" sOrders f fd) (A44:∃ f fd,At K "_law_onto" sOnto f fd) (A45:∃ f fd,At K "_law_table" sTabO f fd) (A46:∃ f fd,At K "_law_mixture" sMix f fd) (A47:∃ f fd,At K "_law_lots" sLLots f fd) (A48:∃ f fd,At K "_law_even" sLEven f fd) (A49:∃ f fd,At K "_law_within" sWithin f fd) (A50:∃ f fd,At K "_law_one" sOne f fd)
  {oc kV doc pm cdv ct:Value} {od an:Option Addr} {osl:Array (Option Value)} (aL:PySem.W.nsIn K mainGlobals "law" = some (some (.ref fL))) (lL:K.lookup fL=some ⟨oc,od,.func (PySem.W.fnOf "law" "law" (defArgs sLaw) (defBody sLaw) (defScope sLaw) .none kV doc pm an cdv ct),osl⟩) (cL:PySem.W.codeIn K cdv "law" = true) (kL:PySem.W.keepIn K (.ref fL)=true)
  (z_len:PySem.W.nsIn K mainGlobals "len" = some none) (z_range:PySem.W.nsIn K mainGlobals "range" = some none) (z_int:PySem.W.nsIn K mainGlobals "int" = some none) (z_sorted:PySem.W.nsIn K mainGlobals "sorted" = some none) (z_enumerate:PySem.W.nsIn K mainGlobals "enumerate" = some none) (z_sum:PySem.W.nsIn K mainGlobals "sum" = some none) (z_zip:PySem.W.nsIn K mainGlobals "zip" = some none) (z_list:PySem.W.nsIn K mainGlobals "list" = some none) (z_isinstance:PySem.W.nsIn K mainGlobals "isinstance" = some none) (z_bool:PySem.W.nsIn K mainGlobals "bool" = some none) (z_max:PySem.W.nsIn K mainGlobals "max" = some none) (z_min:PySem.W.nsIn K mainGlobals "min" = some none) (z_abs:PySem.W.nsIn K mainGlobals "abs" = some none) (z_all:PySem.W.nsIn K mainGlobals "all" = some none) (z_ValueError:PySem.W.nsIn K mainGlobals "ValueError" = some none) (z_tuple:PySem.W.nsIn K mainGlobals "tuple" = some none) :
  ∃ fd:FuncData,(∀ (s:Shared) (v:Value),BindsTo s fd ⟨[v],[]⟩ [("_law_script",v)])∧∀ base:Heap,K.In base→base.Ns mainGlobals mg→FnOk l.prog w K mg base CX0 8 fa fd ["_law_script"] (spLaw K):=by
 have e:=hfa.symm.trans (mg_of X G aL)
 cases e
 obtain ⟨f0,fd0,T0⟩:=A0
 have D0:Dn K mg "greatest_divisor" sGd ["number","other"] f0 fd0:=⟨T0.fn,mg_of X G T0.ns,T0.fn.binds fun _ _ _ _ _ _ us hl=>match us,hl with | [_,_],_=>rfl⟩
 obtain ⟨f1,fd1,T1⟩:=A1
 have D1:Dn K mg "fraction_of" sFr ["top","bottom"] f1 fd1:=⟨T1.fn,mg_of X G T1.ns,T1.fn.binds fun _ _ _ _ _ _ us hl=>match us,hl with | [_,_],_=>rfl⟩
 obtain ⟨f2,fd2,T2⟩:=A2
 have D2:Dn K mg "sum_of_two" sSum2 ["f","g"] f2 fd2:=⟨T2.fn,mg_of X G T2.ns,T2.fn.binds fun _ _ _ _ _ _ us hl=>match us,hl with | [_,_],_=>rfl⟩
 obtain ⟨f3,fd3,T3⟩:=A3
 have D3:Dn K mg "product_of" sMul2 ["f","g"] f3 fd3:=⟨T3.fn,mg_of X G T3.ns,T3.fn.binds fun _ _ _ _ _ _ us hl=>match us,hl with | [_,_],_=>rfl⟩
 obtain ⟨f4,fd4,T4⟩:=A4
 have D4:Dn K mg "sum_of_all" sSumAll ["fractions"] f4 fd4:=⟨T4.fn,mg_of X G T4.ns,T4.fn.binds fun _ _ _ _ _ _ us hl=>match us,hl with | [_],_=>rfl⟩
 obtain ⟨f5,fd5,T5⟩:=A5
 have D5:Dn K mg "common_bottom" sBottom ["fractions"] f5 fd5:=⟨T5.fn,mg_of X G T5.ns,T5.fn.binds fun _ _ _ _ _ _ us hl=>match us,hl with | [_],_=>rfl⟩
 obtain ⟨f6,fd6,T6⟩:=A6
 have D6:Dn K mg "top_over" sTopOver ["f","bottom"] f6 fd6:=⟨T6.fn,mg_of X G T6.ns,T6.fn.binds fun _ _ _ _ _ _ us hl=>match us,hl with | [_,_],_=>rfl⟩
 obtain ⟨f7,fd7,T7⟩:=A7
 have D7:Dn K mg "column_of" sCol ["rows","place"] f7 fd7:=⟨T7.fn,mg_of X G T7.ns,T7.fn.binds fun _ _ _ _ _ _ us hl=>match us,hl with | [_,_],_=>rfl⟩
 obtain ⟨f8,fd8,T8⟩:=A8
 have D8:Dn K mg "columns_of" sCols ["rows"] f8 fd8:=⟨T8.fn,mg_of X G T8.ns,T8.fn.binds fun _ _ _ _ _ _ us hl=>match us,hl with | [_],_=>rfl⟩
 obtain ⟨f9,fd9,T9⟩:=A9
 have D9:Dn K mg "sum_of_products" sDot ["numbers","others"] f9 fd9:=⟨T9.fn,mg_of X G T9.ns,T9.fn.binds fun _ _ _ _ _ _ us hl=>match us,hl with | [_,_],_=>rfl⟩
 obtain ⟨f10,fd10,T10⟩:=A10
 have D10:Dn K mg "sums_with_each" sEach ["numbers","rows"] f10 fd10:=⟨T10.fn,mg_of X G T10.ns,T10.fn.binds fun _ _ _ _ _ _ us hl=>match us,hl with | [_,_],_=>rfl⟩
 obtain ⟨f11,fd11,T11⟩:=A11
 have D11:Dn K mg "product_of_grids" sProd ["rows","others"] f11 fd11:=⟨T11.fn,mg_of X G T11.ns,T11.fn.binds fun _ _ _ _ _ _ us hl=>match us,hl with | [_,_],_=>rfl⟩
 obtain ⟨f12,fd12,T12⟩:=A12
 have D12:Dn K mg "in_one_list" sInOne ["rows"] f12 fd12:=⟨T12.fn,mg_of X G T12.ns,T12.fn.binds fun _ _ _ _ _ _ us hl=>match us,hl with | [_],_=>rfl⟩
 obtain ⟨f13,fd13,T13⟩:=A13
 have D13:Dn K mg "in_square" sInSq ["things","size"] f13 fd13:=⟨T13.fn,mg_of X G T13.ns,T13.fn.binds fun _ _ _ _ _ _ us hl=>match us,hl with | [_,_],_=>rfl⟩
 obtain ⟨f14,fd14,T14⟩:=A14
 have D14:Dn K mg "is_square" sIsSq ["rows","size"] f14 fd14:=⟨T14.fn,mg_of X G T14.ns,T14.fn.binds fun _ _ _ _ _ _ us hl=>match us,hl with | [_,_],_=>rfl⟩
 obtain ⟨f15,fd15,T15⟩:=A15
 have D15:Dn K mg "side_by_side" sSide ["web","other"] f15 fd15:=⟨T15.fn,mg_of X G T15.ns,T15.fn.binds fun _ _ _ _ _ _ us hl=>match us,hl with | [_,_],_=>rfl⟩
 obtain ⟨f16,fd16,T16⟩:=A16
 have D16:Dn K mg "numbered" sNumbered ["marks"] f16 fd16:=⟨T16.fn,mg_of X G T16.ns,T16.fn.binds fun _ _ _ _ _ _ us hl=>match us,hl with | [_],_=>rfl⟩
 obtain ⟨f17,fd17,T17⟩:=A17
 have D17:Dn K mg "sums_to_lots" sSums ["weights","lots"] f17 fd17:=⟨T17.fn,mg_of X G T17.ns,T17.fn.binds fun _ _ _ _ _ _ us hl=>match us,hl with | [_,_],_=>rfl⟩
 obtain ⟨f18,fd18,T18⟩:=A18
 have D18:Dn K mg "split_up" sSplit ["web","lots"] f18 fd18:=⟨T18.fn,mg_of X G T18.ns,T18.fn.binds fun _ _ _ _ _ _ us hl=>match us,hl with | [_,_],_=>rfl⟩
 obtain ⟨f19,fd19,T19⟩:=A19
 have D19:Dn K mg "coarsest_parting" sCoarsest ["web"] f19 fd19:=⟨T19.fn,mg_of X G T19.ns,T19.fn.binds fun _ _ _ _ _ _ us hl=>match us,hl with | [_],_=>rfl⟩
 obtain ⟨f20,fd20,T20⟩:=A20
 have D20:Dn K mg "coarsest_together" sTogether ["web","other"] f20 fd20:=⟨T20.fn,mg_of X G T20.ns,T20.fn.binds fun _ _ _ _ _ _ us hl=>match us,hl with | [_,_],_=>rfl⟩
 obtain ⟨f21,fd21,T21⟩:=A21
 have D21:Dn K mg "part_alike" sAlike ["web","other"] f21 fd21:=⟨T21.fn,mg_of X G T21.ns,T21.fn.binds fun _ _ _ _ _ _ us hl=>match us,hl with | [_,_],_=>rfl⟩
 obtain ⟨f22,fd22,T22⟩:=A22
 have D22:Dn K mg "come_to" sCome ["rows","whole"] f22 fd22:=⟨T22.fn,mg_of X G T22.ns,T22.fn.binds fun _ _ _ _ _ _ us hl=>match us,hl with | [_,_],_=>rfl⟩
 obtain ⟨f23,fd23,T23⟩:=A23
 have D23:Dn K mg "are_shared_out" sShared ["shares","whole"] f23 fd23:=⟨T23.fn,mg_of X G T23.ns,T23.fn.binds fun _ _ _ _ _ _ us hl=>match us,hl with | [_,_],_=>rfl⟩
 obtain ⟨f24,fd24,T24⟩:=A24
 have D24:Dn K mg "keeps_hue" sKeepsHue ["hue","hues_there","shares"] f24 fd24:=⟨T24.fn,mg_of X G T24.ns,T24.fn.binds fun _ _ _ _ _ _ us hl=>match us,hl with | [_,_,_],_=>rfl⟩
 obtain ⟨f25,fd25,T25⟩:=A25
 have D25:Dn K mg "keep_hues" sKeepHues ["hues","hues_there","shares"] f25 fd25:=⟨T25.fn,mg_of X G T25.ns,T25.fn.binds fun _ _ _ _ _ _ us hl=>match us,hl with | [_,_,_],_=>rfl⟩
 obtain ⟨f26,fd26,T26⟩:=A26
 have D26:Dn K mg "goes_through" sGoes ["web","other","table"] f26 fd26:=⟨T26.fn,mg_of X G T26.ns,T26.fn.binds fun _ _ _ _ _ _ us hl=>match us,hl with | [_,_,_],_=>rfl⟩
 obtain ⟨f27,fd27,T27⟩:=A27
 have D27:Dn K mg "shares_of_lot" sLotSh ["lot","lots","lots_there"] f27 fd27:=⟨T27.fn,mg_of X G T27.ns,T27.fn.binds fun _ _ _ _ _ _ us hl=>match us,hl with | [_,_,_],_=>rfl⟩
 obtain ⟨f28,fd28,T28⟩:=A28
 have D28:Dn K mg "table_of" sTabOf ["web","other"] f28 fd28:=⟨T28.fn,mg_of X G T28.ns,T28.fn.binds fun _ _ _ _ _ _ us hl=>match us,hl with | [_,_],_=>rfl⟩
 obtain ⟨f29,fd29,T29⟩:=A29
 have D29:Dn K mg "joined_share" sJShare ["row","column"] f29 fd29:=⟨T29.fn,mg_of X G T29.ns,T29.fn.binds fun _ _ _ _ _ _ us hl=>match us,hl with | [_,_],_=>rfl⟩
 obtain ⟨f30,fd30,T30⟩:=A30
 have D30:Dn K mg "joined_row" sJRow ["row","columns"] f30 fd30:=⟨T30.fn,mg_of X G T30.ns,T30.fn.binds fun _ _ _ _ _ _ us hl=>match us,hl with | [_,_],_=>rfl⟩
 obtain ⟨f31,fd31,T31⟩:=A31
 have D31:Dn K mg "join_tables" sJoin ["table","other"] f31 fd31:=⟨T31.fn,mg_of X G T31.ns,T31.fn.binds fun _ _ _ _ _ _ us hl=>match us,hl with | [_,_],_=>rfl⟩
 obtain ⟨f32,fd32,T32⟩:=A32
 have D32:Dn K mg "merged" sMerged ["marks","mark","other"] f32 fd32:=⟨T32.fn,mg_of X G T32.ns,T32.fn.binds fun _ _ _ _ _ _ us hl=>match us,hl with | [_,_,_],_=>rfl⟩
 obtain ⟨f33,fd33,T33⟩:=A33
 have D33:Dn K mg "lots_of" sLotsOf ["table"] f33 fd33:=⟨T33.fn,mg_of X G T33.ns,T33.fn.binds fun _ _ _ _ _ _ us hl=>match us,hl with | [_],_=>rfl⟩
 obtain ⟨f34,fd34,T34⟩:=A34
 have D34:Dn K mg "_law_cell_at" sCellAt ["_law_script","_law_k"] f34 fd34:=⟨T34.fn,mg_of X G T34.ns,T34.fn.binds fun _ _ _ _ _ _ us hl=>match us,hl with | [_,_],_=>rfl⟩
 obtain ⟨f35,fd35,T35⟩:=A35
 have D35:Dn K mg "_law_draws" sDraws ["_law_cell","_law_many","_law_base","_law_free"] f35 fd35:=⟨T35.fn,mg_of X G T35.ns,T35.fn.binds fun _ _ _ _ _ _ us hl=>match us,hl with | [_,_,_,_],_=>rfl⟩
 obtain ⟨f36,fd36,T36⟩:=A36
 have D36:Dn K mg "_law_square" sSquare ["_law_many","_law_draws_here","_law_way"] f36 fd36:=⟨T36.fn,mg_of X G T36.ns,T36.fn.binds fun _ _ _ _ _ _ us hl=>match us,hl with | [_,_,_],_=>rfl⟩
 obtain ⟨f37,fd37,T37⟩:=A37
 have D37:Dn K mg "_law_web" sWebP ["_law_script","_law_at","_law_many","_law_free"] f37 fd37:=⟨T37.fn,mg_of X G T37.ns,T37.fn.binds fun _ _ _ _ _ _ us hl=>match us,hl with | [_,_,_,_],_=>rfl⟩
 obtain ⟨f38,fd38,T38⟩:=A38
 have D38:Dn K mg "_law_order" sOrder ["_law_cell","_law_many","_law_free"] f38 fd38:=⟨T38.fn,mg_of X G T38.ns,T38.fn.binds fun _ _ _ _ _ _ us hl=>match us,hl with | [_,_,_],_=>rfl⟩
 obtain ⟨f39,fd39,T39⟩:=A39
 have D39:Dn K mg "_law_lift" sLift ["_law_web_here","_law_cell","_law_free"] f39 fd39:=⟨T39.fn,mg_of X G T39.ns,T39.fn.binds fun _ _ _ _ _ _ us hl=>match us,hl with | [_,_,_],_=>rfl⟩
 obtain ⟨f40,fd40,T40⟩:=A40
 have D40:Dn K mg "_law_renamed" sLRen ["_law_web_here","_law_order_here"] f40 fd40:=⟨T40.fn,mg_of X G T40.ns,T40.fn.binds fun _ _ _ _ _ _ us hl=>match us,hl with | [_,_],_=>rfl⟩
 obtain ⟨f41,fd41,T41⟩:=A41
 have D41:Dn K mg "_law_two" sTwo ["_law_script","_law_most"] f41 fd41:=⟨T41.fn,mg_of X G T41.ns,T41.fn.binds fun _ _ _ _ _ _ us hl=>match us,hl with | [_,_],_=>rfl⟩
 obtain ⟨f42,fd42,T42⟩:=A42
 have D42:Dn K mg "_law_lowest" sLow ["_law_top","_law_bottom"] f42 fd42:=⟨T42.fn,mg_of X G T42.ns,T42.fn.binds fun _ _ _ _ _ _ us hl=>match us,hl with | [_,_],_=>rfl⟩
 obtain ⟨f43,fd43,T43⟩:=A43
 have D43:Dn K mg "_law_orders" sOrders ["_law_many"] f43 fd43:=⟨T43.fn,mg_of X G T43.ns,T43.fn.binds fun _ _ _ _ _ _ us hl=>match us,hl with | [_],_=>rfl⟩
 obtain ⟨f44,fd44,T44⟩:=A44
 have D44:Dn K mg "_law_onto" sOnto ["_law_web_here"] f44 fd44:=⟨T44.fn,mg_of X G T44.ns,T44.fn.binds fun _ _ _ _ _ _ us hl=>match us,hl with | [_],_=>rfl⟩
 obtain ⟨f45,fd45,T45⟩:=A45
 have D45:Dn K mg "_law_table" sTabO ["_law_order_here"] f45 fd45:=⟨T45.fn,mg_of X G T45.ns,T45.fn.binds fun _ _ _ _ _ _ us hl=>match us,hl with | [_],_=>rfl⟩
 obtain ⟨f46,fd46,T46⟩:=A46
 have D46:Dn K mg "_law_mixture" sMix ["_law_tables","_law_shares"] f46 fd46:=⟨T46.fn,mg_of X G T46.ns,T46.fn.binds fun _ _ _ _ _ _ us hl=>match us,hl with | [_,_],_=>rfl⟩
 obtain ⟨f47,fd47,T47⟩:=A47
 have D47:Dn K mg "_law_lots" sLLots ["_law_table_here"] f47 fd47:=⟨T47.fn,mg_of X G T47.ns,T47.fn.binds fun _ _ _ _ _ _ us hl=>match us,hl with | [_],_=>rfl⟩
 obtain ⟨f48,fd48,T48⟩:=A48
 have D48:Dn K mg "_law_even" sLEven ["_law_webs","_law_tables"] f48 fd48:=⟨T48.fn,mg_of X G T48.ns,T48.fn.binds fun _ _ _ _ _ _ us hl=>match us,hl with | [_,_],_=>rfl⟩
 obtain ⟨f49,fd49,T49⟩:=A49
 have D49:Dn K mg "_law_within" sWithin ["_law_finer","_law_coarser"] f49 fd49:=⟨T49.fn,mg_of X G T49.ns,T49.fn.binds fun _ _ _ _ _ _ us hl=>match us,hl with | [_,_],_=>rfl⟩
 obtain ⟨f50,fd50,T50⟩:=A50
 have D50:Dn K mg "_law_one" sOne ["_law_web_here","_law_other","_law_table_here"] f50 fd50:=⟨T50.fn,mg_of X G T50.ns,T50.fn.binds fun _ _ _ _ _ _ us hl=>match us,hl with | [_,_,_],_=>rfl⟩
 have FL:=fun_mk (st:=sLaw) lL cL kL
 have BL:BltL mg:=⟨mg_none_of X G z_len,mg_none_of X G z_range,mg_none_of X G z_int,mg_none_of X G z_sorted,mg_none_of X G z_enumerate,mg_none_of X G z_sum,mg_none_of X G z_zip,mg_none_of X G z_list,mg_none_of X G z_isinstance,mg_none_of X G z_bool,mg_none_of X G z_max⟩
 have BR:BltR mg:=⟨mg_none_of X G z_abs,mg_none_of X G z_len,mg_none_of X G z_sum,mg_none_of X G z_zip,mg_none_of X G z_range,mg_none_of X G z_enumerate,mg_none_of X G z_isinstance,mg_none_of X G z_ValueError,mg_none_of X G z_int,mg_none_of X G z_bool,mg_none_of X G z_list,mg_none_of X G z_tuple⟩
 have BG:BltG mg:=⟨mg_none_of X G z_len,mg_none_of X G z_sum,mg_none_of X G z_zip,mg_none_of X G z_range,mg_none_of X G z_all⟩
 have BP:BltP mg:=⟨mg_none_of X G z_len,mg_none_of X G z_zip,mg_none_of X G z_list,mg_none_of X G z_tuple⟩
 refine ⟨PySem.W.fnOf "law" "law" (defArgs sLaw) (defBody sLaw) (defScope sLaw) .none kV doc pm an cdv ct,fun s v=>.of_eq rfl,fun base _ _=>?_⟩
 have GGd:=ok_gd (P:=l.prog) (w:=w) (base:=base) BR D0.fn
 have GFr:=ok_fr BR D1.fn D0 GGd
 have GS2:=ok_sum2 D2.fn D1 GFr
 have GM2:=ok_mul2 D3.fn D1 GFr
 have GSA:=ok_sumAll D4.fn D2 GS2
 have GBo:=ok_bottom D5.fn D0 GGd
 have GTp:=ok_topOver (P:=l.prog) (w:=w) (base:=base) (mg:=mg) D6.fn
 have GCl:=ok_col (P:=l.prog) (w:=w) (base:=base) (mg:=mg) D7.fn
 have GCs:=ok_cols BR D8.fn D7 GCl
 have GDo:=ok_dot (P:=l.prog) (w:=w) (base:=base) BR D9.fn
 have GEa:=ok_eachG D10.fn D9 GDo
 have GPg:=ok_prod D11.fn D8 GCs D10 GEa
 have GIo:=ok_inOne (P:=l.prog) (w:=w) (base:=base) (mg:=mg) D12.fn
 have GSq:=ok_inSq (P:=l.prog) (w:=w) (base:=base) BR D13.fn
 have GIs:=ok_isSq (P:=l.prog) (w:=w) (base:=base) BG D14.fn
 have GSi:=ok_side (P:=l.prog) (w:=w) (base:=base) BL D15.fn
 have GNM:=ok_numM (P:=l.prog) (w:=w) (base:=base) BP D16.fn
 have GNI:=ok_numI (P:=l.prog) (w:=w) (base:=base) BP D16.fn
 have GSu:=ok_sums (P:=l.prog) (w:=w) (base:=base) BP D17.fn
 have GSl:=ok_split BP D18.fn D16 GNM D17 GSu
 have GCo:=ok_coarsest BP D19.fn D18 GSl
 have GTo:=ok_together BL D20.fn D19 GCo D15 GSi
 have GAl:=ok_alike BL D21.fn D20 GTo
 have GCm:=ok_come (P:=l.prog) (w:=w) (base:=base) BG D22.fn
 have GSh:=ok_shared D23.fn D12 GIo D22 GCm D8 GCs
 have GKh:=ok_keepsHue (P:=l.prog) (w:=w) (base:=base) BG D24.fn
 have GKe:=ok_keepHues BG D25.fn D24 GKh
 have GGo:=ok_goes BG D26.fn D14 GIs D12 GIo D5 GBo D6 GTp D13 GSq D23 GSh D25 GKe D11 GPg
 have GLS:=ok_lotSh D27.fn D1 GFr
 have GTa:=ok_tabOf D28.fn D20 GTo D27 GLS
 have GJS:=ok_jShare BR D29.fn D3 GM2 D4 GSA
 have GJR:=ok_jRow D30.fn D29 GJS
 have GJ:=ok_join D31.fn D8 GCs D30 GJR
 have GMe:=ok_merged (P:=l.prog) (w:=w) (base:=base) (mg:=mg) D32.fn
 have GLO:=ok_lotsOf BR D33.fn D8 GCs D32 GMe D16 GNI
 have GC:=ok_cell (P:=l.prog) (w:=w) (base:=base) BL D34.fn
 have GD:=ok_draws (P:=l.prog) (w:=w) (base:=base) BL D35.fn
 have GQ:=ok_square (P:=l.prog) (w:=w) (base:=base) BL D36.fn
 have GW:=ok_webP BL D37.fn D34 GC D35 GD D36 GQ
 have GO:=ok_order BL D38.fn D35 GD
 have GL:=ok_lift BL D39.fn D35 GD
 have GR:=ok_lren (P:=l.prog) (w:=w) (base:=base) (mg:=mg) D40.fn
 have GT:=ok_two BL D41.fn D34 GC D37 GW D38 GO D39 GL D40 GR
 have GLo:=ok_low (P:=l.prog) (w:=w) (base:=base) BR D42.fn
 have GLs:=ok_ords (P:=l.prog) (w:=w) (base:=base) BL D43.fn
 have GOn:=ok_onto BL D44.fn D43 GLs D40 GR
 have GTO:=ok_tabO (P:=l.prog) (w:=w) (base:=base) BL D45.fn
 have GMx:=ok_mixture BL D46.fn D42 GLo
 have GLL:=ok_ll (P:=l.prog) (w:=w) (base:=base) BL (mg_none_of X G z_min) D47.fn
 have GLE:=ok_leven (P:=l.prog) (w:=w) (base:=base) BL D48.fn
 have GWi:=ok_within (P:=l.prog) (w:=w) (base:=base) BL D49.fn
 have GOe:=ok_one BL D50.fn D26 GGo D33 GLO D47 GLL D48 GLE D49 GWi D20 GTo
 exact ok_law BL FL D41 GT D21 GAl D34 GC D28 GTa D44 GOn D35 GD D45 GTO D46 GMx D31 GJ D38 GO D50 GOe
theorem walk {l:PySem.W.OpenLaw} {q:Program} {loose:List Str} {XP:(Str→Option Value)→Heap→Prop} {YP:World→Heap→Prop} {d:DefRec} {K:Params→Frag} (hn:l.most=some 63) (hdf:d.params.defaults=[])
  (hY:∀ (w:World) (h:Heap),YP w h→(K w.params).In h)
  (F:∀ (w:World) (mg:Str→Option Value) (fa:Addr) (h:Heap),(K w.params).In h→h.Ns mainGlobals mg→mg d.name=some (.ref fa) →
   ∃ fd:FuncData,(∀ (s:Shared) (u:Value),BindsTo s fd ⟨[u],[]⟩ [("_law_script",u)])∧∀ base:Heap,(K w.params).In base→base.Ns mainGlobals mg→FnOk l.prog w (K w.params) mg base CX0 8 fa fd ["_law_script"] (spLaw (K w.params))) :
  PySem.W.WalkO q loose XP YP l.row.toRowW d [] (fun f vs=>PySem.call f vs) :=
 L2.walk_of (n:=63) (k:=8) (x:="_law_script") (CX:=fun _=>CX0) (sp:=fun w=>spLaw (K w.params)) hn (by decide) hdf ⟨rfl,by decide,by decide,rfl⟩ hY F (fun _ _ a ns hl _ hS=>⟨a,ns,rfl,hS,hl,fun _=>rfl⟩) fun _ _ _ _ _ z=>z
end My
open PySem PySem.W PyProof.Rows
namespace PySem.W.Fast
def tw13360293420094853936:=()
def tw8971126229273645049:=()
def tw11801683714264207317:=()
def tw17399898305603938102:=()
def tw12453768397729112669:=()
def tw5813301042420262318:=()
def tw10182388713251413667:=()
def tw16485479907148117509:=()
def tw17868298652785748378:=()
def tw15505368659079003535:=()
def tw3211986019478384023:=()
def tw9647931896744354841:=()
def tw11892776417355574363:=()
def tw16818473447068094260:=()
def tw5186937642979061940:=()
def tw9849293286441313369:=()
def tw13014073457400291592:=()
def tw6450827956559641910:=()
def tw6160278554321965356:=()
def tw10058661836748738846:=()
def tw10156187366414609632:=()
def tw9733663539631121113:=()
def tw6770263909559308917:=()
def tw15396515580329371365:=()
def tw10403752124806213872:=()
def tw10083380818779876132:=()
def tw7429065165473736498:=()
def tw4923273768371110939:=()
def tw7816364523786186999:=()
def tw4729989470509755663:=()
def tw15558783468228162028:=()
def tw5303535527090728375:=()
def tw345971498955347565:=()
def tw10573913294626134220:=()
def tw3283601623869122566:=()
def tw4590248074577552144:=()
def tw10741965322538556006:=()
def tw15020153864862550036:=()
def tw15019492811314348980:=()
def tw14406995298761957654:=()
def tw16351591414979808260:=()
def tw7350350621670449884:=()
def tw505606958838460874:=()
def tw10115531837473199374:=()
def tw5324847487197673784:=()
def tw8608926809694377853:=()
def tw10812776999347424267:=()
def tw945519084367343124:=()
def tw4428604372237945003:=()
def tw6251843209145961235:=()
def tw15112445084929040523:=()
def tw2326120172370562900:=()
def tw4499710505493505435:=()
def tw11651410757872998994:=()
def tw1311865486468409615:=()
def tw16648752011736066618:=()
def tw5210144982975783222:=()
def tw4004382403974629127:=()
def tw7858385426649123946:=()
def tw5635417665261772182:=()
end PySem.W.Fast
set_option maxRecDepth 100000 in
set_option maxHeartbeats 0 in
theorem PySem.Challenge.cw_evenkin_k33_whole_lots_of_any_table_holds : PySem.Challenge.rw_evenkin_k33_whole_lots_of_any_table.Holds := by
  w_on; o_law; k_head; (case hw => w_witness2)
  k_fill
  refine My.walk (l := PySem.Challenge.rw_evenkin_k33_whole_lots_of_any_table) rfl rfl (fun w h Y => PySem.W.kIn_of Y) ?F
  case F =>
    intro w mg fa h KX G hmg
    refine' My.all_mk KX G hmg (My.at_mk ?a0 ?l0 ?c0 ?k0) (My.at_mk ?a1 ?l1 ?c1 ?k1) (My.at_mk ?a2 ?l2 ?c2 ?k2) (My.at_mk ?a3 ?l3 ?c3 ?k3) (My.at_mk ?a4 ?l4 ?c4 ?k4) (My.at_mk ?a5 ?l5 ?c5 ?k5) (My.at_mk ?a6 ?l6 ?c6 ?k6) (My.at_mk ?a7 ?l7 ?c7 ?k7) (My.at_mk ?a8 ?l8 ?c8 ?k8) (My.at_mk ?a9 ?l9 ?c9 ?k9) (My.at_mk ?a10 ?l10 ?c10 ?k10) (My.at_mk ?a11 ?l11 ?c11 ?k11) (My.at_mk ?a12 ?l12 ?c12 ?k12) (My.at_mk ?a13 ?l13 ?c13 ?k13) (My.at_mk ?a14 ?l14 ?c14 ?k14) (My.at_mk ?a15 ?l15 ?c15 ?k15) (My.at_mk ?a16 ?l16 ?c16 ?k16) (My.at_mk ?a17 ?l17 ?c17 ?k17) (My.at_mk ?a18 ?l18 ?c18 ?k18) (My.at_mk ?a19 ?l19 ?c19 ?k19) (My.at_mk ?a20 ?l20 ?c20 ?k20) (My.at_mk ?a21 ?l21 ?c21 ?k21) (My.at_mk ?a22 ?l22 ?c22 ?k22) (My.at_mk ?a23 ?l23 ?c23 ?k23) (My.at_mk ?a24 ?l24 ?c24 ?k24) (My.at_mk ?a25 ?l25 ?c25 ?k25) (My.at_mk ?a26 ?l26 ?c26 ?k26) (My.at_mk ?a27 ?l27 ?c27 ?k27) (My.at_mk ?a28 ?l28 ?c28 ?k28) (My.at_mk ?a29 ?l29 ?c29 ?k29) (My.at_mk ?a30 ?l30 ?c30 ?k30) (My.at_mk ?a31 ?l31 ?c31 ?k31) (My.at_mk ?a32 ?l32 ?c32 ?k32) (My.at_mk ?a33 ?l33 ?c33 ?k33) (My.at_mk ?a34 ?l34 ?c34 ?k34) (My.at_mk ?a35 ?l35 ?c35 ?k35) (My.at_mk ?a36 ?l36 ?c36 ?k36) (My.at_mk ?a37 ?l37 ?c37 ?k37) (My.at_mk ?a38 ?l38 ?c38 ?k38) (My.at_mk ?a39 ?l39 ?c39 ?k39) (My.at_mk ?a40 ?l40 ?c40 ?k40) (My.at_mk ?a41 ?l41 ?c41 ?k41) (My.at_mk ?a42 ?l42 ?c42 ?k42) (My.at_mk ?a43 ?l43 ?c43 ?k43) (My.at_mk ?a44 ?l44 ?c44 ?k44) (My.at_mk ?a45 ?l45 ?c45 ?k45) (My.at_mk ?a46 ?l46 ?c46 ?k46) (My.at_mk ?a47 ?l47 ?c47 ?k47) (My.at_mk ?a48 ?l48 ?c48 ?k48) (My.at_mk ?a49 ?l49 ?c49 ?k49) (My.at_mk ?a50 ?l50 ?c50 ?k50) ?aL ?lL ?cL ?kL ?z_len ?z_range ?z_int ?z_sorted ?z_enumerate ?z_sum ?z_zip ?z_list ?z_isinstance ?z_bool ?z_max ?z_min ?z_abs ?z_all ?z_ValueError ?z_tuple
    (case a0 => k_is); (case l0 => k_is); (case c0 => k_is); (case k0 => k_is)
    (case a1 => k_is); (case l1 => k_is); (case c1 => k_is); (case k1 => k_is)
    (case a2 => k_is); (case l2 => k_is); (case c2 => k_is); (case k2 => k_is)
    (case a3 => k_is); (case l3 => k_is); (case c3 => k_is); (case k3 => k_is)
    (case a4 => k_is); (case l4 => k_is); (case c4 => k_is); (case k4 => k_is)
    (case a5 => k_is); (case l5 => k_is); (case c5 => k_is); (case k5 => k_is)
    (case a6 => k_is); (case l6 => k_is); (case c6 => k_is); (case k6 => k_is)
    (case a7 => k_is); (case l7 => k_is); (case c7 => k_is); (case k7 => k_is)
    (case a8 => k_is); (case l8 => k_is); (case c8 => k_is); (case k8 => k_is)
    (case a9 => k_is); (case l9 => k_is); (case c9 => k_is); (case k9 => k_is)
    (case a10 => k_is); (case l10 => k_is); (case c10 => k_is); (case k10 => k_is)
    (case a11 => k_is); (case l11 => k_is); (case c11 => k_is); (case k11 => k_is)
    (case a12 => k_is); (case l12 => k_is); (case c12 => k_is); (case k12 => k_is)
    (case a13 => k_is); (case l13 => k_is); (case c13 => k_is); (case k13 => k_is)
    (case a14 => k_is); (case l14 => k_is); (case c14 => k_is); (case k14 => k_is)
    (case a15 => k_is); (case l15 => k_is); (case c15 => k_is); (case k15 => k_is)
    (case a16 => k_is); (case l16 => k_is); (case c16 => k_is); (case k16 => k_is)
    (case a17 => k_is); (case l17 => k_is); (case c17 => k_is); (case k17 => k_is)
    (case a18 => k_is); (case l18 => k_is); (case c18 => k_is); (case k18 => k_is)
    (case a19 => k_is); (case l19 => k_is); (case c19 => k_is); (case k19 => k_is)
    (case a20 => k_is); (case l20 => k_is); (case c20 => k_is); (case k20 => k_is)
    (case a21 => k_is); (case l21 => k_is); (case c21 => k_is); (case k21 => k_is)
    (case a22 => k_is); (case l22 => k_is); (case c22 => k_is); (case k22 => k_is)
    (case a23 => k_is); (case l23 => k_is); (case c23 => k_is); (case k23 => k_is)
    (case a24 => k_is); (case l24 => k_is); (case c24 => k_is); (case k24 => k_is)
    (case a25 => k_is); (case l25 => k_is); (case c25 => k_is); (case k25 => k_is)
    (case a26 => k_is); (case l26 => k_is); (case c26 => k_is); (case k26 => k_is)
    (case a27 => k_is); (case l27 => k_is); (case c27 => k_is); (case k27 => k_is)
    (case a28 => k_is); (case l28 => k_is); (case c28 => k_is); (case k28 => k_is)
    (case a29 => k_is); (case l29 => k_is); (case c29 => k_is); (case k29 => k_is)
    (case a30 => k_is); (case l30 => k_is); (case c30 => k_is); (case k30 => k_is)
    (case a31 => k_is); (case l31 => k_is); (case c31 => k_is); (case k31 => k_is)
    (case a32 => k_is); (case l32 => k_is); (case c32 => k_is); (case k32 => k_is)
    (case a33 => k_is); (case l33 => k_is); (case c33 => k_is); (case k33 => k_is)
    (case a34 => k_is); (case l34 => k_is); (case c34 => k_is); (case k34 => k_is)
    (case a35 => k_is); (case l35 => k_is); (case c35 => k_is); (case k35 => k_is)
    (case a36 => k_is); (case l36 => k_is); (case c36 => k_is); (case k36 => k_is)
    (case a37 => k_is); (case l37 => k_is); (case c37 => k_is); (case k37 => k_is)
    (case a38 => k_is); (case l38 => k_is); (case c38 => k_is); (case k38 => k_is)
    (case a39 => k_is); (case l39 => k_is); (case c39 => k_is); (case k39 => k_is)
    (case a40 => k_is); (case l40 => k_is); (case c40 => k_is); (case k40 => k_is)
    (case a41 => k_is); (case l41 => k_is); (case c41 => k_is); (case k41 => k_is)
    (case a42 => k_is); (case l42 => k_is); (case c42 => k_is); (case k42 => k_is)
    (case a43 => k_is); (case l43 => k_is); (case c43 => k_is); (case k43 => k_is)
    (case a44 => k_is); (case l44 => k_is); (case c44 => k_is); (case k44 => k_is)
    (case a45 => k_is); (case l45 => k_is); (case c45 => k_is); (case k45 => k_is)
    (case a46 => k_is); (case l46 => k_is); (case c46 => k_is); (case k46 => k_is)
    (case a47 => k_is); (case l47 => k_is); (case c47 => k_is); (case k47 => k_is)
    (case a48 => k_is); (case l48 => k_is); (case c48 => k_is); (case k48 => k_is)
    (case a49 => k_is); (case l49 => k_is); (case c49 => k_is); (case k49 => k_is)
    (case a50 => k_is); (case l50 => k_is); (case c50 => k_is); (case k50 => k_is)
    (case aL => k_is); (case lL => k_is); (case cL => k_is); (case kL => k_is)
    (case z_len => k_is); (case z_range => k_is); (case z_int => k_is); (case z_sorted => k_is); (case z_enumerate => k_is); (case z_sum => k_is); (case z_zip => k_is); (case z_list => k_is); (case z_isinstance => k_is); (case z_bool => k_is); (case z_max => k_is); (case z_min => k_is); (case z_abs => k_is); (case z_all => k_is); (case z_ValueError => k_is); (case z_tuple => k_is)
